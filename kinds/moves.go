package kinds

import (
	"ferry/api"
	"ferry/paths"
	"ferry/tokens"
)

// goOn: by To.
func goOn(r *tokens.Run, t tokens.Token) {
	r.Send(t.Place, t.Scope, paths.To)
}

// stay: as an item.
func stay(r *tokens.Run, t tokens.Token) {
	r.AddItem(t)
}

// choose: by the first case that is true, else by Else.
func choose(r *tokens.Run, t tokens.Token) {
	cases := r.Node(t.Place).Cases
	out := 0
	// Else is the way out behind those of the cases.
	for out < len(cases) && !isTrue(cases[out], r.Vars()) {
		out++
	}
	r.Send(t.Place, t.Scope, out)
}

func isTrue(c api.Case, vars [8]int32) bool {
	v := vars[c.Var-'a']
	switch c.Op {
	case api.Less:
		return v < c.Value
	case api.Equal:
		return v == c.Value
	}
	return v > c.Value
}

// split: by each of the branches.
func split(r *tokens.Run, t tokens.Token) {
	for out := range r.Node(t.Place).Branches {
		r.Send(t.Place, t.Scope, out)
	}
}

// meet: as one, when there is one of every way.
func meet(r *tokens.Run, t tokens.Token) {
	r.AddWait(t)
	if r.Meet(t.Place, t.Scope) {
		goOn(r, t)
	}
}

// enter: to the start in the sub, in a scope of its own.
func enter(r *tokens.Run, t tokens.Token) {
	r.Begin(t.Place, r.AddScope(t))
}

// leave: the last one in its scope goes out of it.
func leave(r *tokens.Run, t tokens.Token) {
	switch {
	case !r.Empty(t.Scope):
	case t.Scope == tokens.Whole:
		r.Finish()
	default:
		s := r.TakeScope(t.Scope)
		r.Send(s.Place, s.Scope, paths.To)
	}
}
