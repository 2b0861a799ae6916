package world

import (
	"math"
	"slices"

	"ferry/api"
	"ferry/kinds"
	"ferry/paths"
	"ferry/tokens"
)

// Start begins a run, whose number it tells (P7).
func (w World) Start(model int, vars [8]int32) (World, int, api.Errno) {
	if !has(len(w.models), model) {
		return World{}, 0, api.ErrNone
	}
	number := len(w.runs)
	if number == api.MaxRuns {
		return World{}, 0, api.ErrFull
	}
	w.runs = append(slices.Clone(w.runs), api.State{Model: model, Vars: vars, Next: 1})
	r := w.run(number)
	r.Begin(tokens.NoSub, tokens.Whole)
	if !w.rest(number, r) {
		return World{}, 0, api.ErrTokens
	}
	return w, number, api.OK
}

// Complete says that an item's task is done (P8).
func (w World) Complete(run, item int, sets []api.Set) (World, api.Errno) {
	if !has(len(w.runs), run) {
		return World{}, api.ErrNone
	}
	w.runs = slices.Clone(w.runs)
	r := w.run(run)
	x, ok := r.TakeItem(item)
	if !ok {
		return World{}, api.ErrNone
	}
	vars, ok := setAll(r.Vars(), sets)
	if !ok {
		return World{}, api.ErrSet
	}
	r.SetVars(vars)
	r.Send(x.Place, x.Scope, paths.To)
	if !w.rest(run, r) {
		return World{}, api.ErrTokens
	}
	return w, api.OK
}

// setAll does the sets, one behind the other; false: one of them can't be done, or they are too many.
func setAll(vars [8]int32, sets []api.Set) ([8]int32, bool) {
	if len(sets) > api.MaxSets {
		return vars, false
	}
	for _, s := range sets {
		if !kinds.IsVar(s.Var) {
			return vars, false
		}
		v := &vars[s.Var-'a']
		sum := int64(s.Value)
		switch s.Op {
		case api.Put:
		case api.Add:
			sum += int64(*v)
		default:
			return vars, false
		}
		if sum < math.MinInt32 || sum > math.MaxInt32 {
			return vars, false
		}
		*v = int32(sum)
	}
	return vars, true
}

// run takes up a run.
func (w World) run(number int) *tokens.Run {
	s := w.runs[number]
	return tokens.Of(w.models[s.Model].Nodes, w.now, s)
}

// rest moves a run till it is at rest, and puts it among the runs, whose list must be of this world alone; false: it would be too many.
func (w World) rest(number int, r *tokens.Run) bool {
	table := kinds.Table()
	for t, ok := r.Next(); ok; t, ok = r.Next() {
		row, _ := kinds.OfKind(table, r.Node(t.Place).Kind)
		row.Move(r, t)
		if r.TooMany() {
			return false
		}
	}
	w.runs[number] = r.State()
	return true
}
