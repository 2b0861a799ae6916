package tokens

import (
	"cmp"
	"slices"

	"ferry/api"
	"ferry/paths"
)

// AddItem makes a token an item.
func (r *Run) AddItem(t Token) {
	r.state.Items = append(r.state.Items, api.Item{Number: r.number(), Place: t.Place, Scope: t.Scope, Due: r.due(t.Place)})
}

// AddScope makes a token a scope, whose number it tells.
func (r *Run) AddScope(t Token) int {
	s := api.Scope{Number: r.number(), Place: t.Place, Scope: t.Scope, Due: r.due(t.Place)}
	r.state.Scopes = append(r.state.Scopes, s)
	return s.Number
}

// number takes the number that comes next.
func (r *Run) number() int {
	n := r.state.Next
	r.state.Next++
	return n
}

// due tells when a node's timer takes away what comes there now; 0: it has none.
func (r *Run) due(place int) int {
	after := r.nodes[place].After
	if after == 0 {
		return 0
	}
	return r.now + after
}

// AddWait makes a token one more of those that came to a join by its way.
func (r *Run) AddWait(t Token) {
	for i, w := range r.state.Waits {
		if w.Place == t.Place && w.Scope == t.Scope && w.Way == t.Way {
			r.state.Waits[i].Count++
			return
		}
	}
	r.state.Waits = append(r.state.Waits, api.Wait{Place: t.Place, Scope: t.Scope, Way: t.Way, Count: 1})
	slices.SortFunc(r.state.Waits, byScope)
}

// byScope is the order in which waits are told.
func byScope(a, b api.Wait) int {
	return cmp.Or(cmp.Compare(a.Scope, b.Scope), cmp.Compare(a.Place, b.Place), cmp.Compare(a.Way, b.Way))
}

// Meet takes one of each way's tokens away from a join; false: on some way none waits, and all stay.
func (r *Run) Meet(join, scope int) bool {
	ways := 0
	var left []api.Wait
	for _, w := range r.state.Waits {
		if w.Place == join && w.Scope == scope {
			ways++
			w.Count--
		}
		if w.Count > 0 {
			left = append(left, w)
		}
	}
	if ways < paths.Into(r.nodes, join) {
		return false
	}
	r.state.Waits = left
	return true
}

// Empty tells whether nothing is in a scope.
func (r *Run) Empty(scope int) bool {
	return !slices.ContainsFunc(r.state.Items, func(x api.Item) bool { return x.Scope == scope }) &&
		!slices.ContainsFunc(r.state.Scopes, func(x api.Scope) bool { return x.Scope == scope }) &&
		!slices.ContainsFunc(r.state.Waits, func(x api.Wait) bool { return x.Scope == scope }) &&
		!slices.ContainsFunc(r.onWay, func(x Token) bool { return x.Scope == scope })
}

// TakeItem takes an item away; false: there is none of this number.
func (r *Run) TakeItem(number int) (api.Item, bool) {
	for i, x := range r.state.Items {
		if x.Number == number {
			r.state.Items = slices.Delete(r.state.Items, i, i+1)
			return x, true
		}
	}
	return api.Item{}, false
}

// TakeScope takes a scope away with all that is in it, and in what is in it.
func (r *Run) TakeScope(number int) api.Scope {
	var taken api.Scope
	gone := []int{number}
	for _, x := range r.state.Scopes {
		if x.Number == number {
			taken = x
		}
		// A scope has a greater number than the one in which it is, so it stands behind it.
		if slices.Contains(gone, x.Scope) {
			gone = append(gone, x.Number)
		}
	}
	r.state.Scopes = slices.DeleteFunc(r.state.Scopes, func(x api.Scope) bool { return slices.Contains(gone, x.Number) })
	r.state.Items = slices.DeleteFunc(r.state.Items, func(x api.Item) bool { return slices.Contains(gone, x.Scope) })
	r.state.Waits = slices.DeleteFunc(r.state.Waits, func(x api.Wait) bool { return slices.Contains(gone, x.Scope) })
	return taken
}
