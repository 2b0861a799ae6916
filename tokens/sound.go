package tokens

import (
	"ferry/api"
	"ferry/paths"
)

// Sound tells whether a run of a model with these nodes can move on from a state. What it came to by moving is always so; what was found on a disk may be anything.
func Sound(nodes []api.Node, s api.State) bool {
	if s.Next < 1 || Of(nodes, 0, s).TooMany() {
		return false
	}
	c := checker{nodes: nodes, next: s.Next, subs: map[int]int{Whole: NoSub}}
	last := 0
	for _, x := range s.Scopes {
		if x.Number <= last || !c.held(api.Sub, api.Item(x)) {
			return false
		}
		last = x.Number
		c.subs[x.Number] = x.Place
	}
	for _, x := range s.Items {
		if !c.held(api.Task, x) {
			return false
		}
	}
	for _, x := range s.Waits {
		if !c.stands(api.Join, x.Place, x.Scope) || x.Way < 0 || x.Way >= paths.Into(nodes, x.Place) || x.Count < 1 {
			return false
		}
	}
	return true
}

// checker looks over what a run has.
type checker struct {
	nodes []api.Node
	next  int
	subs  map[int]int // the places of the subs, by the numbers of their scopes
}

// stands: something is at a node of this kind, in a scope of the sub in which the node stands.
func (c checker) stands(kind, place, scope int) bool {
	up, ok := c.subs[scope]
	return ok && 0 <= place && place < len(c.nodes) && c.nodes[place].Kind == kind && c.nodes[place].Up == up
}

// held: an item, or a scope, has a number that was given out, and is due just if it has a timer.
func (c checker) held(kind int, x api.Item) bool {
	return c.stands(kind, x.Place, x.Scope) && 0 < x.Number && x.Number < c.next && (x.Due > 0) == (c.nodes[x.Place].After > 0)
}
