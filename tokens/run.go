// Package tokens has a run whose tokens move: where they are, and what can become of one.
package tokens

import (
	"ferry/api"
	"ferry/paths"
)

// Whole is the scope that is no sub's: the whole run.
const Whole = 0

// NoSub is where a node stands that is in no sub.
const NoSub = -1

// Token is on its way to a node, in a scope, by one of the ways into the node.
type Token struct {
	Place, Scope, Way int
}

// Run is a run while it moves.
type Run struct {
	nodes []api.Node
	now   int
	state api.State
	onWay []Token // the one that has been on its way longest first
}

// Of takes up a run of a model with these nodes; the state that is handed in stays as it is.
func Of(nodes []api.Node, now int, s api.State) *Run {
	return &Run{nodes: nodes, now: now, state: Copy(s)}
}

// Copy tells a state with lists of its own. Those that are empty are nil, so that it can't be seen how they came to be so.
func Copy(s api.State) api.State {
	s.Items = append([]api.Item(nil), s.Items...)
	s.Scopes = append([]api.Scope(nil), s.Scopes...)
	s.Waits = append([]api.Wait(nil), s.Waits...)
	return s
}

// State tells how the run is when it is at rest; whoever moves it further takes up a new one.
func (r *Run) State() api.State {
	return r.state
}

// Node tells the node at a place.
func (r *Run) Node(place int) api.Node {
	return r.nodes[place]
}

// Vars tells the variables.
func (r *Run) Vars() [8]int32 {
	return r.state.Vars
}

// SetVars sets the variables.
func (r *Run) SetVars(vars [8]int32) {
	r.state.Vars = vars
}

// Finish says that the run is done.
func (r *Run) Finish() {
	r.state.Done = 1
}

// TooMany tells whether there is more in the run than there may be.
func (r *Run) TooMany() bool {
	sum := len(r.state.Items) + len(r.state.Scopes) + len(r.onWay)
	for _, w := range r.state.Waits {
		sum += w.Count
	}
	return sum > api.MaxTokens || r.state.Next > api.MaxNumber
}

// Begin sends a token to the start that stands in a sub.
func (r *Run) Begin(sub, scope int) {
	for i, n := range r.nodes {
		if n.Kind == api.Start && n.Up == sub {
			r.onWay = append(r.onWay, Token{Place: i, Scope: scope})
		}
	}
}

// Send sends a token on by a way out of a node.
func (r *Run) Send(from, scope, out int) {
	to, way := paths.Follow(r.nodes, from, out)
	r.onWay = append(r.onWay, Token{Place: to, Scope: scope, Way: way})
}

// Next takes the token that is to be moved; false: none is on its way.
func (r *Run) Next() (Token, bool) {
	if len(r.onWay) == 0 {
		return Token{}, false
	}
	t := r.onWay[0]
	r.onWay = r.onWay[1:]
	return t, true
}
