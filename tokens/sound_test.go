package tokens

import (
	"testing"

	"ferry/api"
)

// nodes: a sub u with a timer, in which stand a join, a task with a timer and a sub v; beside it a task without a timer.
func nodes() []api.Node {
	node := func(kind, up, to, after, late int) api.Node {
		return api.Node{Kind: kind, Up: up, To: to, Else: -1, After: after, Late: late}
	}
	return []api.Node{
		0:  node(api.Start, -1, 1, 0, -1),
		1:  node(api.Sub, -1, 9, 5, 9),
		2:  node(api.Start, 1, 4, 0, -1),
		3:  node(api.Join, 1, 8, 0, -1),
		4:  node(api.Task, 1, 3, 7, 3),
		5:  node(api.Sub, 1, 4, 0, -1),
		6:  node(api.Start, 5, 7, 0, -1),
		7:  node(api.End, 5, -1, 0, -1),
		8:  node(api.End, 1, -1, 0, -1),
		9:  node(api.Task, -1, 10, 0, -1),
		10: node(api.End, -1, -1, 0, -1),
	}
}

func state() api.State {
	return api.State{
		Next:   9,
		Scopes: []api.Scope{{Number: 1, Place: 1, Due: 5}, {Number: 3, Place: 5, Scope: 1}, {Number: 4, Place: 1, Due: 6}},
		Items:  []api.Item{{Number: 2, Place: 4, Scope: 1, Due: 7}, {Number: 5, Place: 4, Scope: 4, Due: 9}, {Number: 8, Place: 9}},
		Waits:  []api.Wait{{Place: 3, Scope: 1, Way: 0, Count: 1}, {Place: 3, Scope: 4, Way: 1, Count: 2}},
	}
}

func TestSound(t *testing.T) {
	if !Sound(nodes(), state()) || !Sound(nodes(), api.State{Next: 1}) || !Sound(nodes(), api.State{Next: 1000, Done: 1}) {
		t.Fatalf("a state that there can be is not sound")
	}
	full := state()
	full.Waits[1].Count = 40 - 7
	if !Sound(nodes(), full) {
		t.Errorf("as many tokens as there may be are not sound")
	}
	for what, change := range map[string]func(s *api.State){
		"NEXT 0":                          func(s *api.State) { *s = api.State{} },
		"NEXT 1001":                       func(s *api.State) { s.Next = 1001 },
		"NEXT of an item":                 func(s *api.State) { s.Next = 8 },
		"an item without a number":        func(s *api.State) { s.Items[0].Number = 0 },
		"an item at a join":               func(s *api.State) { s.Items[0].Place = 3 },
		"an item at an end":               func(s *api.State) { s.Items[2].Place = 10 },
		"an item nowhere":                 func(s *api.State) { s.Items[0].Place = 11 },
		"an item ahead of all":            func(s *api.State) { s.Items[0].Place = -1 },
		"an item in no scope":             func(s *api.State) { s.Items[0].Scope = 2 },
		"an item in the whole run":        func(s *api.State) { s.Items[0].Scope = 0 },
		"an item in another sub":          func(s *api.State) { s.Items[0].Scope = 3 },
		"an item that is due too little":  func(s *api.State) { s.Items[0].Due = 0 },
		"an item that is due":             func(s *api.State) { s.Items[2].Due = 3 },
		"a scope at a task":               func(s *api.State) { s.Scopes[0].Place = 9; s.Scopes[0].Due = 0 },
		"a scope in itself":               func(s *api.State) { s.Scopes[1].Scope = 3 },
		"a scope in a later one":          func(s *api.State) { s.Scopes[1].Scope = 4 },
		"a scope that is due":             func(s *api.State) { s.Scopes[1].Due = 4 },
		"a scope that is never due":       func(s *api.State) { s.Scopes[0].Due = 0 },
		"a scope twice":                   func(s *api.State) { s.Scopes[2].Number = 3; s.Items[1].Scope = 3; s.Waits[1].Scope = 3 },
		"a scope ahead of an earlier one": func(s *api.State) { s.Scopes[2].Number = 2; s.Items[1].Scope = 2; s.Waits[1].Scope = 2 },
		"a scope that is the whole run":   func(s *api.State) { s.Scopes[0].Number = 0 },
		"a scope with too high a number":  func(s *api.State) { s.Scopes[2].Number = 9; s.Items[1].Scope = 9; s.Waits[1].Scope = 9 },
		"a wait at a task":                func(s *api.State) { s.Waits[0].Place = 4 },
		"a wait in no scope":              func(s *api.State) { s.Waits[0].Scope = 2 },
		"a wait by no way":                func(s *api.State) { s.Waits[0].Way = 2 },
		"a wait ahead of all ways":        func(s *api.State) { s.Waits[0].Way = -1 },
		"a wait of none":                  func(s *api.State) { s.Waits[0].Count = 0 },
		"too many tokens":                 func(s *api.State) { s.Waits[1].Count = 40 - 6 },
	} {
		s := state()
		if change(&s); Sound(nodes(), s) {
			t.Errorf("%s is sound: %+v", what, s)
		}
	}
}
