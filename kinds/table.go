// Package kinds has the table of the elements and of the kinds of nodes: what each of them is.
package kinds

import (
	"ferry/api"
	"ferry/tokens"
)

// Fields are those of a node that not every node has.
type Fields uint

const (
	To Fields = 1 << iota
	Name
	Cases
	Else
	Branches
	Timer
)

// Attr is an attribute that an element has.
type Attr struct {
	Name string
	Free bool // it may be left out
}

// Part is what counts of an element in the one within which it stands.
type Part struct {
	Name string
	Kind int
}

// Row tells what an element is and, if it is a node, what a node of its kind is.
type Row struct {
	Name   string
	Attrs  []Attr              // in the order in which they are written
	Within func(l []Part) bool // whether these may stand within it
	Kind   int                 // of the node; 0: it is no node
	Must   Fields
	May    Fields
	Passed bool                                // a token that comes there may go on at once
	Move   func(r *tokens.Run, t tokens.Token) // what a token that comes there does
}

// Table is made by a function, as tables of function values do not stand at package level.
func Table() []Row {
	return []Row{
		{Name: "process", Attrs: must("id"), Within: nodesAndTimers},
		{Name: "start", Attrs: must("id", "to"), Within: nothing, Kind: api.Start, Must: To, Move: goOn},
		{Name: "task", Attrs: free(must("id", "to"), "name"), Within: nothing, Kind: api.Task, Must: To, May: Name | Timer, Move: stay},
		{Name: "choice", Attrs: must("id"), Within: whensAndElse, Kind: api.Choice, Must: Else, May: Cases, Passed: true, Move: choose},
		{Name: "when", Attrs: must("var", "op", "value", "to"), Within: nothing},
		{Name: "else", Attrs: must("to"), Within: nothing},
		{Name: "fork", Attrs: must("id"), Within: branches, Kind: api.Fork, Must: Branches, Passed: true, Move: split},
		{Name: "branch", Attrs: must("to"), Within: nothing},
		{Name: "join", Attrs: must("id", "to"), Within: nothing, Kind: api.Join, Must: To, Passed: true, Move: meet},
		{Name: "sub", Attrs: must("id", "to"), Within: nodesAndTimers, Kind: api.Sub, Must: To, May: Timer, Passed: true, Move: enter},
		{Name: "end", Attrs: must("id"), Within: nothing, Kind: api.End, Move: leave},
		{Name: "timer", Attrs: must("on", "after", "to"), Within: nothing},
	}
}

// must tells the attributes that an element must have.
func must(names ...string) []Attr {
	var l []Attr
	for _, n := range names {
		l = append(l, Attr{Name: n})
	}
	return l
}

// free adds attributes that may be left out.
func free(l []Attr, names ...string) []Attr {
	for _, n := range names {
		l = append(l, Attr{Name: n, Free: true})
	}
	return l
}

func nothing(l []Part) bool {
	return len(l) == 0
}

func nodesAndTimers(l []Part) bool {
	for _, p := range l {
		if p.Kind == 0 && p.Name != "timer" {
			return false
		}
	}
	return true
}

func whensAndElse(l []Part) bool {
	last := len(l) - 1
	return 0 <= last && last <= api.MaxWays && allNamed(l[:last], "when") && l[last].Name == "else"
}

func branches(l []Part) bool {
	return 2 <= len(l) && len(l) <= api.MaxWays && allNamed(l, "branch")
}

func allNamed(l []Part, name string) bool {
	for _, p := range l {
		if p.Name != name {
			return false
		}
	}
	return true
}

// OfName finds an element's row; false: there is no such element.
func OfName(table []Row, name string) (Row, bool) {
	for _, r := range table {
		if r.Name == name {
			return r, true
		}
	}
	return Row{}, false
}

// OfKind finds the row of a kind of nodes; false: there is no such kind.
func OfKind(table []Row, kind int) (Row, bool) {
	for _, r := range table {
		if r.Kind == kind && kind != 0 {
			return r, true
		}
	}
	return Row{}, false
}
