// Package models reads models from texts, looks them over, and writes them.
package models

import (
	"ferry/api"
	"ferry/kinds"
	"ferry/markup"
)

// none is a place where there is none.
const none = -1

// Read reads a model (P3).
func Read(text string) (api.Model, api.Errno) {
	root, ok := markup.Parse(text)
	if !ok {
		return api.Model{}, api.ErrText
	}
	if root.Name != "process" || !kinds.Shaped(root) {
		return api.Model{}, api.ErrModel
	}
	r := reader{table: kinds.Table()}
	r.gather(root.Within, none)
	// Far more nodes than a model may have would only be worked on for nothing.
	if len(r.nodes) > api.MaxNodes {
		return api.Model{}, api.ErrGraph
	}
	r.link()
	m := api.Model{Id: root.Value("id"), Nodes: r.nodes}
	if !r.setTimers() || !Right(m) {
		return api.Model{}, api.ErrGraph
	}
	return m, api.OK
}

// reader makes nodes of elements that are as the table says.
type reader struct {
	table    []kinds.Row
	nodes    []api.Node
	elements []markup.Element // those of which the nodes are made
	timers   []timer
}

// timer is a timer's element, and the place of the sub in which it stands.
type timer struct {
	element markup.Element
	up      int
}

// gather takes the nodes and timers among elements, and those within them.
func (r *reader) gather(l []markup.Element, up int) {
	for _, e := range l {
		row, _ := kinds.OfName(r.table, e.Name)
		switch {
		case e.Name == "timer":
			r.timers = append(r.timers, timer{element: e, up: up})
		case row.Kind != 0:
			r.nodes = append(r.nodes, api.Node{Kind: row.Kind, Id: e.Value("id"), Name: e.Value("name"), Up: up, To: none, Else: none, Late: none})
			r.elements = append(r.elements, e)
			r.gather(e.Within, len(r.nodes)-1)
		}
	}
}

// place tells where the node with an id stands; none: there is none, which no right model has as a way's end.
func (r *reader) place(id string) int {
	for i, n := range r.nodes {
		if n.Id == id {
			return i
		}
	}
	return none
}

// link sets the ways out of the nodes, but those of timers.
func (r *reader) link() {
	for i, e := range r.elements {
		n := &r.nodes[i]
		if to, ok := e.Find("to"); ok {
			n.To = r.place(to)
		}
		for _, w := range e.Within {
			r.linkPart(n, w)
		}
	}
}

// linkPart sets what an element within a node's element tells of the node.
func (r *reader) linkPart(n *api.Node, e markup.Element) {
	to := r.place(e.Value("to"))
	switch e.Name {
	case "when":
		value, _ := kinds.Number(e.Value("value"))
		n.Cases = append(n.Cases, api.Case{Var: e.Value("var")[0], Op: kinds.OpNamed(e.Value("op")), Value: value, To: to})
	case "else":
		n.Else = to
	case "branch":
		n.Branches = append(n.Branches, to)
	}
}

// setTimers sets the timers of the nodes; false: one is on nothing beside it, or two are on one. (That its kind may have one is looked over with the other fields.)
func (r *reader) setTimers() bool {
	for _, t := range r.timers {
		on := r.place(t.element.Value("on"))
		if on == none || r.nodes[on].Up != t.up || r.nodes[on].After != 0 {
			return false
		}
		after, _ := kinds.Number(t.element.Value("after"))
		r.nodes[on].After = int(after)
		r.nodes[on].Late = r.place(t.element.Value("to"))
	}
	return true
}
