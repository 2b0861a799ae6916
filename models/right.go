package models

import (
	"ferry/api"
	"ferry/kinds"
	"ferry/markup"
	"ferry/paths"
)

// maxSubs: in which a node stands.
const maxSubs = 4

// Right tells whether a model is right.
func Right(m api.Model) bool {
	if !kinds.IsID(m.Id) || len(m.Nodes) > api.MaxNodes {
		return false
	}
	c := checker{table: kinds.Table(), nodes: m.Nodes}
	// The later ones lean on what the ones ahead of them have found right.
	return c.nodesFit() && c.idsDiffer() && c.nested() && c.waysLead() && c.begunAndEnded() && c.entered() && c.roundless()
}

// checker looks over a model's nodes.
type checker struct {
	table []kinds.Row
	nodes []api.Node
}

// nodesFit: each node has an id and the fields of its kind, and only these.
func (c checker) nodesFit() bool {
	for _, n := range c.nodes {
		row, ok := kinds.OfKind(c.table, n.Kind)
		if !ok || !kinds.IsID(n.Id) || !boundsHold(n) {
			return false
		}
		have := fieldsOf(n)
		if have&row.Must != row.Must || have&^(row.Must|row.May) != 0 {
			return false
		}
	}
	return true
}

// fieldsOf tells which fields a node has.
func fieldsOf(n api.Node) kinds.Fields {
	return having(n.To != none, kinds.To) |
		having(n.Name != "", kinds.Name) |
		having(len(n.Cases) > 0, kinds.Cases) |
		having(n.Else != none, kinds.Else) |
		having(len(n.Branches) > 0, kinds.Branches) |
		having(n.After != 0 || n.Late != none, kinds.Timer)
}

func having(has bool, f kinds.Fields) kinds.Fields {
	if has {
		return f
	}
	return 0
}

// boundsHold: what a node has is as it must be in any node that has it.
func boundsHold(n api.Node) bool {
	timed := fieldsOf(n)&kinds.Timer != 0
	return markup.IsValue(n.Name) && casesFit(n.Cases) &&
		len(n.Branches) != 1 && len(n.Branches) <= api.MaxWays &&
		(!timed || 1 <= n.After && n.After <= kinds.MaxAfter && n.Late != none)
}

func casesFit(l []api.Case) bool {
	if len(l) > api.MaxWays {
		return false
	}
	for _, c := range l {
		if !kinds.IsVar(c.Var) || kinds.OpName(c.Op) == "" {
			return false
		}
	}
	return true
}

func (c checker) idsDiffer() bool {
	for i, n := range c.nodes {
		for _, earlier := range c.nodes[:i] {
			if earlier.Id == n.Id {
				return false
			}
		}
	}
	return true
}

// nested: all that stands in a sub stands right behind it, and no node stands in too many.
func (c checker) nested() bool {
	var open []int // the subs in which a node may still stand, the outermost first
	for i, n := range c.nodes {
		for len(open) > 0 && open[len(open)-1] != n.Up {
			open = open[:len(open)-1]
		}
		if len(open) > maxSubs || len(open) == 0 && n.Up != none {
			return false
		}
		if n.Kind == api.Sub {
			open = append(open, i)
		}
	}
	return true
}

// waysLead: every way out leads to a node beside that is no start.
func (c checker) waysLead() bool {
	for _, n := range c.nodes {
		for _, to := range paths.Out(n) {
			if to < 0 || to >= len(c.nodes) || c.nodes[to].Up != n.Up || c.nodes[to].Kind == api.Start {
				return false
			}
		}
	}
	return true
}

// begunAndEnded: in each sub, and in none, there is one start, and an end.
func (c checker) begunAndEnded() bool {
	if c.count(api.Start, none) != 1 || c.count(api.End, none) == 0 {
		return false
	}
	for i, n := range c.nodes {
		if n.Kind == api.Sub && (c.count(api.Start, i) != 1 || c.count(api.End, i) == 0) {
			return false
		}
	}
	return true
}

// count tells how many nodes of a kind stand in a sub.
func (c checker) count(kind, up int) int {
	sum := 0
	for _, n := range c.nodes {
		if n.Kind == kind && n.Up == up {
			sum++
		}
	}
	return sum
}

// entered: every node has the ways in that its kind needs.
func (c checker) entered() bool {
	for i, n := range c.nodes {
		if paths.Into(c.nodes, i) < waysNeeded(n.Kind) {
			return false
		}
	}
	return true
}

func waysNeeded(kind int) int {
	switch kind {
	case api.Start:
		return 0
	case api.Join:
		return 2
	}
	return 1
}

// roundless: no token can go round for ever.
func (c checker) roundless() bool {
	// A node is calm if each way on from it comes to a halt; where nothing goes round, every pass finds another one till all are.
	calm := make([]bool, len(c.nodes))
	for range c.nodes {
		for i, n := range c.nodes {
			calm[i] = !c.passed(n) || allCalm(calm, paths.Timely(n))
		}
	}
	for _, is := range calm {
		if !is {
			return false
		}
	}
	return true
}

// passed tells whether a token goes through a node without a halt.
func (c checker) passed(n api.Node) bool {
	row, _ := kinds.OfKind(c.table, n.Kind)
	return row.Passed
}

func allCalm(calm []bool, places []int) bool {
	for _, p := range places {
		if !calm[p] {
			return false
		}
	}
	return true
}
