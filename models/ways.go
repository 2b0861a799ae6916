package models

import "ferry/api"

// Ways tells where the ways out of a node lead, in their order.
func Ways(n api.Node) []int {
	return append(timelyWays(n), present(n.Late)...)
}

// timelyWays leaves out the one that is taken when a token has waited too long.
func timelyWays(n api.Node) []int {
	l := present(n.To)
	for _, c := range n.Cases {
		l = append(l, c.To)
	}
	l = append(l, present(n.Else)...)
	return append(l, n.Branches...)
}

// present leaves out the places where there is none.
func present(places ...int) []int {
	var l []int
	for _, p := range places {
		if p != none {
			l = append(l, p)
		}
	}
	return l
}
