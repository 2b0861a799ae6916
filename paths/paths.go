// Package paths has the ways that lead from node to node.
package paths

import "ferry/api"

// none is a place where there is none.
const none = -1

// To is the number of the way out by To, which is the first at every node that has one.
const To = 0

// Out tells where the ways out of a node lead, in their order.
func Out(n api.Node) []int {
	return append(Timely(n), present(n.Late)...)
}

// Timely leaves out the one that is taken when a token has waited too long.
func Timely(n api.Node) []int {
	l := present(n.To)
	for _, c := range n.Cases {
		l = append(l, c.To)
	}
	l = append(l, present(n.Else)...)
	return append(l, n.Branches...)
}

// present leaves out the places where there is none.
func present(places ...int) []int {
	var l []int
	for _, p := range places {
		if p != none {
			l = append(l, p)
		}
	}
	return l
}

// Late tells the number of the way out by Late, of a node that has a timer.
func Late(n api.Node) int {
	return len(Timely(n))
}

// Into tells how many ways lead into a node.
func Into(nodes []api.Node, place int) int {
	sum := 0
	for _, n := range nodes {
		sum += count(Out(n), place)
	}
	return sum
}

// Follow tells to which node a way out leads, and which of the ways into that node it is.
func Follow(nodes []api.Node, from, out int) (to, way int) {
	ways := Out(nodes[from])
	to = ways[out]
	return to, Into(nodes[:from], to) + count(ways[:out], to)
}

func count(places []int, place int) int {
	sum := 0
	for _, p := range places {
		if p == place {
			sum++
		}
	}
	return sum
}
