package paths

import (
	"reflect"
	"testing"

	"ferry/api"
)

// The ways out are in DOC.md's order, and only those that there are.
func TestOut(t *testing.T) {
	for _, c := range []struct {
		n    api.Node
		want []int
		late int
	}{
		{api.Node{To: -1, Else: -1, Late: -1}, nil, 0},
		{api.Node{To: 0, Else: -1, Late: -1}, []int{0}, 1},
		{api.Node{To: 3, Else: -1, Late: 2}, []int{3, 2}, 1},
		{api.Node{To: -1, Cases: []api.Case{{To: 5}, {To: 4}}, Else: 3, Late: -1}, []int{5, 4, 3}, 3},
		{api.Node{To: -1, Else: -1, Branches: []int{7, 7, 1}, Late: -1}, []int{7, 7, 1}, 3},
		{api.Node{To: 9, Cases: []api.Case{{To: 8}}, Else: 7, Branches: []int{6, 5}, Late: 4}, []int{9, 8, 7, 6, 5, 4}, 5},
	} {
		if got := Out(c.n); !reflect.DeepEqual(got, c.want) {
			t.Errorf("Out(%+v) = %v, want %v", c.n, got, c.want)
		}
		if got := Late(c.n); got != c.late {
			t.Errorf("Late(%+v) = %d, want %d", c.n, got, c.late)
		}
	}
}

// The ways into a node are numbered by the places of the nodes from which they come, and of one node in the order of its ways out.
func TestFollow(t *testing.T) {
	nodes := []api.Node{
		{To: 3, Else: -1, Late: 4},
		{To: -1, Else: -1, Branches: []int{3, 4, 3}, Late: -1},
		{To: -1, Cases: []api.Case{{To: 4}, {To: 3}}, Else: 3, Late: -1},
		{To: 4, Else: -1, Late: 3},
		{To: -1, Else: -1, Late: -1},
	}
	for _, c := range []struct{ from, out, to, way int }{
		{0, 0, 3, 0}, {0, 1, 4, 0},
		{1, 0, 3, 1}, {1, 1, 4, 1}, {1, 2, 3, 2},
		{2, 0, 4, 2}, {2, 1, 3, 3}, {2, 2, 3, 4},
		{3, 0, 4, 3}, {3, 1, 3, 5},
	} {
		if to, way := Follow(nodes, c.from, c.out); to != c.to || way != c.way {
			t.Errorf("Follow(%d, %d) = %d, %d, want %d, %d", c.from, c.out, to, way, c.to, c.way)
		}
	}
	for place, want := range []int{0, 0, 0, 6, 4} {
		if got := Into(nodes, place); got != want {
			t.Errorf("Into(%d) = %d, want %d", place, got, want)
		}
	}
}
