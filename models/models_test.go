package models

import (
	"reflect"
	"testing"

	"ferry/api"
)

// The ways out are in DOC.md's order, and only those that there are.
func TestWays(t *testing.T) {
	for _, c := range []struct {
		n    api.Node
		want []int
	}{
		{api.Node{To: -1, Else: -1, Late: -1}, nil},
		{api.Node{To: 0, Else: -1, Late: -1}, []int{0}},
		{api.Node{To: 3, Else: -1, Late: 2}, []int{3, 2}},
		{api.Node{To: -1, Cases: []api.Case{{To: 5}, {To: 4}}, Else: 3, Late: -1}, []int{5, 4, 3}},
		{api.Node{To: -1, Else: -1, Branches: []int{7, 7, 1}, Late: -1}, []int{7, 7, 1}},
		{api.Node{To: 9, Cases: []api.Case{{To: 8}}, Else: 7, Branches: []int{6, 5}, Late: 4}, []int{9, 8, 7, 6, 5, 4}},
	} {
		if got := Ways(c.n); !reflect.DeepEqual(got, c.want) {
			t.Errorf("Ways(%+v) = %v, want %v", c.n, got, c.want)
		}
	}
}
