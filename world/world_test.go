package world

import (
	"reflect"
	"testing"

	"ferry/api"
)

const text = `<process id="p"><start id="s" to="f"/><fork id="f"><branch to="t"/><branch to="t"/></fork><task id="t" to="e"/><timer on="t" after="2" to="e"/><end id="e"/></process>`

// told is all that a world tells.
func told(w World) []any {
	l := []any{w.Now()}
	for i := range api.MaxModels + 1 {
		m, e := w.Model(i)
		l = append(l, m, e)
	}
	for i := range api.MaxRuns + 1 {
		s, e := w.Look(i)
		l = append(l, s, e)
	}
	return l
}

// From each world several lead on, and none of them is changed by what is made of another.
func TestWorldsStay(t *testing.T) {
	var w World
	steps := []func(w World) World{
		func(w World) World { next, _, _ := w.Deploy(text); return next },
		func(w World) World { next, _, _ := w.Start(0, [8]int32{3}); return next },
		func(w World) World { next, _, _ := w.Start(0, [8]int32{4}); return next },
		func(w World) World {
			next, _ := w.Complete(0, 2, []api.Set{{Var: 'b', Op: api.Put, Value: 9}})
			return next
		},
		func(w World) World { next, _ := w.Tick(1); return next },
		func(w World) World { next, _, _ := w.Start(0, [8]int32{5}); return next },
		func(w World) World { next, _, _ := w.Start(0, [8]int32{6}); return next },
		func(w World) World { next, _, _ := w.Start(0, [8]int32{7}); return next },
		func(w World) World { next, _, _ := w.Deploy(text); return next },
		func(w World) World { next, _ := w.Tick(1); return next },
		func(w World) World { next, _ := w.Complete(2, 1, nil); return next },
	}
	for i, step := range steps {
		before := told(w)
		next := step(w)
		after := told(next)
		if reflect.DeepEqual(before, after) {
			t.Fatalf("step %d does nothing", i)
		}
		for _, other := range steps {
			other(w)
		}
		w.Start(0, [8]int32{8})
		w.Complete(0, 1, nil)
		w.Tick(1000)
		if !reflect.DeepEqual(told(w), before) {
			t.Errorf("step %d: the world behind which it came is changed", i)
		}
		if !reflect.DeepEqual(told(next), after) {
			t.Errorf("step %d: what it led to is changed by others", i)
		}
		w = next
	}
}
