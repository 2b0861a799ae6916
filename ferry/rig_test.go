package ferry_test

import (
	"fmt"
	"testing"

	"ferry/api"
	"ferry/disk"
	"ferry/ferry"
)

// rig is an engine under test.
type rig struct {
	t *testing.T
	x *ferry.Engine
}

// open makes an engine on a new disk, with these processes.
func open(t *testing.T, processes ...string) rig {
	t.Helper()
	x, e := ferry.Open(disk.New())
	if x == nil || e != api.OK {
		t.Fatalf("P5: Open of a new disk = %v, %d", x, e)
	}
	for i, p := range processes {
		if n, e := x.Deploy(in(p)); n != i || e != api.OK {
			t.Fatalf("P6: Deploy(%q) = %d, %d, want %d", p, n, e, i)
		}
	}
	return rig{t: t, x: x}
}

// start begins a run that is to have this number.
func (r rig) start(model, want int, vars ...int32) {
	r.t.Helper()
	var v [8]int32
	copy(v[:], vars)
	if n, e := r.x.Start(model, v); n != want || e != api.OK {
		r.t.Fatalf("P7: Start(%d, %v) = %d, %d, want %d", model, v, n, e, want)
	}
}

func (r rig) startRefused(model int, want api.Errno) {
	r.t.Helper()
	if n, e := r.x.Start(model, [8]int32{}); n != 0 || e != want {
		r.t.Errorf("P7: Start(%d) = %d, %d, want error %d alone", model, n, e, want)
	}
}

func (r rig) complete(run, item int, want api.Errno, sets ...api.Set) {
	r.t.Helper()
	if e := r.x.Complete(run, item, sets); e != want {
		r.t.Errorf("P8: Complete(%d, %d, %v) = %d, want %d", run, item, sets, e, want)
	}
}

func (r rig) tick(n int, want api.Errno) {
	r.t.Helper()
	if e := r.x.Tick(n); e != want {
		r.t.Errorf("P9: Tick(%d) at %d = %d, want %d", n, r.x.Now(), e, want)
	}
}

// look: a run is as it is told to be, in the words of show.
func (r rig) look(run int, want string) {
	r.t.Helper()
	if got := r.show(run); got != want {
		r.t.Errorf("P10: Look(%d):\n got %s\nwant %s", run, got, want)
	}
}

// show tells a run's state, with ids in place of places.
func (r rig) show(run int) string {
	s, e := r.x.Look(run)
	m, _ := r.x.Model(s.Model)
	if e != api.OK {
		return fmt.Sprintf("error %d", e)
	}
	out := fmt.Sprintf("next %d", s.Next)
	if s.Model != 0 {
		out = fmt.Sprintf("model %d, %s", s.Model, out)
	}
	if s.Done != 0 {
		out = fmt.Sprintf("done %d, %s", s.Done, out)
	}
	for i, v := range s.Vars {
		if v != 0 {
			out += fmt.Sprintf(", %c %d", 'a'+i, v)
		}
	}
	holder := func(what string, number, place, scope, due int) {
		out += fmt.Sprintf("; %s %d %s", what, number, m.Nodes[place].Id)
		if scope != 0 {
			out += fmt.Sprintf(" in %d", scope)
		}
		if due != 0 {
			out += fmt.Sprintf(" due %d", due)
		}
	}
	for _, x := range s.Items {
		holder("item", x.Number, x.Place, x.Scope, x.Due)
	}
	for _, x := range s.Scopes {
		holder("scope", x.Number, x.Place, x.Scope, x.Due)
	}
	for _, x := range s.Waits {
		out += fmt.Sprintf("; wait %s", m.Nodes[x.Place].Id)
		if x.Scope != 0 {
			out += fmt.Sprintf(" in %d", x.Scope)
		}
		out += fmt.Sprintf(" way %d: %d", x.Way, x.Count)
	}
	return out
}

// showAll tells all that an engine tells.
func (r rig) showAll() string {
	out := fmt.Sprintf("now %d\n", r.x.Now())
	for i := range api.MaxModels + 1 {
		m, e := r.x.Model(i)
		out += fmt.Sprintf("model %d: %+v, %d\n", i, plain(m), e)
	}
	for i := range api.MaxRuns + 1 {
		out += fmt.Sprintf("run %d: %s\n", i, r.show(i))
	}
	return out
}

// unchanged: what is done answers an error and changes nothing.
func (r rig) unchanged(what string, want api.Errno, do func() api.Errno) {
	r.t.Helper()
	before := r.showAll()
	if e := do(); e != want {
		r.t.Errorf("P1: %s = %d, want %d", what, e, want)
	}
	if after := r.showAll(); after != before {
		r.t.Errorf("P1: %s changed\n%s\nto\n%s", what, before, after)
	}
}

func put(v byte, n int32) api.Set { return api.Set{Var: v, Op: api.Put, Value: n} }

func add(v byte, n int32) api.Set { return api.Set{Var: v, Op: api.Add, Value: n} }

// oneTask is the process of most of the tests that look at something else.
const oneTask = start + task + end

// growing: each time that an item of t is completed, there are three more of them.
const growing = `<start id="s" to="t"/><task id="t" to="f"/><fork id="f"><branch to="t"/><branch to="t"/><branch to="t"/><branch to="t"/></fork><end id="e"/><task id="z" to="e"/><timer on="z" after="1" to="z"/>`
