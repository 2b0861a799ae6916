package ferry_test

import (
	"runtime"
	"slices"
	"sync"
	"testing"
	"time"

	"ferry/api"
	"ferry/disk"
)

// scribbleState writes into all the lists of a state, and into their spare room.
func scribbleState(s api.State) {
	fill(s.Items, api.Item{Number: 99, Place: 99, Scope: 99, Due: 99})
	fill(s.Scopes, api.Scope{Number: 99, Place: 99, Scope: 99, Due: 99})
	fill(s.Waits, api.Wait{Place: 99, Scope: 99, Way: 99, Count: 99})
}

func fill[T any](l []T, x T) {
	l = l[:cap(l)]
	for i := range l {
		l[i] = x
	}
}

// P2: what Look and Model tell is the caller's; writing into it changes nothing else, neither now nor later.
func TestEngineFresh(t *testing.T) {
	r := open(t, inTwice)
	r.x.Deploy(wideText)
	r.start(0, 0)
	want := r.showAll()
	for k := range 4 {
		s, _ := r.x.Look(0)
		other, _ := r.x.Look(0)
		if len(s.Items) == 0 || len(s.Scopes) == 0 || len(s.Waits) == 0 {
			t.Fatalf("P10: %s, want items, scopes and waits", r.show(0))
		}
		keep := []any{slices.Clone(other.Items), slices.Clone(other.Scopes), slices.Clone(other.Waits)}
		scribbleState(s)
		if !slices.Equal(keep[0].([]api.Item), other.Items) || !slices.Equal(keep[1].([]api.Scope), other.Scopes) || !slices.Equal(keep[2].([]api.Wait), other.Waits) {
			t.Errorf("P2: two answers of Look share room")
		}
		m, _ := r.x.Model(k % 2)
		twin, _ := r.x.Model(k % 2)
		before := plain(twin)
		scribble(m)
		if !same(twin, before) {
			t.Errorf("P2: two answers of Model share room")
		}
		if got := r.showAll(); got != want {
			t.Errorf("P2: what was written into an answer is seen in the engine:\n%s\nwant\n%s", got, want)
		}
	}
	r.complete(0, 3, api.OK)
	r.complete(0, 4, api.OK)
	r.look(0, "next 7; item 5 ua in 2; item 6 ub in 2; scope 1 u; scope 2 u; wait uk in 1 way 0: 1; wait uk in 1 way 1: 1; wait uk in 2 way 0: 1; wait uk in 2 way 1: 1; wait uj in 2 way 0: 1")
}

// P2: an answer stays as it is, whatever commands come behind it.
func TestEngineAnswersStay(t *testing.T) {
	r := open(t, inTwice, growing)
	r.start(0, 0)
	r.start(1, 1)
	a, _ := r.x.Look(0)
	b, _ := r.x.Look(1)
	m, _ := r.x.Model(0)
	wantA, wantB, wantM := plainState(a), plainState(b), plain(m)
	for _, item := range []int{3, 6, 4, 5} {
		r.complete(0, item, api.OK)
	}
	for i := range 6 {
		r.complete(1, i+1, api.OK)
	}
	r.tick(9, api.OK)
	r.start(1, 2)
	if n, e := r.x.Deploy(wideText); n != 2 || e != api.OK {
		t.Errorf("P6: Deploy = %d, %d", n, e)
	}
	if !sameState(a, wantA) || !sameState(b, wantB) || !same(m, wantM) {
		t.Errorf("P2: later commands have changed what was told earlier")
	}
}

func plainState(s api.State) api.State {
	s.Items = append([]api.Item(nil), s.Items...)
	s.Scopes = append([]api.Scope(nil), s.Scopes...)
	s.Waits = append([]api.Wait(nil), s.Waits...)
	return s
}

func sameState(a, b api.State) bool {
	return a.Model == b.Model && a.Done == b.Done && a.Vars == b.Vars && a.Next == b.Next &&
		slices.Equal(a.Items, b.Items) && slices.Equal(a.Scopes, b.Scopes) && slices.Equal(a.Waits, b.Waits)
}

// P2: the sets are neither written into nor kept.
func TestEngineKeepsOff(t *testing.T) {
	r := open(t, oneTask)
	r.start(0, 0)
	r.start(0, 1)
	room := []api.Set{put('z', 1), put('a', 5), add('b', 6), put('z', 2), put('z', 3)}
	want := slices.Clone(room)
	r.complete(0, 1, api.OK, room[1:3]...)
	if !slices.Equal(room, want) {
		t.Errorf("P2: Complete wrote into what it was given: %v", room)
	}
	r.complete(1, 1, api.ErrSet, room[1:4]...)
	if !slices.Equal(room, want) {
		t.Errorf("P2: Complete wrote into what it was given: %v", room)
	}
	fill(room, put('c', 9))
	r.look(0, "done 1, next 2, a 5, b 6")
	r.look(1, "next 2; item 1 t")
}

// P2: engines have nothing to do with one another, though their commands go by turns.
func TestEnginesApart(t *testing.T) {
	x, y := open(t, oneTask, growing), open(t, growing)
	x.start(0, 0, 1)
	y.start(0, 0, 2)
	x.tick(5, api.OK)
	y.tick(7, api.OK)
	y.complete(0, 1, api.OK)
	x.look(0, "next 2, a 1; item 1 t")
	y.look(0, "next 6, a 2; item 2 t; item 3 t; item 4 t; item 5 t")
	x.complete(0, 1, api.OK)
	y.look(0, "next 6, a 2; item 2 t; item 3 t; item 4 t; item 5 t")
	if x.x.Now() != 5 || y.x.Now() != 7 {
		t.Errorf("P2: Now = %d and %d, want 5 and 7", x.x.Now(), y.x.Now())
	}
	x.look(1, "error 5")
	if _, e := y.x.Model(1); e != api.ErrNone {
		t.Errorf("P2: a model of the other engine is there: %d", e)
	}
}

// P2: engines beside one another, each with a goroutine of its own, answer as if each were alone.
func TestEnginesBesideOneAnother(t *testing.T) {
	walk := func(r rig) string {
		r.start(0, 0)
		r.start(1, 1)
		for i := range 13 {
			r.complete(0, i+1, api.OK)
			r.tick(3, api.OK)
		}
		r.complete(0, 14, api.ErrTokens)
		for _, item := range []int{4, 5, 3} {
			r.complete(1, item, api.OK)
		}
		return r.showAll()
	}
	want := walk(open(t, growing, inTwice))
	var all sync.WaitGroup
	for range 8 {
		r := open(t, growing, inTwice)
		all.Go(func() {
			if got := walk(r); got != want {
				t.Errorf("P2: an engine beside others tells\n%s\nwant\n%s", got, want)
			}
		})
	}
	all.Wait()
}

// P2: no call leaves a goroutine.
func TestEngineLeavesNoGoroutine(t *testing.T) {
	before := runtime.NumGoroutine()
	for range 50 {
		r := open(t, oneTask, growing)
		r.x.Deploy("<")
		r.start(0, 0)
		r.start(1, 1)
		for i := range 20 {
			r.x.Complete(1, i, nil)
		}
		r.tick(9, api.OK)
		r.showAll()
	}
	for range 1000 {
		if runtime.NumGoroutine() <= before {
			return
		}
		time.Sleep(time.Millisecond)
	}
	t.Errorf("P2: %d goroutines, %d before", runtime.NumGoroutine(), before)
}

// P2: what an engine tells that was opened again is the caller's too; and engines on what crashes left of one disk have nothing to do with one another.
func TestReopenedApart(t *testing.T) {
	d := disk.New()
	x := reopen(t, d)
	all(t, x, deploy(in(inTwice)), deploy(wideText), begin(0), begin(1))
	want := told(x)
	a, b := d.Crash(0), d.Crash(0)
	y, z := reopen(t, a), reopen(t, b)
	for range 3 {
		for run := range 2 {
			s, _ := y.Look(run)
			scribbleState(s)
			m, _ := y.Model(run)
			scribble(m)
		}
	}
	if told(y) != want || told(z) != want || found(t, a) != want {
		t.Errorf("P2: what was written into an answer is seen in an engine")
	}
	all(t, y, finish(0, 3), pass(9), deploy(in(oneTask)))
	if told(x) != want || told(z) != want || found(t, b.Crash(0)) != want || found(t, d.Crash(0)) != want {
		t.Errorf("P2: an engine's commands are seen on another disk")
	}
	all(t, x, pass(1))
	all(t, z, pass(2))
	if x.Now() != 1 || y.Now() != 9 || z.Now() != 2 {
		t.Errorf("P2: NOW = %d, %d, %d, want 1, 9, 2", x.Now(), y.Now(), z.Now())
	}
}
