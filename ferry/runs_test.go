package ferry_test

import (
	"fmt"
	"math"
	"strings"
	"testing"

	"ferry/api"
	"ferry/disk"
	"ferry/ferry"
)

// P5: a new engine is empty.
func TestOpenNew(t *testing.T) {
	r := open(t)
	if r.x.Now() != 0 {
		t.Errorf("P5: Now of a new engine = %d", r.x.Now())
	}
	for i := range 30 {
		if m, e := r.x.Model(i); e != api.ErrNone || m.Id != "" || m.Nodes != nil {
			t.Errorf("P5: Model(%d) of a new engine = %+v, %d", i, m, e)
		}
		r.look(i, "error 5")
	}
	if x, e := ferry.Open(disk.New()); x == r.x || x == nil || e != api.OK {
		t.Errorf("P5: a second Open = %v, %d", x, e)
	}
}

// P6: models are numbered from 0 on, and are told as they are read.
func TestDeploy(t *testing.T) {
	r := open(t, oneTask, oneTask, growing)
	if n, e := r.x.Deploy(wideText); n != 3 || e != api.OK {
		t.Fatalf("P6: Deploy of a fourth = %d, %d", n, e)
	}
	if m, e := r.x.Model(3); e != api.OK || !same(m, wide()) {
		t.Errorf("P6: Model(3) = %+v, %d", m, e)
	}
	for i := range 2 {
		if m, e := r.x.Model(i); e != api.OK || !same(m, small()) {
			t.Errorf("P6: Model(%d) = %+v, %d", i, m, e)
		}
	}
	for _, i := range []int{4, -1, 5, math.MaxInt, math.MinInt, 1 << 32} {
		if m, e := r.x.Model(i); e != api.ErrNone || m.Id != "" || m.Nodes != nil {
			t.Errorf("P6: Model(%d) = %+v, %d, want ErrNone alone", i, m, e)
		}
	}
}

// P6: the error of Read comes ahead of ErrFull, and neither changes anything.
func TestDeployRefused(t *testing.T) {
	r := open(t)
	wrong := []struct {
		text string
		want api.Errno
	}{
		{"", api.ErrText}, {"x", api.ErrText}, {in("x"), api.ErrText}, {strings.Repeat(" ", 12001), api.ErrText}, {"\xff", api.ErrText},
		{"<process/>", api.ErrModel}, {task, api.ErrModel}, {in("<x/>"), api.ErrModel},
		{in(), api.ErrGraph}, {in(start, end), api.ErrGraph},
	}
	for i := range 5 {
		for _, c := range wrong {
			r.unchanged("Deploy of "+short(c.text), c.want, func() api.Errno {
				n, e := r.x.Deploy(c.text)
				if n != 0 {
					t.Errorf("P1: Deploy(%s) = %d with error %d", short(c.text), n, e)
				}
				return e
			})
		}
		if i == 4 {
			break
		}
		if n, e := r.x.Deploy(in(oneTask)); n != i || e != api.OK {
			t.Fatalf("P6: Deploy of model %d = %d, %d", i, n, e)
		}
	}
	r.unchanged("Deploy of a fifth", api.ErrFull, func() api.Errno {
		n, e := r.x.Deploy(in(oneTask))
		if n != 0 {
			t.Errorf("P1: Deploy of a fifth = %d with error %d", n, e)
		}
		return e
	})
}

// P7: runs are numbered from 0 on, and each has its model and variables.
func TestStart(t *testing.T) {
	r := open(t, oneTask, `<start id="s" to="e"/><end id="e"/>`)
	r.start(0, 0, 1, -2, 3, -4, 5, -6, math.MaxInt32, math.MinInt32)
	r.start(1, 1, 0, 7)
	r.start(0, 2)
	r.look(0, "next 2, a 1, b -2, c 3, d -4, e 5, f -6, g 2147483647, h -2147483648; item 1 t")
	r.look(1, "done 1, model 1, next 1, b 7")
	r.look(2, "next 2; item 1 t")
	r.look(3, "error 5")
}

// P7: wrong models, and more runs than may be; those that are done count too.
func TestStartRefused(t *testing.T) {
	r := open(t)
	r.startRefused(0, api.ErrNone)
	r = open(t, oneTask, `<start id="s" to="e"/><end id="e"/>`)
	numbers := []int{-1, 2, 3, 4, 1000, math.MaxInt, math.MinInt, 1 << 32}
	for _, n := range numbers {
		r.startRefused(n, api.ErrNone)
	}
	for i := range 20 {
		r.start(i%2, i)
	}
	r.unchanged("Start of a twenty-first", api.ErrFull, func() api.Errno { r.startRefused(0, api.ErrFull); return api.ErrFull })
	r.startRefused(1, api.ErrFull)
	for _, n := range numbers {
		r.startRefused(n, api.ErrNone)
	}
}

// P7: a run that comes to be too many as it begins is none.
func TestStartTooMany(t *testing.T) {
	many := func(n int) string { // n items and tokens on their way, behind the last fork
		s := `<start id="s" to="f0"/>`
		for i := range 7 {
			s += fmt.Sprintf(`<fork id="f%d"><branch to="f%d"/>`+strings.Repeat(`<branch to="t"/>`, 5)+`</fork>`, i, i+1)
		}
		return s + `<fork id="f7">` + strings.Repeat(`<branch to="t"/>`, n-35) + `</fork>` + task + end
	}
	r := open(t, many(40), many(41), oneTask)
	r.unchanged("Start of too many", api.ErrTokens, func() api.Errno { r.startRefused(1, api.ErrTokens); return api.ErrTokens })
	r.start(0, 0)
	if s, _ := r.x.Look(0); len(s.Items) != 40 || s.Next != 41 {
		t.Errorf("P7: %d items, NEXT %d, want 40 and 41", len(s.Items), s.Next)
	}
	r.startRefused(1, api.ErrTokens)
	r.start(2, 1)
}

// P8: an item that is no one's, or that is gone.
func TestCompleteNone(t *testing.T) {
	r := open(t, oneTask, `<start id="s" to="u"/><sub id="u" to="e"><start id="us" to="t"/><task id="t" to="ue"/><end id="ue"/></sub><end id="e"/>`)
	r.complete(0, 1, api.ErrNone)
	r.start(0, 0)
	r.start(1, 1)
	r.look(1, "model 1, next 3; item 2 t in 1; scope 1 u")
	wrong := append(make([]api.Set, 9), put('z', 0))
	for _, c := range [][2]int{{-1, 1}, {2, 1}, {20, 1}, {math.MaxInt, 1}, {math.MinInt, 1}, {0, 0}, {0, -1}, {0, 2}, {0, math.MaxInt}, {0, math.MinInt}, {0, 1<<32 + 1}, {1, 1}, {1, 3}} {
		r.unchanged(fmt.Sprint("Complete of ", c), api.ErrNone, func() api.Errno { return r.x.Complete(c[0], c[1], nil) })
		r.unchanged(fmt.Sprint("Complete with wrong sets of ", c), api.ErrNone, func() api.Errno { return r.x.Complete(c[0], c[1], wrong) })
	}
	r.complete(0, 1, api.OK)
	r.unchanged("Complete once more", api.ErrNone, func() api.Errno { return r.x.Complete(0, 1, nil) })
	r.complete(1, 2, api.OK)
	r.look(1, "done 1, model 1, next 3")
}

// P8: what can be set, one behind the other.
func TestSets(t *testing.T) {
	r := open(t, oneTask)
	for i, c := range []struct {
		sets []api.Set
		want string
	}{
		{nil, "a 1"},
		{[]api.Set{}, "a 1"},
		{[]api.Set{put('a', 5)}, "a 5"},
		{[]api.Set{add('a', 5)}, "a 6"},
		{[]api.Set{add('a', -1)}, ""},
		{[]api.Set{put('h', -1), put('h', 2), add('h', 40)}, "a 1, h 42"},
		{[]api.Set{add('a', math.MaxInt32-1)}, "a 2147483647"},
		{[]api.Set{put('b', math.MinInt32), put('c', math.MaxInt32)}, "a 1, b -2147483648, c 2147483647"},
		{[]api.Set{add('b', math.MinInt32), add('b', math.MaxInt32), add('b', 1)}, "a 1"},
		{[]api.Set{add('a', -1), add('a', math.MinInt32)}, "a -2147483648"},
		{[]api.Set{add('a', 1), add('b', 2), add('c', 3), add('d', 4), add('e', 5), add('f', 6), add('g', 7), add('h', 8)}, "a 2, b 2, c 3, d 4, e 5, f 6, g 7, h 8"},
	} {
		r.start(0, i, 1)
		r.complete(i, 1, api.OK, c.sets...)
		r.look(i, strings.TrimSuffix("done 1, next 2, "+c.want, ", "))
	}
}

// P8: what can't be set changes nothing, not even what was set ahead of it.
func TestSetsRefused(t *testing.T) {
	r := open(t, oneTask, growing)
	r.start(0, 0, 1, math.MaxInt32, math.MinInt32)
	var l [][]api.Set
	for _, v := range []byte{0, 1, '`', 'i', 'z', 'A', 'H', 0x80, 255} {
		l = append(l, []api.Set{put(v, 1)}, []api.Set{add(v, 0)})
	}
	for _, op := range []int{0, 3, -1, -2, math.MaxInt, math.MinInt, 1 << 32, 1<<32 + 1, 1<<32 + 2, 257, 258} {
		l = append(l, []api.Set{{Var: 'a', Op: op, Value: 1}})
	}
	l = append(l,
		[]api.Set{add('b', 1)}, []api.Set{add('c', -1)}, []api.Set{add('a', math.MaxInt32)},
		[]api.Set{add('b', math.MaxInt32)}, []api.Set{add('c', math.MinInt32)},
		[]api.Set{add('b', 1), add('b', -1)}, []api.Set{add('c', -1), put('c', 0)},
		[]api.Set{put('a', 9), add('d', 9), add('b', 1)}, []api.Set{put('a', 9), {}},
		[]api.Set{put('d', math.MaxInt32), add('d', 1)},
		make([]api.Set, 9), make([]api.Set, 100000),
	)
	nine := make([]api.Set, 9)
	for i := range nine {
		nine[i] = put('a', int32(i))
	}
	for _, sets := range append(l, nine) {
		r.unchanged(fmt.Sprintf("Complete with %.5v", sets), api.ErrSet, func() api.Errno { return r.x.Complete(0, 1, sets) })
	}
	r.complete(0, 1, api.OK, nine[1:]...)
	r.look(0, "done 1, next 2, a 8, b 2147483647, c -2147483648")
	// ErrSet is named ahead of ErrTokens.
	r.start(1, 1)
	for i := range 13 {
		r.complete(1, i+1, api.OK)
	}
	r.complete(1, 14, api.ErrTokens, put('a', 1))
	r.complete(1, 14, api.ErrSet, put('i', 1))
	r.complete(1, 14, api.ErrSet, nine...)
}

// P10: what is no run.
func TestLookNone(t *testing.T) {
	r := open(t, oneTask)
	r.start(0, 0)
	for _, n := range []int{-1, 1, 19, 20, math.MaxInt, math.MinInt, 1 << 32} {
		if s, e := r.x.Look(n); e != api.ErrNone || fmt.Sprint(s) != fmt.Sprint(api.State{}) || s.Items != nil || s.Scopes != nil || s.Waits != nil {
			t.Errorf("P10: Look(%d) = %+v, %d, want ErrNone alone", n, s, e)
		}
	}
}
