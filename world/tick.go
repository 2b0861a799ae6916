package world

import (
	"cmp"
	"slices"

	"ferry/api"
	"ferry/paths"
)

// Tick lets the time go on (P9).
func (w World) Tick(n int) (World, api.Errno) {
	if n < 1 || n > api.MaxTick || w.now+n > api.MaxNow {
		return World{}, api.ErrTime
	}
	w.now += n
	w.runs = slices.Clone(w.runs)
	for d, ok := w.firstDue(); ok; d, ok = w.firstDue() {
		if !w.expire(d) {
			return World{}, api.ErrTokens
		}
	}
	return w, api.OK
}

// due is an item or scope with a timer.
type due struct {
	time, run, number int
}

// firstDue tells which of those whose time has come goes away first; false: there is none.
func (w World) firstDue() (due, bool) {
	var l []due
	for i, s := range w.runs {
		for _, x := range s.Items {
			l = append(l, due{time: x.Due, run: i, number: x.Number})
		}
		for _, x := range s.Scopes {
			l = append(l, due{time: x.Due, run: i, number: x.Number})
		}
	}
	l = slices.DeleteFunc(l, func(d due) bool { return d.time == 0 || d.time > w.now })
	if len(l) == 0 {
		return due{}, false
	}
	return slices.MinFunc(l, func(a, b due) int {
		return cmp.Or(cmp.Compare(a.time, b.time), cmp.Compare(a.run, b.run), cmp.Compare(a.number, b.number))
	}), true
}

// expire takes an item or scope away, and sends a token on by its Late; false: that is too many.
func (w World) expire(d due) bool {
	r := w.run(d.run)
	x, ok := r.TakeItem(d.number)
	if !ok {
		x = api.Item(r.TakeScope(d.number))
	}
	r.Send(x.Place, x.Scope, paths.Late(r.Node(x.Place)))
	return w.rest(d.run, r)
}
