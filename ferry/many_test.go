package ferry_test

import (
	"fmt"
	"strings"
	"testing"

	"ferry/api"
)

// counted tells how many items, scopes and waiting tokens a run has.
func (r rig) counted(run int) int {
	s, _ := r.x.Look(run)
	sum := len(s.Items) + len(s.Scopes)
	for _, w := range s.Waits {
		sum += w.Count
	}
	return sum
}

// refused: Complete would be too many, and changes nothing.
func (r rig) refused(run, item int) {
	r.t.Helper()
	r.unchanged(fmt.Sprintf("Complete(%d, %d)", run, item), api.ErrTokens, func() api.Errno {
		return r.x.Complete(run, item, []api.Set{put('a', 77)})
	})
}

// wantCounted: a run has just so many.
func (r rig) wantCounted(run, want int) {
	r.t.Helper()
	if n := r.counted(run); n != want {
		r.t.Fatalf("P8: run %d has %d items, scopes and waiting tokens, want %d: %s", run, n, want, r.show(run))
	}
}

// Items: 40 may be there, not more.
func TestManyItems(t *testing.T) {
	r := open(t, growing)
	r.start(0, 0)
	for i := range 13 {
		r.complete(0, i+1, api.OK)
	}
	r.wantCounted(0, 40)
	r.refused(0, 14)
	r.refused(0, 53)
}

// Tokens on their way count at the end of each move, though they would go away at once.
func TestManyOnTheirWay(t *testing.T) {
	p := `<start id="s" to="t"/><task id="t" to="c"/><choice id="c"><when var="a" op="eq" value="0" to="f"/><when var="a" op="eq" value="1" to="g"/><else to="e"/></choice>` +
		`<fork id="f"><branch to="t"/><branch to="t"/></fork><fork id="g">` + strings.Repeat(`<branch to="e"/>`, 6) + `</fork><end id="e"/>`
	r := open(t, p)
	r.start(0, 0)
	for i := range 35 {
		r.complete(0, i+1, api.OK)
	}
	r.wantCounted(0, 36)
	r.unchanged("six tokens beside 35", api.ErrTokens, func() api.Errno { return r.x.Complete(0, 40, []api.Set{put('a', 1)}) })
	r.complete(0, 40, api.OK, put('a', 2))
	r.wantCounted(0, 35)
	r.complete(0, 41, api.OK, put('a', 1))
	r.wantCounted(0, 34)
}

// A fork that would be too many is refused there, though a join would have made one of all.
func TestManyAtForkNotJoin(t *testing.T) {
	p := `<start id="s" to="t"/><task id="t" to="c"/><choice id="c"><when var="a" op="eq" value="0" to="f"/><else to="g"/></choice><fork id="f"><branch to="t"/><branch to="t"/></fork>` +
		`<fork id="g"><branch to="j"/><branch to="j"/></fork><join id="j" to="t"/><end id="e"/><task id="z" to="e"/><timer on="z" after="1" to="z"/>`
	r := open(t, p)
	r.start(0, 0)
	for i := range 38 {
		r.complete(0, i+1, api.OK)
	}
	r.wantCounted(0, 39)
	r.complete(0, 39, api.OK, put('a', 1))
	r.wantCounted(0, 39)
	r.complete(0, 40, api.OK, put('a', 0))
	r.wantCounted(0, 40)
	r.unchanged("a fork beside 39", api.ErrTokens, func() api.Errno { return r.x.Complete(0, 41, []api.Set{put('a', 1)}) })
}

// Waiting tokens count one by one, not as one wait.
func TestManyWaiting(t *testing.T) {
	r := open(t, `<start id="s" to="t"/><task id="t" to="f"/><fork id="f"><branch to="t"/><branch to="j"/></fork><join id="j" to="e"/><end id="e"/><task id="z" to="j"/><timer on="z" after="1" to="z"/>`)
	r.start(0, 0)
	for i := range 39 {
		r.complete(0, i+1, api.OK)
	}
	r.look(0, "next 41; item 40 t; wait j way 0: 39")
	r.refused(0, 40)
}

// Scopes count: a token that goes into a sub is two.
func TestManyScopes(t *testing.T) {
	p := `<start id="s" to="t"/><task id="t" to="c"/><choice id="c"><when var="a" op="eq" value="0" to="f"/><else to="u"/></choice><fork id="f"><branch to="t"/><branch to="t"/></fork>` +
		`<sub id="u" to="t"><start id="us" to="ue"/><end id="ue"/></sub><end id="e"/><task id="z" to="e"/><timer on="z" after="1" to="z"/>`
	r := open(t, p)
	r.start(0, 0)
	for i := range 38 {
		r.complete(0, i+1, api.OK)
	}
	r.complete(0, 39, api.OK, put('a', 1)) // through the sub: 38 items, a scope and a token
	r.wantCounted(0, 39)
	r.complete(0, 40, api.OK, put('a', 0))
	r.wantCounted(0, 40)
	r.unchanged("a sub beside 39", api.ErrTokens, func() api.Errno { return r.x.Complete(0, 41, []api.Set{put('a', 1)}) })
	r.start(0, 1)
	r.complete(1, 1, api.OK) // another run has room of its own
	r.look(1, "next 4; item 2 t; item 3 t")
}

// NEXT is at most 1000, whether items or scopes take the numbers.
func TestManyNumbers(t *testing.T) {
	p := `<start id="s" to="t"/><task id="t" to="c"/><choice id="c"><when var="a" op="eq" value="0" to="t"/><when var="a" op="eq" value="1" to="u"/><else to="e"/></choice>` +
		`<sub id="u" to="e"><start id="us" to="ue"/><end id="ue"/></sub><end id="e"/>`
	r := open(t, p)
	for run := range 2 {
		r.start(0, run)
		for i := range 997 {
			r.complete(run, i+1, api.OK)
		}
	}
	r.look(0, "next 999; item 998 t")
	r.complete(0, 998, api.OK)
	r.look(0, "next 1000; item 999 t")
	at := func(v int32) func() api.Errno {
		return func() api.Errno { return r.x.Complete(0, 999, []api.Set{put('a', v)}) }
	}
	r.unchanged("one more item", api.ErrTokens, at(0))
	r.unchanged("one more scope", api.ErrTokens, at(1))
	r.complete(0, 999, api.OK, put('a', 2))
	r.look(0, "done 1, next 1000, a 2")
	r.complete(1, 998, api.OK, put('a', 1))
	r.look(1, "done 1, next 1000, a 1")
}

// P1: what forks again and again is refused soon, and what goes a long way ends.
func TestManyEnds(t *testing.T) {
	s := `<start id="s" to="f0"/>`
	for i := range 20 {
		s += fmt.Sprintf(`<fork id="f%d">`, i) + strings.Repeat(fmt.Sprintf(`<branch to="f%d"/>`, i+1), 6) + `</fork>`
	}
	r := open(t, s+`<fork id="f20"><branch to="e"/><branch to="e"/></fork><end id="e"/>`)
	r.startRefused(0, api.ErrTokens)
	// Each fork loses five at an end: never more than eleven at a time.
	s = `<start id="s" to="f0"/>`
	for i := range 22 {
		s += fmt.Sprintf(`<fork id="f%d">`, i) + strings.Repeat(`<branch to="f22"/>`, 5) + fmt.Sprintf(`<branch to="f%d"/></fork>`, i+1)
	}
	s = strings.ReplaceAll(s, "f22", "e") + `<end id="e"/>`
	r = open(t, s)
	r.start(0, 0)
	r.look(0, "done 1, next 1")
}
