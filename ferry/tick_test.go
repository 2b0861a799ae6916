package ferry_test

import (
	"fmt"
	"math"
	"testing"

	"ferry/api"
)

// P9: the time goes on by 1 to 1000, up to 100000.
func TestTickBounds(t *testing.T) {
	r := open(t, oneTask)
	r.start(0, 0)
	wrong := []int{0, -1, 1001, 1002, 100000, 100001, math.MaxInt, math.MinInt, math.MinInt + 1, 1 << 32, 1<<32 + 1}
	refuse := func(l ...int) {
		t.Helper()
		for _, n := range l {
			r.unchanged(fmt.Sprintf("Tick(%d)", n), api.ErrTime, func() api.Errno { return r.x.Tick(n) })
		}
	}
	refuse(wrong...)
	r.tick(1, api.OK)
	if r.x.Now() != 1 {
		t.Errorf("P9: Now = %d, want 1", r.x.Now())
	}
	for range 99 {
		r.tick(1000, api.OK)
	}
	refuse(1000)
	r.tick(998, api.OK)
	if r.x.Now() != 99999 {
		t.Errorf("P9: Now = %d, want 99999", r.x.Now())
	}
	refuse(2, 3, 999, 1000)
	refuse(wrong...)
	r.tick(1, api.OK)
	if r.x.Now() != 100000 {
		t.Errorf("P9: Now = %d, want 100000", r.x.Now())
	}
	refuse(1, 2, 1000)
	refuse(wrong...)
	r.look(0, "next 2; item 1 t")
	r.complete(0, 1, api.OK)
	r.look(0, "done 1, next 2")
}

// DUE is NOW plus After, also at the last NOW, and what was due at its time goes away then, not earlier.
func TestDue(t *testing.T) {
	r := open(t, `<start id="s" to="u"/><sub id="u" to="e"><start id="us" to="t"/><task id="t" to="ue"/><timer on="t" after="1000" to="x"/><task id="x" to="ue"/><end id="ue"/></sub><timer on="u" after="999" to="z"/><task id="z" to="e"/><end id="e"/>`)
	r.tick(1000, api.OK)
	r.start(0, 0)
	r.look(0, "next 3; item 2 t in 1 due 2000; scope 1 u due 1999")
	r.tick(998, api.OK)
	r.look(0, "next 3; item 2 t in 1 due 2000; scope 1 u due 1999")
	r.tick(1, api.OK)
	r.look(0, "next 4; item 3 z")
	for range 98 {
		r.tick(1000, api.OK)
	}
	r.tick(1, api.OK)
	r.start(0, 1)
	r.look(1, "next 3; item 2 t in 1 due 101000; scope 1 u due 100999")
}

// Each goes on by Late in its own order: by DUE, then by number, items and scopes alike; what is gone with a scope does not.
func TestTickOrder(t *testing.T) {
	p := func(a, b, u, x int) string {
		return `<start id="s" to="f"/><fork id="f"><branch to="a"/><branch to="b"/><branch to="u"/></fork><task id="a" to="e"/><task id="b" to="e"/>` +
			`<sub id="u" to="e"><start id="us" to="x"/><task id="x" to="ue"/><end id="ue"/>` + fmt.Sprintf(`<timer on="x" after="%d" to="y"/>`, x) + `<task id="y" to="ue"/></sub>` +
			fmt.Sprintf(`<timer on="a" after="%d" to="ta"/><timer on="b" after="%d" to="tb"/><timer on="u" after="%d" to="tu"/>`, a, b, u) +
			`<task id="ta" to="e"/><task id="tb" to="e"/><task id="tu" to="e"/><end id="e"/>`
	}
	for _, c := range []struct {
		a, b, u, x int
		want       string
	}{
		{5, 5, 5, 5, "next 8; item 5 ta; item 6 tb; item 7 tu"},
		{6, 5, 4, 3, "next 9; item 6 tu; item 7 tb; item 8 ta"},
		{6, 5, 4, 4, "next 8; item 5 tu; item 6 tb; item 7 ta"},
		{6, 5, 4, 5, "next 8; item 5 tu; item 6 tb; item 7 ta"},
		{4, 6, 5, 5, "next 8; item 5 ta; item 6 tu; item 7 tb"},
		{5, 4, 5, 6, "next 8; item 5 tb; item 6 ta; item 7 tu"},
		{6, 6, 10, 5, "next 8; item 5 y in 3; item 6 ta; item 7 tb; scope 3 u due 10"},
		{7, 8, 9, 10, "next 5; item 1 a due 7; item 2 b due 8; item 4 x in 3 due 10; scope 3 u due 9"},
		{7, 6, 9, 10, "next 6; item 1 a due 7; item 4 x in 3 due 10; item 5 tb; scope 3 u due 9"},
	} {
		r := open(t, p(c.a, c.b, c.u, c.x))
		r.start(0, 0)
		r.look(0, fmt.Sprintf("next 5; item 1 a due %d; item 2 b due %d; item 4 x in 3 due %d; scope 3 u due %d", c.a, c.b, c.x, c.u))
		r.tick(6, api.OK)
		r.look(0, c.want)
	}
}

// With a scope goes all that is in it, and in what is in it; nothing else does.
func TestTickScope(t *testing.T) {
	r := open(t, `<start id="s" to="f"/><fork id="f"><branch to="u"/><branch to="u"/><branch to="a"/></fork><task id="a" to="e"/>`+
		`<sub id="u" to="e"><start id="us" to="ug"/><fork id="ug"><branch to="v"/><branch to="uj"/><branch to="ut"/></fork><task id="ut" to="uj"/><join id="uj" to="ue"/>`+
		`<sub id="v" to="ue"><start id="vs" to="vg"/><fork id="vg"><branch to="vt"/><branch to="vj"/><branch to="w"/></fork><task id="vt" to="vj"/><join id="vj" to="ve"/>`+
		`<sub id="w" to="ve"><start id="ws" to="wt"/><task id="wt" to="we"/><end id="we"/></sub><end id="ve"/></sub><timer on="v" after="3" to="ut"/><end id="ue"/></sub><timer on="u" after="5" to="z"/>`+
		`<task id="z" to="e"/><end id="e"/>`)
	r.start(0, 0)
	r.look(0, "next 14; item 3 a; item 5 ut in 1; item 7 ut in 2; item 8 vt in 4; item 10 vt in 6; item 12 wt in 9; item 13 wt in 11; "+
		"scope 1 u due 5; scope 2 u due 5; scope 4 v in 1 due 3; scope 6 v in 2 due 3; scope 9 w in 4; scope 11 w in 6; "+
		"wait uj in 1 way 0: 1; wait uj in 2 way 0: 1; wait vj in 4 way 0: 1; wait vj in 6 way 0: 1")
	r.complete(0, 5, api.OK) // a token behind the join of the first u: its end is reached, but v is there
	r.tick(3, api.OK)        // both v go: of each a token to ut
	r.look(0, "next 16; item 3 a; item 7 ut in 2; item 14 ut in 1; item 15 ut in 2; scope 1 u due 5; scope 2 u due 5; wait uj in 2 way 0: 1")
	r.complete(0, 14, api.OK)
	r.look(0, "next 16; item 3 a; item 7 ut in 2; item 15 ut in 2; scope 1 u due 5; scope 2 u due 5; wait uj in 1 way 1: 1; wait uj in 2 way 0: 1")
	r.tick(2, api.OK) // both u go
	r.look(0, "next 18; item 3 a; item 16 z; item 17 z")
}

// Two subs in one sub go with it, and all that is in each of them.
func TestTickScopesBeside(t *testing.T) {
	r := open(t, `<start id="s" to="f"/><fork id="f"><branch to="u"/><branch to="v"/></fork><sub id="u" to="e"><start id="us" to="ug"/><fork id="ug"><branch to="w"/><branch to="w"/><branch to="w"/></fork>`+
		`<sub id="w" to="ue"><start id="ws" to="wg"/><fork id="wg"><branch to="wt"/><branch to="wj"/></fork><task id="wt" to="wj"/><join id="wj" to="we"/><end id="we"/></sub><end id="ue"/></sub><timer on="u" after="2" to="z"/>`+
		`<sub id="v" to="e"><start id="vs" to="vg"/><fork id="vg"><branch to="vt"/><branch to="vj"/></fork><task id="vt" to="vj"/><join id="vj" to="ve"/><end id="ve"/></sub><task id="z" to="e"/><end id="e"/>`)
	r.start(0, 0)
	r.look(0, "next 10; item 6 vt in 2; item 7 wt in 3; item 8 wt in 4; item 9 wt in 5; scope 1 u due 2; scope 2 v; scope 3 w in 1; scope 4 w in 1; scope 5 w in 1; "+
		"wait vj in 2 way 0: 1; wait wj in 3 way 0: 1; wait wj in 4 way 0: 1; wait wj in 5 way 0: 1")
	r.complete(0, 8, api.OK)
	r.tick(2, api.OK)
	r.look(0, "next 11; item 6 vt in 2; item 10 z; scope 2 v; wait vj in 2 way 0: 1")
	r.complete(0, 10, api.OK)
	r.complete(0, 6, api.OK)
	r.look(0, "done 1, next 11")
}

// What comes to be in a Tick has its DUE from the new NOW on: it does not go away in the same Tick.
func TestTickOnce(t *testing.T) {
	r := open(t, `<start id="s" to="t"/><task id="t" to="e"/><timer on="t" after="1" to="t"/><end id="e"/>`)
	r.start(0, 0)
	r.tick(1000, api.OK)
	r.look(0, "next 3; item 2 t due 1001")
	r.tick(1, api.OK)
	r.look(0, "next 4; item 3 t due 1002")
	r.tick(7, api.OK)
	r.look(0, "next 5; item 4 t due 1009")
	r.complete(0, 4, api.OK)
	r.look(0, "done 1, next 5")
	r.tick(1, api.OK)
	r.look(0, "done 1, next 5")
}

// The token goes on by Late, not by To, and the choice behind it looks at the variables as they are.
func TestTickLate(t *testing.T) {
	r := open(t, `<start id="s" to="t"/><task id="t" to="e"/><timer on="t" after="2" to="c"/><choice id="c"><when var="b" op="gt" value="1" to="x"/><else to="y"/></choice><task id="x" to="e"/><task id="y" to="e"/><end id="e"/>`)
	r.start(0, 0, 0, 1)
	r.start(0, 1, 0, 2)
	r.tick(1, api.OK)
	r.start(0, 2, 0, 3)
	r.tick(1, api.OK)
	r.look(0, "next 3, b 1; item 2 y")
	r.look(1, "next 3, b 2; item 2 x")
	r.look(2, "next 2, b 3; item 1 t due 3")
	r.tick(1, api.OK)
	r.look(2, "next 3, b 3; item 2 x")
}

// P9: too many in one run, and the whole Tick changes nothing: not NOW, nor the runs that have moved already.
func TestTickTooMany(t *testing.T) {
	timers := `<start id="s" to="t"/><task id="t" to="f"/><timer on="t" after="5" to="f"/><fork id="f"><branch to="t"/><branch to="t"/><branch to="t"/><branch to="t"/></fork><end id="e"/><task id="z" to="e"/><timer on="z" after="1" to="z"/>`
	plain := `<start id="s" to="t"/><task id="t" to="e"/><timer on="t" after="4" to="e"/><end id="e"/>`
	r := open(t, timers, plain, `<start id="s" to="t"/><task id="t" to="e"/><timer on="t" after="1" to="t"/><end id="e"/>`)
	r.start(1, 0)
	r.start(0, 1)
	r.start(1, 2)
	r.start(2, 3)
	for i := range 4 {
		r.complete(1, i+1, api.OK)
	}
	// 13 items that are due at 5: each Late makes four of one.
	for _, n := range []int{5, 6, 1000} {
		r.unchanged(fmt.Sprintf("Tick(%d)", n), api.ErrTokens, func() api.Errno { return r.x.Tick(n) })
	}
	r.unchanged("Tick(1001)", api.ErrTime, func() api.Errno { return r.x.Tick(1001) })
	r.tick(4, api.OK)
	r.look(0, "done 1, model 1, next 2")
	r.look(2, "done 1, model 1, next 2")
	r.look(3, "model 2, next 3; item 2 t due 5")
	r.unchanged("Tick(1)", api.ErrTokens, func() api.Errno { return r.x.Tick(1) })
}

// P9: NEXT too comes to its end by a Tick.
func TestTickNumbers(t *testing.T) {
	r := open(t, `<start id="s" to="t"/><task id="t" to="e"/><timer on="t" after="1" to="t"/><end id="e"/>`, `<start id="s" to="t"/><task id="t" to="e"/><timer on="t" after="1" to="e"/><end id="e"/>`)
	r.start(0, 0)
	for range 998 {
		r.tick(1, api.OK)
	}
	r.start(1, 1)
	r.look(0, "next 1000; item 999 t due 999")
	r.unchanged("Tick(1)", api.ErrTokens, func() api.Errno { return r.x.Tick(1) })
	r.complete(0, 999, api.OK)
	r.look(0, "done 1, next 1000")
	r.tick(1, api.OK)
	r.look(1, "done 1, model 1, next 2")
}
