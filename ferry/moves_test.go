package ferry_test

import (
	"fmt"
	"math"
	"strings"
	"testing"

	"ferry/api"
)

// The examples of the document.
func TestExamplesOfRuns(t *testing.T) {
	r := open(t, oneTask,
		`<start id="s" to="f"/><fork id="f"><branch to="a"/><branch to="b"/></fork><task id="a" to="j"/><task id="b" to="j"/><join id="j" to="e"/><end id="e"/>`,
		`<start id="s" to="t"/><task id="t" to="e"/><timer on="t" after="10" to="e"/><end id="e"/>`)
	r.start(0, 0)
	r.look(0, "next 2; item 1 t")
	r.complete(0, 1, api.OK, add('a', 5))
	r.look(0, "done 1, next 2, a 5")
	r.complete(0, 1, api.ErrNone, add('a', 5))
	r.start(1, 1)
	r.look(1, "model 1, next 3; item 1 a; item 2 b")
	r.complete(1, 2, api.OK)
	r.look(1, "model 1, next 3; item 1 a; wait j way 1: 1")
	r.complete(1, 1, api.OK)
	r.look(1, "done 1, model 1, next 3")
	r.start(2, 2)
	r.look(2, "model 2, next 2; item 1 t due 10")
	r.tick(9, api.OK)
	r.look(2, "model 2, next 2; item 1 t due 10")
	r.tick(1, api.OK)
	r.look(2, "done 1, model 2, next 2")
}

// A choice goes by the first case that is true, else by Else.
func TestMoveChoice(t *testing.T) {
	r := open(t, `<start id="s" to="c"/><choice id="c"><when var="a" op="lt" value="-1" to="x"/><when var="a" op="eq" value="3" to="y"/><when var="h" op="gt" value="5" to="z"/><when var="a" op="gt" value="2147483646" to="w"/><else to="v"/></choice>`+
		`<task id="x" to="c"/><task id="y" to="c"/><task id="z" to="c"/><task id="w" to="c"/><task id="v" to="e"/><end id="e"/>`)
	cases := []struct {
		a, h int32
		want string
	}{
		{-2, 6, "x"}, {math.MinInt32, 0, "x"}, {-1, 0, "v"}, {0, 0, "v"}, {2, 0, "v"}, {3, 0, "y"}, {3, 6, "y"}, {4, 0, "v"},
		{4, 6, "z"}, {4, 5, "v"}, {math.MaxInt32, 0, "w"}, {math.MaxInt32 - 1, 0, "v"}, {math.MaxInt32, math.MaxInt32, "z"}, {0, math.MinInt32, "v"},
	}
	for i, c := range cases {
		r.start(0, i, c.a, 0, 0, 0, 0, 0, 0, c.h)
		if got := r.show(i); !strings.HasSuffix(got, "; item 1 "+c.want) {
			t.Errorf("P7: a %d, h %d: %s, want an item at %s", c.a, c.h, got, c.want)
		}
	}
	// The sets are done ahead of the move: round again, with what was set.
	r.complete(0, 1, api.OK, put('a', 3))
	r.look(0, "next 3, a 3, h 6; item 2 y")
	r.complete(0, 2, api.OK, add('a', 1))
	r.look(0, "next 4, a 4, h 6; item 3 z")
}

// The tokens on their way longest are moved first: numbers tell in which order they came to the tasks.
func TestMoveOrder(t *testing.T) {
	r := open(t, `<start id="s" to="f"/><fork id="f"><branch to="c"/><branch to="g"/><branch to="b"/></fork>`+
		`<choice id="c"><else to="d"/></choice><choice id="d"><else to="a"/></choice><fork id="g"><branch to="x"/><branch to="y"/></fork>`+
		`<task id="a" to="e"/><task id="b" to="e"/><task id="x" to="e"/><task id="y" to="e"/><end id="e"/>`)
	r.start(0, 0)
	r.look(0, "next 5; item 1 b; item 2 x; item 3 y; item 4 a")
	// A join passes its token on behind those that are on their way already.
	r = open(t, `<start id="s" to="f"/><fork id="f"><branch to="j"/><branch to="j"/><branch to="c"/><branch to="a"/></fork><choice id="c"><else to="b"/></choice><join id="j" to="x"/>`+
		`<task id="a" to="e"/><task id="b" to="e"/><task id="x" to="e"/><end id="e"/>`)
	r.start(0, 0)
	r.look(0, "next 4; item 1 a; item 2 x; item 3 b")
	// So does a sub: its inner token is moved behind them, and the one that leaves it too.
	r = open(t, `<start id="s" to="f"/><fork id="f"><branch to="u"/><branch to="a"/></fork><sub id="u" to="b"><start id="us" to="ut"/><task id="ut" to="ue"/><end id="ue"/></sub>`+
		`<task id="a" to="e"/><task id="b" to="e"/><end id="e"/>`,
		`<start id="s" to="f"/><fork id="f"><branch to="u"/><branch to="c"/></fork><sub id="u" to="b"><start id="us" to="ue"/><end id="ue"/></sub>`+
			`<choice id="c"><else to="d"/></choice><choice id="d"><else to="g"/></choice><choice id="g"><else to="a"/></choice><task id="a" to="e"/><task id="b" to="e"/><end id="e"/>`)
	r.start(0, 0)
	r.look(0, "next 4; item 2 a; item 3 ut in 1; scope 1 u")
	r.start(1, 1)
	r.look(1, "model 1, next 4; item 2 b; item 3 a")
}

// The ways into a join are numbered by places, and of one node by its ways out; late ones count.
func TestMoveJoin(t *testing.T) {
	// places: s 0, j 1, f 2, a 3, b 4, e 5
	r := open(t, `<start id="s" to="f"/><join id="j" to="x"/><fork id="f"><branch to="b"/><branch to="j"/><branch to="a"/><branch to="a"/><branch to="j"/></fork>`+
		`<task id="a" to="j"/><timer on="a" after="5" to="j"/><task id="b" to="j"/><task id="x" to="e"/><end id="e"/>`)
	r.start(0, 0) // the ways: f 0, f 1, a's To 2, a's Late 3, b 4
	at := "; item 1 b; item 2 a due 5; item 3 a due 5; wait j way 0: 1; wait j way 1: 1"
	r.look(0, "next 4"+at)
	r.complete(0, 1, api.OK)
	r.look(0, "next 4; item 2 a due 5; item 3 a due 5; wait j way 0: 1; wait j way 1: 1; wait j way 4: 1")
	r.complete(0, 3, api.OK)
	r.look(0, "next 4; item 2 a due 5; wait j way 0: 1; wait j way 1: 1; wait j way 2: 1; wait j way 4: 1")
	r.tick(5, api.OK)
	r.look(0, "next 5; item 4 x")
	r.complete(0, 4, api.OK)
	r.look(0, "done 1, next 5")
	r.start(0, 1) // two by one way do not stand for one each of two
	r.complete(1, 1, api.OK)
	r.complete(1, 2, api.OK)
	r.complete(1, 3, api.OK)
	r.look(1, "next 4; wait j way 0: 1; wait j way 1: 1; wait j way 2: 2; wait j way 4: 1")
	r.tick(1000, api.OK)
	r.look(1, "next 4; wait j way 0: 1; wait j way 1: 1; wait j way 2: 2; wait j way 4: 1")
}

// What waits beyond one of each stays, and is there for the next ones.
func TestMoveJoinAgain(t *testing.T) {
	r := open(t, `<start id="s" to="f"/><fork id="f"><branch to="a"/><branch to="b"/></fork><task id="a" to="g"/><fork id="g"><branch to="a"/><branch to="j"/></fork>`+
		`<task id="b" to="h"/><fork id="h"><branch to="b"/><branch to="j"/></fork><join id="j" to="x"/><task id="x" to="e"/><end id="e"/>`)
	r.start(0, 0)
	r.complete(0, 1, api.OK)
	r.complete(0, 3, api.OK)
	r.complete(0, 4, api.OK)
	r.look(0, "next 6; item 2 b; item 5 a; wait j way 0: 3")
	r.complete(0, 2, api.OK)
	r.look(0, "next 8; item 5 a; item 6 b; item 7 x; wait j way 0: 2")
	r.complete(0, 6, api.OK)
	r.look(0, "next 10; item 5 a; item 7 x; item 8 b; item 9 x; wait j way 0: 1")
	r.complete(0, 8, api.OK)
	r.complete(0, 10, api.OK)
	r.look(0, "next 13; item 5 a; item 7 x; item 9 x; item 11 x; item 12 b; wait j way 1: 1")
}

// inTwice: two tokens go into one sub, each in a scope of its own; joins there keep them apart.
const inTwice = `<start id="s" to="f"/><fork id="f"><branch to="u"/><branch to="u"/></fork>` +
	`<sub id="u" to="k"><start id="us" to="ug"/><fork id="ug"><branch to="ua"/><branch to="ub"/><branch to="uh"/></fork>` +
	`<fork id="uh"><branch to="uk"/><branch to="uk"/><branch to="uj"/></fork><join id="uk" to="uc"/><task id="uc" to="uk"/>` +
	`<task id="ua" to="uj"/><task id="ub" to="uj"/><join id="uj" to="ue"/><end id="ue"/></sub><task id="k" to="e"/><end id="e"/>`

// Waits are told by scopes, then places, then ways, in whatever order they came; scopes have nothing to do with one another.
func TestMoveScopes(t *testing.T) {
	r := open(t, inTwice)
	r.start(0, 0)
	// uk waits for a third way, that of uc, which nobody has reached.
	all := "; wait uk in 1 way 0: 1; wait uk in 1 way 1: 1; wait uj in 1 way 0: 1; wait uk in 2 way 0: 1; wait uk in 2 way 1: 1; wait uj in 2 way 0: 1"
	r.look(0, "next 7; item 3 ua in 1; item 4 ub in 1; item 5 ua in 2; item 6 ub in 2; scope 1 u; scope 2 u"+all)
	r.complete(0, 6, api.OK)
	r.complete(0, 3, api.OK)
	r.look(0, "next 7; item 4 ub in 1; item 5 ua in 2; scope 1 u; scope 2 u; wait uk in 1 way 0: 1; wait uk in 1 way 1: 1; wait uj in 1 way 0: 1; wait uj in 1 way 1: 1; "+
		"wait uk in 2 way 0: 1; wait uk in 2 way 1: 1; wait uj in 2 way 0: 1; wait uj in 2 way 2: 1")
	r.complete(0, 4, api.OK)
	// The end was reached, but a wait is left in the scope.
	r.look(0, "next 7; item 5 ua in 2; scope 1 u; scope 2 u; wait uk in 1 way 0: 1; wait uk in 1 way 1: 1; wait uk in 2 way 0: 1; wait uk in 2 way 1: 1; wait uj in 2 way 0: 1; wait uj in 2 way 2: 1")
}

// An end ends its scope when nothing is left there: no item, no scope, no token on its way.
func TestMoveEnd(t *testing.T) {
	r := open(t, `<start id="s" to="f"/><fork id="f"><branch to="u"/><branch to="e"/></fork>`+
		`<sub id="u" to="k"><start id="us" to="ug"/><fork id="ug"><branch to="ue"/><branch to="ua"/><branch to="v"/><branch to="ud"/></fork><task id="ua" to="ue"/><end id="ue"/><end id="ud"/>`+
		`<sub id="v" to="ud"><start id="vs" to="vt"/><task id="vt" to="ve"/><end id="ve"/></sub></sub><task id="k" to="e"/><end id="e"/>`,
		`<start id="s" to="f"/><fork id="f"><branch to="e"/><branch to="c"/></fork><choice id="c"><else to="d"/></choice><end id="d"/><end id="e"/>`,
		`<start id="s" to="u"/><sub id="u" to="e"><start id="us" to="v"/><sub id="v" to="ue"><start id="vs" to="w"/><sub id="w" to="ve"><start id="ws" to="we"/><end id="we"/></sub><end id="ve"/></sub><end id="ue"/></sub><end id="e"/>`)
	r.start(0, 0)
	both := "next 5; item 2 ua in 1; item 4 vt in 3; scope 1 u; scope 3 v in 1"
	r.look(0, both)
	r.complete(0, 2, api.OK)
	r.look(0, "next 5; item 4 vt in 3; scope 1 u; scope 3 v in 1")
	r.complete(0, 4, api.OK)
	r.look(0, "next 6; item 5 k")
	r.complete(0, 5, api.OK)
	r.look(0, "done 1, next 6")
	r.start(0, 1)
	r.look(1, both)
	r.complete(1, 4, api.OK)
	r.look(1, "next 5; item 2 ua in 1; scope 1 u")
	r.complete(1, 2, api.OK)
	r.look(1, "next 6; item 5 k")
	r.start(1, 2)
	r.look(2, "done 1, model 1, next 1")
	r.start(2, 3)
	r.look(3, "done 1, model 2, next 4")
}

// Nothing that waits elsewhere keeps a scope, and no scope keeps what is not in it.
func TestMoveEndBeside(t *testing.T) {
	r := open(t, `<start id="s" to="f"/><fork id="f"><branch to="u"/><branch to="u"/><branch to="j"/><branch to="a"/></fork><task id="a" to="j"/><join id="j" to="e"/>`+
		`<sub id="u" to="k"><start id="us" to="ug"/><fork id="ug"><branch to="uj"/><branch to="ut"/></fork><task id="ut" to="uj"/><join id="uj" to="ue"/><end id="ue"/></sub><task id="k" to="e"/><end id="e"/>`)
	r.start(0, 0)
	r.look(0, "next 6; item 3 a; item 4 ut in 1; item 5 ut in 2; scope 1 u; scope 2 u; wait j way 0: 1; wait uj in 1 way 0: 1; wait uj in 2 way 0: 1")
	r.complete(0, 5, api.OK)
	r.look(0, "next 7; item 3 a; item 4 ut in 1; item 6 k; scope 1 u; wait j way 0: 1; wait uj in 1 way 0: 1")
	r.complete(0, 6, api.OK)
	r.complete(0, 4, api.OK)
	r.look(0, "next 8; item 3 a; item 7 k; wait j way 0: 1")
	r.complete(0, 7, api.OK)
	r.look(0, "next 8; item 3 a; wait j way 0: 1")
	r.complete(0, 3, api.OK)
	r.look(0, "done 1, next 8")
}

// Four subs, one within the other, are entered and left; each has a timer of its own.
func TestMoveDeep(t *testing.T) {
	s := `<start id="d" to="t"/><task id="t" to="e"/><timer on="t" after="9" to="e"/><end id="e"/>`
	for i := range 4 {
		s = strings.NewReplacer(`"d"`, fmt.Sprintf(`"d%d"`, i), `"e"`, fmt.Sprintf(`"e%d"`, i)).Replace(s)
		s = fmt.Sprintf(`<start id="d" to="u%d"/><sub id="u%d" to="e">%s</sub><timer on="u%d" after="%d" to="e"/><end id="e"/>`, i, i, s, i, 10+i)
	}
	r := open(t, s)
	r.tick(3, api.OK)
	r.start(0, 0)
	r.look(0, "next 6; item 5 t in 4 due 12; scope 1 u3 due 16; scope 2 u2 in 1 due 15; scope 3 u1 in 2 due 14; scope 4 u0 in 3 due 13")
	r.start(0, 1)
	r.complete(0, 5, api.OK)
	r.look(0, "done 1, next 6")
	r.tick(10, api.OK) // the item is due first: its token goes out of them all
	r.look(1, "done 1, next 6")
}

// P13: in whatever order items beside one another are completed, there is one token behind the join.
func TestOneBehindJoin(t *testing.T) {
	r := open(t, `<start id="s" to="f"/><fork id="f"><branch to="a"/><branch to="b"/><branch to="c"/></fork><task id="a" to="j"/><task id="b" to="j"/><task id="c" to="j"/><join id="j" to="x"/><task id="x" to="e"/><end id="e"/>`)
	for i, order := range [][]int{{1, 2, 3}, {1, 3, 2}, {2, 1, 3}, {2, 3, 1}, {3, 1, 2}, {3, 2, 1}} {
		r.start(0, i)
		for _, item := range order {
			r.complete(i, item, api.OK)
		}
		r.look(i, "next 5; item 4 x")
		r.complete(i, 4, api.OK)
		r.look(i, "done 1, next 5")
	}
}
