package ferry_test

import (
	"fmt"
	"strings"
	"testing"

	"ferry/api"
	"ferry/disk"
	"ferry/ferry"
)

// longest makes a text as long as it may be.
func longest(text string) string {
	n := 12000 - len(text) - len("<!-- -->")
	return text + "<!--" + strings.Repeat("-é", n/3) + strings.Repeat("x", n%3) + " -->"
}

// largest is a model whose text is as long as any that Write gives, but for little.
func largest() string {
	s := `<start id="start000" to="choice01"/>`
	for i := range 20 {
		s += fmt.Sprintf(`<choice id="choice%02d">`, i+1) +
			strings.Repeat(fmt.Sprintf(`<when var="h" op="gt" value="-2147483648" to="choice%02d"/>`, i+2), 6) + fmt.Sprintf(`<else to="choice%02d"/></choice>`, i+2)
	}
	s = strings.ReplaceAll(s, "choice21", "task0000")
	for i := range 2 {
		s += fmt.Sprintf(`<task id="task%04d" to="task%04d" name="`+strings.Repeat("&quot;", 40)+`"/><timer on="task%04d" after="1000" to="task%04d"/>`, i, i+1, i, i+1)
	}
	return strings.ReplaceAll(in(s+`<end id="task0002"/>`), `"p"`, `"process0"`)
}

// long: at t numbers are used up, till the run goes into a sub in which there come to be as many items as may be, each of them with a timer.
const long = `<start id="s" to="t"/><task id="t" to="c"/><choice id="c"><when var="a" op="eq" value="-1" to="t"/><else to="u"/></choice>` +
	`<sub id="u" to="e"><start id="us" to="w"/><task id="w" to="g"/><timer on="w" after="1000" to="w"/>` +
	`<fork id="g"><branch to="w"/><branch to="w"/><branch to="w"/><branch to="w"/></fork><end id="ue"/><task id="uz" to="ue"/><timer on="uz" after="1" to="uz"/></sub><timer on="u" after="1000" to="t"/><end id="e"/>`

// lastly is all that an engine tells; it is the same on its disk behind a crash.
func lastly(t *testing.T, d *disk.Disk, x *ferry.Engine) string {
	t.Helper()
	want := told(x)
	for _, keep := range []int{0, -1} {
		if got := found(t, d.Crash(keep)); got != want {
			t.Fatalf("P11: behind a crash:\n%s\nwant\n%s", got, want)
		}
	}
	return want
}

func all(t *testing.T, x *ferry.Engine, l ...command) {
	t.Helper()
	for _, c := range l {
		if e := c.do(x); e != api.OK {
			t.Fatalf("%s = %d", c.name, e)
		}
	}
}

// P11, P12: the most and the longest that there may be, and far more commands than a disk has room for.
func TestLongest(t *testing.T) {
	t.Parallel()
	d := disk.New()
	x := reopen(t, d)
	for i, s := range []string{longest(in(long)), longest(largest()), longest(in(long)), longest(in(growing))} {
		if m, e := ferry.Read(s); len(s) != 12000 || e != api.OK || i == 1 && len(m.Nodes) != 24 {
			t.Fatalf("P3: a text of %d bytes: %d nodes, %d", len(s), len(m.Nodes), e)
		}
		all(t, x, deploy(s))
		lastly(t, d, x)
	}
	all(t, x, repeated(pass(1000), 90)...)
	x = reopen(t, d.Crash(0))
	if x.Now() != 90000 {
		t.Fatalf("P11: NOW %d behind a crash, want 90000", x.Now())
	}
	d = d.Crash(0)
	x = reopen(t, d)
	for run := range 20 {
		all(t, x, begin(run%2*2, -1, -2, -3, -2147483648, -5, -6, 2147483647, -8))
		for item := range 200 {
			all(t, x, finish(run, item+1))
		}
		all(t, x, finish(run, 201, put('a', -3)))
		for item := range 12 {
			all(t, x, finish(run, item+203))
		}
		lastly(t, d, x)
	}
	for run := range 20 {
		if s, _ := x.Look(run); len(s.Items) != 37 || len(s.Scopes) != 1 || s.Scopes[0].Number != 202 || s.Items[0].Due != 91000 {
			t.Fatalf("P8: run %d: %+v", run, s)
		}
	}
	for i := range 999 {
		all(t, x, pass(1))
		if i%100 == 0 {
			lastly(t, d, x)
			x = reopen(t, d)
		}
	}
	want := lastly(t, d, x)
	for _, c := range []command{deploy(in(oneTask)), begin(0), finish(0, 1), pass(1001)} {
		if e := c.do(x); e == api.OK {
			t.Fatalf("%s = %d", c.name, e)
		}
	}
	if lastly(t, d, x) != want {
		t.Errorf("P1: refused commands have changed something")
	}
	// Everything is done anew, at one time: the items in the sub are gone with it.
	all(t, x, pass(1), pass(1000))
	lastly(t, d, x)
	all(t, x, repeated(pass(1000), 8)...)
	if lastly(t, d, x); x.Now() != 100000 {
		t.Errorf("P9: NOW %d", x.Now())
	}
}

// P11: as many numbers as there may be, with a crash now and then.
func TestLongRun(t *testing.T) {
	t.Parallel()
	d := disk.New()
	x := reopen(t, d)
	all(t, x, deploy(in(`<start id="s" to="t"/><task id="t" to="t"/><timer on="t" after="1" to="t"/><end id="e"/><task id="z" to="e"/><timer on="z" after="1" to="z"/>`)), begin(0))
	for i := range 998 {
		if i%2 == 0 {
			all(t, x, finish(0, i+1, add('a', 1)))
		} else {
			all(t, x, pass(1))
		}
		if i%37 == 0 {
			d = d.Crash(i)
			x = reopen(t, d)
		}
	}
	want := "next 1000, a 499; item 999 t due 500"
	rig{t: t, x: x}.look(0, want)
	rig{t: t, x: reopen(t, d.Crash(0))}.look(0, want)
	for _, c := range []command{finish(0, 999), pass(1)} {
		if e := c.do(x); e != api.ErrTokens {
			t.Errorf("P8: %s = %d, want ErrTokens", c.name, e)
		}
	}
	rig{t: t, x: reopen(t, d.Crash(-1))}.look(0, want)
}
