package ferry_test

import (
	"fmt"
	"math/rand/v2"
	"strings"
	"testing"

	"ferry/api"
	"ferry/disk"
	"ferry/ferry"
)

// command is one of a history.
type command struct {
	name string
	do   func(x *ferry.Engine) api.Errno
}

// alone: with an error there is no number; what is neither is no error that there is.
func alone(n int, e api.Errno) api.Errno {
	if n != 0 && e != api.OK {
		return -1
	}
	return e
}

func deploy(text string) command {
	return command{"Deploy of " + short(text), func(x *ferry.Engine) api.Errno { return alone(x.Deploy(text)) }}
}

func begin(model int, vars ...int32) command {
	var v [8]int32
	copy(v[:], vars)
	return command{fmt.Sprintf("Start(%d, %v)", model, vars), func(x *ferry.Engine) api.Errno { return alone(x.Start(model, v)) }}
}

func finish(run, item int, sets ...api.Set) command {
	return command{fmt.Sprintf("Complete(%d, %d, %v)", run, item, sets), func(x *ferry.Engine) api.Errno { return x.Complete(run, item, sets) }}
}

func pass(n int) command {
	return command{fmt.Sprintf("Tick(%d)", n), func(x *ferry.Engine) api.Errno { return x.Tick(n) }}
}

// busy has items, scopes, waits and timers.
const busy = `<start id="s" to="f"/><fork id="f"><branch to="u"/><branch to="t"/></fork>` +
	`<sub id="u" to="j"><start id="us" to="v"/><task id="v" to="ue" name="a &lt;name&gt;"/><end id="ue"/></sub><timer on="u" after="6" to="t"/>` +
	`<task id="t" to="j"/><timer on="t" after="4" to="l"/><task id="l" to="e"/><join id="j" to="c"/>` +
	`<choice id="c"><when var="a" op="lt" value="3" to="t"/><else to="e"/></choice><end id="e"/>`

// history has commands of all kinds, among them such as are refused.
func history() []command {
	return []command{
		pass(1), begin(0), deploy("<"), deploy(in(busy)), deploy(in(end)), begin(1), begin(0), finish(0, 3, add('a', 1)),
		finish(0, 3), finish(0, 2, put('i', 1)), begin(0, -1, 2, -3, 4, -5, 6, 2147483647, -2147483648), deploy(wideText), finish(0, 2, add('a', -2147483648)),
		pass(3), pass(0), begin(0, 3), finish(1, 2), pass(1001), pass(1), finish(2, 3, put('b', 300)),
		deploy(in(growing)), begin(2), finish(3, 1), finish(3, 2), pass(2), deploy(in(oneTask) + "<!--" + strings.Repeat("\x00\x01é", 700) + "-->"), deploy(in(oneTask)),
		finish(3, 3), finish(3, 4), finish(3, 5), finish(3, 6), finish(3, 7), finish(3, 8), finish(3, 9), finish(3, 10), finish(3, 11), finish(3, 12),
		finish(3, 13), finish(3, 14), begin(3), pass(1000), finish(4, 1, put('h', 9)), begin(1), pass(1000),
	}
}

// reopen makes an engine of a disk on which nothing fails that is needed.
func reopen(t *testing.T, d *disk.Disk) *ferry.Engine {
	t.Helper()
	x, e := ferry.Open(d)
	if x == nil || e != api.OK {
		t.Fatalf("P12: Open = %v, %d", x, e)
	}
	return x
}

// told is all that an engine tells.
func told(x *ferry.Engine) string { return rig{x: x}.showAll() }

// found is all that an engine tells that is opened on a disk.
func found(t *testing.T, d *disk.Disk) string {
	t.Helper()
	return told(reopen(t, d))
}

// from: all steps fail from this one on, as if there were none.
func from(n int) []int {
	var l []int
	for i := range 200 {
		l = append(l, n+i)
	}
	return l
}

// keeps tells which of the writes ahead of a step that are not safe may be done: of few all choices, of many some.
func keeps(step int) []int {
	l := []int{-1, 1<<62 - 1, 0x2aaaaaaaaaaaaaaa, 0x1555555555555555, 1 << 61, 1<<62 - 2}
	for k := range 1 << min(step-1, 4) {
		l = append(l, k)
	}
	r := rand.New(rand.NewPCG(uint64(step), 11))
	for range 6 {
		l = append(l, int(r.Uint64()>>2))
	}
	return l
}

// walk gives the commands of a history to an engine that has nothing to do with crashes, and tells for each what was shown ahead of it and behind it, and a disk on which the ones ahead of it are safe.
func walk(t *testing.T, l []command, visit func(i int, safe *disk.Disk, before, after string, want api.Errno)) {
	t.Helper()
	calm := reopen(t, disk.New())
	d := disk.New()
	x := reopen(t, d)
	for i, c := range l {
		before := told(calm)
		want := c.do(calm)
		after := told(calm)
		if (before == after) == (want == api.OK) {
			t.Fatalf("P1: %s = %d: changed: %v", c.name, want, before != after)
		}
		visit(i, d.Crash(0), before, after, want)
		if e := c.do(x); e != want || told(x) != after {
			t.Fatalf("P11: %s = %d, want %d; or what is told behind it is wrong", c.name, e, want)
		}
	}
}

// P11: what was answered OK is there behind a crash, whatever is kept of the rest, and what was refused is not.
func TestCrashBehindCommands(t *testing.T) {
	t.Parallel()
	d, same := disk.New(), disk.New()
	x, y := reopen(t, d), reopen(t, same)
	refused := 0
	for _, c := range history() {
		before := told(x)
		e := c.do(x)
		want := told(x)
		if e != api.OK {
			refused++
		}
		if (e == api.OK) == (want == before) {
			t.Fatalf("P1: %s = %d", c.name, e)
		}
		for _, keep := range keeps(3) {
			if got := found(t, d.Crash(keep)); got != want {
				t.Fatalf("P11: behind %s = %d and a crash, keep %d:\n%s\nwant\n%s", c.name, e, keep, got, want)
			}
		}
		// P12: the other one is opened again ahead of each command.
		y = reopen(t, same)
		if f := c.do(y); f != e || told(y) != want {
			t.Fatalf("P12: %s = %d, want %d; told\n%s\nwant\n%s", c.name, f, e, told(y), want)
		}
		if got := found(t, same); got != want {
			t.Fatalf("P12: opened again behind %s:\n%s\nwant\n%s", c.name, got, want)
		}
	}
	if refused < 8 {
		t.Errorf("only %d commands were refused", refused)
	}
}

// P12: a crash behind each step of each command leaves all of the command or nothing of it; a second crash changes nothing; and the engine goes on.
func TestCrashBehindSteps(t *testing.T) {
	t.Parallel()
	l := history()
	walk(t, l, func(i int, safe *disk.Disk, before, after string, want api.Errno) {
		lost, kept := 0, 0
		n := 1
		for ; ; n++ {
			d := safe.Crash(0)
			x := reopen(t, d)
			d.Fail(from(n))
			if e := l[i].do(x); e == want {
				break
			} else if e != api.ErrDisk {
				t.Fatalf("P11: %s, without the steps from %d on = %d, want ErrDisk", l[i].name, n, e)
			}
			for k, keep := range keeps(n) {
				left := d.Crash(keep)
				got := found(t, left)
				if got != before && got != after {
					t.Fatalf("P12: %s, a crash ahead of step %d, keep %d:\n%s\nwant\n%s\nor\n%s", l[i].name, n, keep, got, before, after)
				}
				if again := found(t, left.Crash(0)); again != got {
					t.Fatalf("P12: %s, a crash ahead of step %d, keep %d: behind a second crash\n%s\nwant\n%s", l[i].name, n, keep, again, got)
				}
				if got == after {
					kept++
					continue
				}
				lost++
				if k%5 == 0 {
					goesOn(t, left, l[i], want, after)
				}
			}
		}
		if want == api.OK && (lost == 0 || kept == 0 || n < 4) {
			t.Errorf("P12: %s: lost %d times, kept %d times, %d steps: too few to tell much", l[i].name, lost, kept, n-1)
		}
		if want != api.OK && n != 1 {
			t.Errorf("P11: %s, which is refused, needs the disk", l[i].name)
		}
	})
}

// goesOn: a command on what a crash has left is as on any engine.
func goesOn(t *testing.T, left *disk.Disk, c command, want api.Errno, after string) {
	t.Helper()
	x := reopen(t, left)
	if e := c.do(x); e != want || told(x) != after {
		t.Fatalf("P12: behind a crash: %s = %d, told\n%s\nwant %d,\n%s", c.name, e, told(x), want, after)
	}
	if got := found(t, left.Crash(0)); got != after {
		t.Fatalf("P11: behind a crash, %s, and another crash:\n%s\nwant\n%s", c.name, got, after)
	}
}

// P12: texts that were chosen to look, in part, like others that were written ahead of them, or like what else is on the disk.
func TestCrashWithinTexts(t *testing.T) {
	t.Parallel()
	long := func(id, filling string) string {
		s := strings.Replace(in(busy), `id="p"`, `id="`+id+`"`, 1)
		return s + "<!--" + strings.Repeat(filling, (12000-len(s)-7)/len(filling)) + "-->"
	}
	texts := []string{
		long("p", "x"), long("q", "x"), long("p", "y"), in(busy), long("p", "\x00"), long("p", "\x01"),
		long("p", string(rune(0x07))+strings.Repeat("\x00", 255)), long("p", in(oneTask)), in(oneTask),
	}
	for i, first := range texts {
		second := texts[(i+1)%len(texts)]
		for n := 1; n < 60; n += 1 + n/3 {
			d := disk.New()
			x := reopen(t, d)
			empty := told(x)
			d.Fail(from(n))
			if e := deploy(first).do(x); e == api.OK {
				break
			}
			for _, keep := range []int{0, -1, 0x2aaaaaaaaaaaaaaa, 1, 1<<62 - 2} {
				left := d.Crash(keep)
				x = reopen(t, left)
				if told(x) != empty {
					continue
				}
				left.Fail(from(2 * n))
				e := deploy(second).do(x)
				m, _ := ferry.Read(second)
				for _, keep := range keeps(4) {
					y := reopen(t, left.Crash(keep))
					got, has := y.Model(0)
					if e == api.OK && has != api.OK || has == api.OK && !same(got, m) {
						t.Fatalf("P12: Deploy of %s = %d behind part of %s, and a crash: Model = %+v, %d", short(second), e, short(first), got, has)
					}
				}
			}
		}
	}
}

// P12: tokens at the first and at the last place of all, in each way in which they can be there.
func TestReopenedPlaces(t *testing.T) {
	far := `<start id="s" to="n0"/>`
	for i := range 22 {
		far += fmt.Sprintf(`<task id="n%d" to="n%d"/><timer on="n%d" after="1" to="n%d"/>`, i, i+1, i, i+1)
	}
	far = strings.Replace(far, `<task id="n21" to="n22"/>`, `<end id="n22"/><task id="n21" to="n22"/>`, 1)
	for _, p := range []string{
		`<task id="t" to="e"/><timer on="t" after="3" to="t"/>` + start + end,
		`<join id="j" to="e"/><start id="s" to="f"/><fork id="f"><branch to="j"/><branch to="j"/><branch to="t"/></fork><task id="t" to="j"/><end id="e"/>`,
		`<sub id="u" to="e"><task id="v" to="ue"/><start id="us" to="v"/><end id="ue"/></sub><start id="s" to="u"/><end id="e"/>`,
		`<start id="s" to="t"/><end id="e"/><task id="t" to="e"/>`,
		far,
	} {
		d := disk.New()
		x := reopen(t, d)
		all(t, x, deploy(in(p)), begin(0))
		for range 30 {
			want := told(x)
			d = d.Crash(0)
			x = reopen(t, d)
			if got := told(x); got != want {
				t.Fatalf("P12: %s, opened again:\n%s\nwant\n%s", p, got, want)
			}
			if s, _ := x.Look(0); len(s.Items) > 0 && x.Now() > 0 {
				all(t, x, finish(0, s.Items[0].Number))
			}
			all(t, x, pass(1))
		}
		if s, _ := x.Look(0); s.Done != 1 {
			t.Errorf("P8: %s: the run is not done: %+v", p, s)
		}
	}
}
