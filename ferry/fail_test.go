package ferry_test

import (
	"testing"

	"ferry/api"
	"ferry/disk"
	"ferry/ferry"
)

// P11: behind a step that fails the command is answered ErrDisk, all others ErrReadOnly, or the error that they have otherwise; questions are answered as ahead of it.
// P12: opened again on the same disk, all of the command is there or nothing; and that stays so.
func TestEachStepFails(t *testing.T) {
	t.Parallel()
	l := history()
	walk(t, l, func(i int, safe *disk.Disk, before, after string, want api.Errno) {
		answers := eachAlone(t, safe, l)
		for n := 1; ; n++ {
			d := safe.Crash(0)
			x := reopen(t, d)
			d.Fail([]int{n})
			e := l[i].do(x)
			if !d.Failed() {
				if e != want {
					t.Fatalf("P11: %s = %d, want %d", l[i].name, e, want)
				}
				return
			}
			if e != api.ErrDisk || told(x) != before {
				t.Fatalf("P11: %s, where step %d fails = %d, want ErrDisk; told\n%s\nwant\n%s", l[i].name, n, e, told(x), before)
			}
			readOnly(t, x, l, answers)
			if told(x) != before {
				t.Fatalf("P11: behind ErrReadOnly\n%s\nwant\n%s", told(x), before)
			}
			stays(t, d, before, after)
		}
	})
}

// eachAlone tells what each of the commands is answered, if it is the next one.
func eachAlone(t *testing.T, safe *disk.Disk, l []command) []api.Errno {
	t.Helper()
	var answers []api.Errno
	for _, c := range l {
		answers = append(answers, c.do(reopen(t, safe.Crash(0))))
	}
	return answers
}

// readOnly: an engine whose disk has failed refuses all commands; those that it would refuse in any case with the same errors.
func readOnly(t *testing.T, x *ferry.Engine, l []command, answers []api.Errno) {
	t.Helper()
	for i, c := range l {
		want := answers[i]
		if want == api.OK {
			want = api.ErrReadOnly
		}
		if e := c.do(x); e != want {
			t.Fatalf("P11: %s behind ErrDisk = %d, want %d", c.name, e, want)
		}
	}
}

// stays: what is told once of a disk stays so, whatever a crash leaves.
func stays(t *testing.T, d *disk.Disk, before, after string) {
	t.Helper()
	got := found(t, d)
	if got != before && got != after {
		t.Fatalf("P12: opened again behind ErrDisk:\n%s\nwant\n%s\nor\n%s", got, before, after)
	}
	for _, keep := range keeps(5) {
		if again := found(t, d.Crash(keep)); again != got {
			t.Fatalf("P12: told behind ErrDisk:\n%s\nbehind a crash, keep %d:\n%s", got, keep, again)
		}
	}
}

// P11, P12: an engine that was opened behind ErrDisk is not read-only, and what it answers OK is safe.
func TestOpenedBehindErrDisk(t *testing.T) {
	t.Parallel()
	l := history()
	walk(t, l, func(i int, safe *disk.Disk, before, after string, want api.Errno) {
		for n := 1; ; n++ {
			d := safe.Crash(0)
			x := reopen(t, d)
			d.Fail([]int{n})
			if l[i].do(x); !d.Failed() {
				return
			}
			for again := range 3 {
				d.Fail(nil)
				y := reopen(t, d)
				if told(y) == after {
					break
				}
				// It fails once more, at another step.
				d.Fail([]int{n + again + 1})
				if e := l[i].do(y); e == api.OK && found(t, d.Crash(0)) != after || e != api.OK && e != api.ErrDisk {
					t.Fatalf("P11: %s = %d, opened again behind ErrDisk", l[i].name, e)
				}
			}
			d.Fail(nil)
			y := reopen(t, d)
			if told(y) == before {
				goesOn(t, d, l[i], want, after)
			} else if told(y) != after {
				t.Fatalf("P12: %s behind ErrDisk: told\n%s", l[i].name, told(y))
			}
		}
	})
}

// P12: a step of Open fails: there is no engine; and nothing is lost.
func TestOpenFails(t *testing.T) {
	t.Parallel()
	l := history()
	failed := 0
	walk(t, l, func(i int, safe *disk.Disk, before, after string, want api.Errno) {
		for n := 1; ; n++ {
			d := safe.Crash(0)
			x := reopen(t, d)
			d.Fail([]int{n})
			l[i].do(x)
			lost := d.Failed()
			for step := 1; step < 5; step++ {
				failed += openFails(t, d, step, before, after)
			}
			d.Fail(nil)
			if got := found(t, d); got != after && (!lost || got != before) {
				t.Fatalf("P12: %s, opened when all is well again:\n%s\nwant\n%s", l[i].name, got, after)
			}
			if !lost {
				return
			}
		}
	})
	if failed < 50 {
		t.Errorf("P12: Open failed only %d times: what it tells can't be safe", failed)
	}
}

// openFails opens a disk of which a step fails, and tells how often there is no engine.
func openFails(t *testing.T, d *disk.Disk, step int, before, after string) int {
	t.Helper()
	c := d.Crash(-1)
	for _, on := range []*disk.Disk{d, c} {
		on.Fail([]int{step})
		y, e := ferry.Open(on)
		switch {
		case y == nil && e == api.ErrDisk && on.Failed():
			if on == d {
				return 1
			}
		case y == nil || e != api.OK:
			t.Fatalf("P12: Open, where step %d fails = %v, %d", step, y, e)
		case told(y) != before && told(y) != after:
			t.Fatalf("P12: Open, where step %d fails: told\n%s", step, told(y))
		}
	}
	return 0
}

// P12: where what a command has written is all there, but not safe, Open tells it only if it can make it safe.
func TestOpenNeedsItsSync(t *testing.T) {
	d := disk.New()
	x := reopen(t, d)
	deploy(in(oneTask)).do(x)
	before := told(x)
	last := 0
	for n := 1; last == 0; n++ {
		c := d.Crash(0)
		c.Fail([]int{n + 1}) // the first one is Open's
		if e := pass(7).do(reopen(t, c)); e == api.OK {
			last = n - 1
		}
	}
	c := d.Crash(0)
	x = reopen(t, c)
	c.Fail([]int{last})
	if e := pass(7).do(x); e != api.ErrDisk || told(x) != before {
		t.Fatalf("P11: Tick, where the last step fails = %d", e)
	}
	c.Fail(from(1))
	if y, e := ferry.Open(c); y != nil || e != api.ErrDisk {
		t.Fatalf("P12: Open, where nothing can be made safe = %v, %d, want ErrDisk", y, e)
	}
	if got := found(t, c.Crash(0)); got != before {
		t.Errorf("P12: behind an Open that failed, and a crash:\n%s\nwant\n%s", got, before)
	}
	c.Fail(nil)
	stays(t, c, before, told(reopen(t, c.Crash(-1))))
}

// P5: on a disk that nobody wrote on, no step is needed.
func TestOpenNewNeedsNoStep(t *testing.T) {
	d := disk.New()
	d.Fail(from(1))
	x, e := ferry.Open(d)
	if x == nil || e != api.OK || d.Failed() {
		t.Fatalf("P5: Open of a new disk on which all steps fail = %v, %d", x, e)
	}
	if told(x) != told(reopen(t, disk.New())) {
		t.Errorf("P5: told\n%s", told(x))
	}
	if e := pass(1).do(x); e != api.ErrDisk || x.Now() != 0 {
		t.Errorf("P11: the first command, where all steps fail = %d, NOW %d", e, x.Now())
	}
	d.Fail(nil)
	if e := pass(1).do(x); e != api.ErrReadOnly {
		t.Errorf("P11: Tick behind ErrDisk, when the disk is well again = %d, want ErrReadOnly", e)
	}
	if x.Now() != 0 {
		t.Errorf("P11: NOW = %d behind ErrReadOnly", x.Now())
	}
	y := reopen(t, d)
	if e := pass(1).do(y); e != api.OK || y.Now() != 1 {
		t.Errorf("P12: Tick of an engine that is opened when the disk is well = %d, NOW %d", e, y.Now())
	}
}

// P1: no disk is none that works.
func TestOpenNil(t *testing.T) {
	if x, e := ferry.Open(nil); x != nil || e != api.ErrDisk {
		t.Errorf("P1: Open(nil) = %v, %d", x, e)
	}
}

// P11: each of the errors that a command may have comes ahead of ErrReadOnly, and ahead of ErrDisk.
func TestErrorsAheadOfReadOnly(t *testing.T) {
	full := func(t *testing.T) (*disk.Disk, *ferry.Engine) {
		d := disk.New()
		x := reopen(t, d)
		late := `<start id="s" to="t"/><task id="t" to="t"/><timer on="t" after="5" to="f"/><fork id="f"><branch to="t"/><branch to="t"/><branch to="t"/><branch to="t"/></fork><end id="e"/><task id="z" to="e"/><timer on="z" after="1" to="z"/>`
		for _, p := range []string{growing, late, `<start id="s" to="t"/><task id="t" to="e"/><end id="e"/>`} {
			deploy(in(p)).do(x)
		}
		begin(0).do(x)
		for i := range 13 {
			finish(0, i+1).do(x)
		}
		begin(1).do(x)
		pass(5).do(x)
		pass(5).do(x)
		return d, x
	}
	for _, c := range []struct {
		command
		more []command // ahead of it
		want api.Errno
	}{
		{deploy("x"), nil, api.ErrText},
		{deploy("<process/>"), nil, api.ErrModel},
		{deploy(in(start)), nil, api.ErrGraph},
		{deploy(in(oneTask)), []command{deploy(in(oneTask))}, api.ErrFull},
		{begin(3), nil, api.ErrNone},
		{begin(-1), nil, api.ErrNone},
		{begin(0), repeated(begin(2), 18), api.ErrFull},
		{finish(2, 1), nil, api.ErrNone},
		{finish(0, 13), nil, api.ErrNone},
		{finish(0, 14, put('x', 1)), nil, api.ErrSet},
		{finish(0, 14), nil, api.ErrTokens},
		{pass(0), nil, api.ErrTime},
		{pass(1001), nil, api.ErrTime},
		{pass(5), nil, api.ErrTokens},
	} {
		d, x := full(t)
		for _, m := range c.more {
			if e := m.do(x); e != api.OK {
				t.Fatalf("%s = %d", m.name, e)
			}
		}
		d.Fail(from(1))
		before := told(x)
		if e := c.do(x); e != c.want || d.Failed() {
			t.Errorf("P11: %s = %d, want %d, without a step", c.name, e, c.want)
		}
		lost := pass(1)
		if e := lost.do(x); e != api.ErrDisk {
			t.Fatalf("P11: %s = %d, want ErrDisk", lost.name, e)
		}
		for range 2 {
			if e := c.do(x); e != c.want {
				t.Errorf("P11: %s behind ErrDisk = %d, want %d", c.name, e, c.want)
			}
			if e := lost.do(x); e != api.ErrReadOnly {
				t.Errorf("P11: %s behind ErrDisk = %d, want ErrReadOnly", lost.name, e)
			}
		}
		if told(x) != before {
			t.Errorf("P11: %s behind ErrDisk has changed something", c.name)
		}
	}
}

func repeated(c command, n int) []command {
	var l []command
	for range n {
		l = append(l, c)
	}
	return l
}

// P2: questions and refused commands do nothing on the disk; nor does an engine that is read-only.
func TestNoNeedlessSteps(t *testing.T) {
	d := disk.New()
	x := reopen(t, d)
	for _, c := range history() {
		c.do(x)
	}
	d.Fail(from(1))
	told(x)
	x.Model(-1)
	x.Look(99)
	for _, c := range []command{deploy("x"), begin(9), finish(99, 1), finish(0, 99), pass(0)} {
		c.do(x)
	}
	if d.Failed() {
		t.Errorf("P2: a question, or a refused command, does a step")
	}
	pass(1).do(x)
	d = d.Crash(0)
	x = reopen(t, d)
	d.Fail([]int{1})
	if e := pass(1).do(x); e != api.ErrDisk {
		t.Fatalf("P11: Tick = %d, want ErrDisk", e)
	}
	before := found(t, d.Crash(-1))
	for _, c := range []command{pass(2), pass(3), begin(0)} {
		if e := c.do(x); e != api.ErrReadOnly {
			t.Errorf("P11: %s = %d, want ErrReadOnly", c.name, e)
		}
	}
	if found(t, d.Crash(-1)) != before || x.Now() != reopen(t, d.Crash(0)).Now() {
		t.Errorf("P11: commands that are answered ErrReadOnly are on the disk")
	}
}
