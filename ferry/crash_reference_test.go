package ferry_test

import (
	"math/rand/v2"
	"strings"
	"testing"

	"ferry/api"
	"ferry/disk"
	"ferry/ferry"
)

// Here steps fail and disks crash by chance (with fixed seeds), and what is left is held against the second reading of the document.

// worn is a chance whose engine has a disk that fails.
type worn struct {
	chance
	d   *disk.Disk
	log []string
}

// open opens the disk as it is, or what a crash leaves of it; Open may fail there first.
func (w *worn) open(t *testing.T) {
	w.d.Fail(nil)
	for range w.IntN(3) {
		w.d.Fail([]int{1 + w.IntN(3)})
		x, e := ferry.Open(w.d)
		if (x == nil) != (e == api.ErrDisk) || e == api.ErrDisk && !w.d.Failed() {
			t.Fatalf("P12: Open = %v, %d, behind %q", x, e, w.log)
		}
		w.d.Fail(nil)
	}
	if w.IntN(4) > 0 {
		w.log = append(w.log, "crash")
		w.d = w.d.Crash(w.keep())
	}
	w.log = append(w.log, "Open")
	w.x = reopen(t, w.d)
}

func (w *worn) keep() int {
	switch w.IntN(6) {
	case 0:
		return 0
	case 1:
		return -1
	case 2:
		return 1 << w.IntN(10)
	}
	return int(w.Uint64())
}

// is tells whether the engine tells what this one does.
func (w *worn) is(ref refEngine) bool {
	w.ref = ref
	return w.differs() == ""
}

// command gives both a command of which a step may fail, and tells how the double was ahead of it.
func (w *worn) command(t *testing.T) (before refEngine, lost bool) {
	before = w.ref.clone()
	w.d.Fail(nil)
	if w.IntN(3) == 0 {
		w.d.Fail([]int{1 + w.IntN(6)})
		if w.IntN(2) == 0 {
			w.d.Fail(from(1 + w.IntN(6)))
		}
	}
	what, got, want := w.step()
	w.log = append(w.log, what+" = "+got)
	if lost = got == "0, 9"; lost {
		w.count["lost "+what[:4]]++
		if !strings.HasSuffix(want, ", 0") || !w.d.Failed() {
			t.Fatalf("P11: want %s, behind %q", want, w.log)
		}
		return before, true
	}
	if got != want {
		t.Fatalf("P11: want %s, behind %q", want, w.log)
	}
	return before, false
}

// refuses: behind ErrDisk the engine tells what it told ahead of it, and takes no command.
func (w *worn) refuses(t *testing.T, before refEngine) {
	for range 3 {
		if !w.is(before) {
			t.Fatalf("P11: %s, behind %q", w.differs(), w.log)
		}
		w.ref = before.clone()
		what, got, want := w.step()
		w.log = append(w.log, what+" = "+got)
		if strings.HasSuffix(want, ", 0") {
			want = "0, 10"
		}
		if got != want {
			t.Fatalf("P11: want %s, behind %q", want, w.log)
		}
	}
}

func TestCrashesByChance(t *testing.T) {
	t.Parallel()
	count := map[string]int{}
	for seed := range uint64(60) {
		w := &worn{chance: chance{maker: maker{Rand: rand.New(rand.NewPCG(seed, 7))}, count: count}, d: disk.New()}
		w.x = reopen(t, w.d)
		for range 200 {
			before, lost := w.command(t)
			after := w.ref.clone()
			if lost {
				w.refuses(t, before)
			} else if w.IntN(4) > 0 {
				continue
			}
			w.open(t)
			switch {
			case w.is(after):
				count["kept"]++
			case lost && w.is(before):
				count["not kept"]++
			default:
				t.Fatalf("P12: %s, seed %d, behind %q", w.differs(), seed, w.log)
			}
			// What is told stays so.
			w.d = w.d.Crash(w.keep())
			w.x = reopen(t, w.d)
			if d := w.differs(); d != "" {
				t.Fatalf("P12: behind one more crash: %s, seed %d, behind %q", d, seed, w.log)
			}
		}
	}
	for _, k := range []string{"lost Depl", "lost Star", "lost Comp", "lost Tick", "kept", "not kept"} {
		if count[k] < 50 {
			t.Errorf("%q came only %d times: too few to tell much", k, count[k])
		}
	}
}
