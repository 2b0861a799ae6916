package ferry_test

import (
	"math/rand/v2"
	"strings"
	"testing"

	"ferry/api"
	"ferry/disk"
	"ferry/ferry"
)

// written tells the sectors on which something stands.
func written(d *disk.Disk) []int {
	var l []int
	for i := range disk.Sectors {
		if strings.Trim(d.Read(i), "\x00") != "" {
			l = append(l, i)
		}
	}
	return l
}

// spoilDisk changes something on a disk.
func spoilDisk(r *rand.Rand, d *disk.Disk) {
	l := written(d)
	sector := l[r.IntN(len(l))]
	// Half of it is done where the bytes are few, as there every one of them tells something.
	if r.IntN(2) == 0 {
		for range 20 {
			sector = l[r.IntN(len(l))]
			if strings.HasSuffix(d.Read(sector), "\x00\x00\x00") {
				break
			}
		}
	}
	data := []byte(d.Read(sector))
	used := len(strings.TrimRight(string(data), "\x00")) + 1
	at := r.IntN(min(used, disk.Size))
	switch r.IntN(6) {
	case 0:
		data[at] = byte(r.IntN(256))
	case 1:
		data[at]++
	case 2:
		data[at] ^= 1 << r.IntN(8)
	case 3:
		copy(data[at:], data[at/2:])
	case 4:
		for i := at; i < len(data); i++ {
			data[i] = byte(r.IntN(256))
		}
	case 5:
		d.Write(sector, d.Read(l[r.IntN(len(l))]))
		return
	}
	d.Write(sector, string(data))
}

// P1: whatever stands on a disk, Open ends and does not panic, nor does an engine that it gives.
func TestStrangeDisks(t *testing.T) {
	t.Parallel()
	d := disk.New()
	x := reopen(t, d)
	l := history()
	var disks []*disk.Disk
	for i, c := range l {
		c.do(x)
		if i%3 == 0 && len(written(d)) > 0 {
			disks = append(disks, d.Crash(0))
		}
	}
	opened, refused := 0, 0
	for seed := range uint64(2000) {
		r := rand.New(rand.NewPCG(seed, 13))
		c := disks[r.IntN(len(disks))].Crash(0)
		for range 1 + r.IntN(3) {
			spoilDisk(r, c)
		}
		y, e := ferry.Open(c)
		if (y == nil) != (e != api.OK) || e != api.OK && e != api.ErrDisk {
			t.Fatalf("P1: Open of a strange disk = %v, %d", y, e)
		}
		if y == nil {
			refused++
			continue
		}
		opened++
		use(r, y)
		if _, e := ferry.Open(c.Crash(0)); e != api.OK {
			t.Fatalf("P12: seed %d: Open = %d, behind commands of an engine on a strange disk", seed, e)
		}
	}
	if opened < 300 || refused < 300 {
		t.Errorf("%d disks were opened, %d were not: too few to tell much", opened, refused)
	}
}

// use gives an engine commands and questions.
func use(r *rand.Rand, x *ferry.Engine) {
	for range 30 {
		run := r.IntN(20)
		s, _ := x.Look(run)
		for _, item := range s.Items {
			x.Complete(run, item.Number, []api.Set{put('a', int32(r.IntN(5)))})
		}
		x.Tick(1 + r.IntN(300))
		x.Start(r.IntN(4), [8]int32{})
		x.Model(r.IntN(4))
	}
	x.Deploy(in(oneTask))
}

// P1: disks that are full of something else.
func TestOtherDisks(t *testing.T) {
	for seed := range uint64(50) {
		r := rand.New(rand.NewPCG(seed, 17))
		d := disk.New()
		for i := range disk.Sectors {
			data := make([]byte, disk.Size)
			for k := range data {
				data[k] = byte(r.IntN(1 + int(seed)*5))
			}
			d.Write(i, string(data))
		}
		if x, e := ferry.Open(d); (x == nil) != (e == api.ErrDisk) {
			t.Errorf("P1: Open of a disk of something else = %v, %d", x, e)
		} else if x != nil {
			use(r, x)
		}
	}
	for _, s := range []string{"\xff", strings.Repeat("\xff", 256), "\x01", "\x02", strings.Repeat("\x01", 256), strings.Repeat("\x80", 256)} {
		d := disk.New()
		for i := range disk.Sectors {
			d.Write(i, s)
		}
		if x, e := ferry.Open(d); (x == nil) != (e == api.ErrDisk) {
			t.Errorf("P1: Open of a disk of %q = %v, %d", s, x, e)
		}
		d = disk.New()
		d.Write(0, s)
		if x, e := ferry.Open(d); (x == nil) != (e == api.ErrDisk) {
			t.Errorf("P1: Open of a disk with %q = %v, %d", s, x, e)
		}
	}
}
