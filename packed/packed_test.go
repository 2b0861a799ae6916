package packed

import (
	"math"
	"strings"
	"testing"
)

// edges are numbers at which the count of bytes changes, and around them.
func edges() []int {
	l := []int{0, 1, 2, math.MaxInt32, math.MaxUint32, math.MaxUint32 - 1}
	for bit := range 32 {
		l = append(l, 1<<bit-1, 1<<bit, 1<<bit+1)
	}
	return l
}

// What is put together is taken apart, whatever stands behind it.
func TestThereAndBack(t *testing.T) {
	for _, n := range edges() {
		for _, s := range []string{"", "\x00", "x\x00\x80\xff", strings.Repeat("\x80", 300), strings.Repeat("é", 9000)} {
			for _, behind := range []string{"", "\x00\x00", "\xff"} {
				r := Open(Join(Numbers(n, 7), Text(s), Numbers(), Numbers(n), behind))
				var a, b, c int
				r.Numbers(&a, &b)
				text := r.Text()
				r.Numbers(&c)
				if a != n || b != 7 || text != s || c != n || !r.Good() {
					t.Fatalf("%d, 7, %.20q, %d = %d, %d, %.20q, %d, %v", n, s, n, a, b, text, c, r.Good())
				}
				if rest := r.Rest(); rest != behind || r.Rest() != "" || !r.Good() {
					t.Fatalf("Rest = %q, want %q", rest, behind)
				}
			}
		}
	}
}

// A text may be the last of all.
func TestLastText(t *testing.T) {
	for _, want := range []string{"", "x", strings.Repeat("x", 127), strings.Repeat("x", 128)} {
		r := Open(Text(want))
		if s := r.Text(); s != want || !r.Good() || r.Rest() != "" {
			t.Errorf("Text = %q, %v, want %q", s, r.Good(), want)
		}
	}
}

// Small numbers, which are nearly all, are short.
func TestShort(t *testing.T) {
	for n, want := range map[int]int{0: 1, 127: 1, 128: 2, 16383: 2, 16384: 3, 101000: 3, math.MaxUint32: 5} {
		if got := len(Numbers(n)); got != want {
			t.Errorf("%d has %d bytes, want %d", n, got, want)
		}
	}
	if Join() != "" || Numbers() != "" || Join("a", "", "b") != "ab" {
		t.Errorf("nothing is something")
	}
}

// Noughts are noughts: a disk of noughts has numbers, and texts that are empty.
func TestNoughts(t *testing.T) {
	r := Open(string(make([]byte, 4)))
	a, b := 5, 6
	r.Numbers(&a, &b)
	if s := r.Text(); a != 0 || b != 0 || s != "" || !r.Good() || r.Rest() != "\x00" {
		t.Errorf("noughts are %d, %d, %q", a, b, s)
	}
}

// What is cut off, or has too many bytes, is not good, and nothing is found behind it.
func TestBad(t *testing.T) {
	n := 5
	for _, s := range []string{"", "\x80", "\xff\xff\xff\xff", "\xff\xff\xff\xff\xff\x01", "\x80\x80\x80\x80\x80\x00", strings.Repeat("\xff", 100)} {
		r := Open(s)
		r.Numbers(&n)
		if r.Good() || n != 0 || r.Rest() != "" || r.Text() != "" || r.Good() {
			t.Errorf("a number is found in %q", s)
		}
	}
	for _, s := range []string{"", "\x01", "\x05abcd", "\x80", Text("abc")[:3], Text(strings.Repeat("x", 300))[:301], Join(Numbers(math.MaxUint32), "x")} {
		r := Open(s)
		if got := r.Text(); r.Good() || got != "" {
			t.Errorf("a text is found in %q: %q", s, got)
		}
		if r.Numbers(&n); r.Good() || n != 0 {
			t.Errorf("behind a text that is not there: %d", n)
		}
	}
}
