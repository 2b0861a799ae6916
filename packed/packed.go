// Package packed puts numbers and texts together as bytes, and takes them apart again.
package packed

import "strings"

const (
	bits    = 7         // of a number that stand in one byte
	more    = 1 << bits // what a byte has besides, if another one of its number comes behind it
	longest = 5         // bytes of a number: enough for 32 bits
)

// Numbers makes bytes of numbers, each of which is from 0 on and has at most 32 bits.
func Numbers(l ...int) string {
	var out []byte
	for _, n := range l {
		for ; n >= more; n >>= bits {
			out = append(out, byte(n%more+more))
		}
		out = append(out, byte(n))
	}
	return string(out)
}

// Text makes bytes of a text, in which its end is found whatever stands in it.
func Text(s string) string {
	return Join(Numbers(len(s)), s)
}

// Join puts parts together.
func Join(parts ...string) string {
	return strings.Join(parts, "")
}

// Reader takes apart what was put together, from the front on.
type Reader struct {
	left string
	bad  bool
}

// Open makes a reader of bytes, behind which others may stand.
func Open(data string) *Reader {
	return &Reader{left: data}
}

// Good tells whether all that was asked for was there. (What was not is 0, or empty.)
func (r *Reader) Good() bool {
	return !r.bad
}

// Numbers takes a number for each of these.
func (r *Reader) Numbers(into ...*int) {
	for _, n := range into {
		*n = r.number()
	}
}

func (r *Reader) number() int {
	n := 0
	for i := range min(longest, len(r.left)) {
		b := int(r.left[i])
		n += (b % more) << (bits * i)
		if b < more {
			r.left = r.left[i+1:]
			return n
		}
	}
	r.fail()
	return 0
}

// Text takes a text.
func (r *Reader) Text() string {
	n := r.number()
	if n > len(r.left) {
		r.fail()
		return ""
	}
	s := r.left[:n]
	r.left = r.left[n:]
	return s
}

// Rest takes all that is left.
func (r *Reader) Rest() string {
	s := r.left
	r.left = ""
	return s
}

// fail lets nothing be found any more, as what comes behind something unknown can't be told apart.
func (r *Reader) fail() {
	r.left, r.bad = "", true
}
