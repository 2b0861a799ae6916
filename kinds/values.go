package kinds

import (
	"strconv"

	"ferry/api"
)

// maxID: characters of an id.
const maxID = 8

// MaxAfter: how long a timer may wait.
const MaxAfter = 1000

// opNames: no op has an empty name, nor the number 0.
var opNames = [...]string{api.Less: "lt", api.Equal: "eq", api.Greater: "gt"}

// fits tells whether an attribute of this name may have this value: each name means the same in every element.
func fits(name, value string) bool {
	switch name {
	case "id", "to", "on":
		return IsID(value)
	case "var":
		return len(value) == 1 && IsVar(value[0])
	case "op":
		return OpNamed(value) != 0
	case "value":
		_, ok := Number(value)
		return ok
	case "after":
		n, ok := Number(value)
		return ok && 1 <= n && n <= MaxAfter
	}
	return true
}

// IsID tells whether a text is an id.
func IsID(s string) bool {
	if len(s) < 1 || len(s) > maxID {
		return false
	}
	for _, c := range s {
		if !('a' <= c && c <= 'z' || '0' <= c && c <= '9') {
			return false
		}
	}
	return true
}

// IsVar tells whether a letter is that of a variable.
func IsVar(c byte) bool {
	return 'a' <= c && c <= 'h'
}

// OpNamed tells what a case asks; 0: there is no such name.
func OpNamed(name string) int {
	for op, n := range opNames {
		if n == name {
			return op
		}
	}
	return 0
}

// OpName tells the name of what a case asks; it is empty if there is none.
func OpName(op int) string {
	if op < 0 || op >= len(opNames) {
		return ""
	}
	return opNames[op]
}

// Number reads a decimal number of an int32.
func Number(s string) (int32, bool) {
	n, err := strconv.ParseInt(s, 10, 32)
	// Only one way of writing a number is right: the one in which it is written out again.
	if err != nil || strconv.FormatInt(n, 10) != s {
		return 0, false
	}
	return int32(n), true
}
