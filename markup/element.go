// Package markup takes texts apart into elements and writes elements as texts.
package markup

import "unicode/utf8"

// maxValue: bytes of what a value stands for.
const maxValue = 40

// Attr is an attribute: its name, and what its value stands for.
type Attr struct {
	Name, Value string
}

// Element has attributes, and elements within it.
type Element struct {
	Name   string
	Attrs  []Attr
	Within []Element
}

// New puts together an element with nothing within it.
func New(name string, attrs ...Attr) Element {
	return Element{Name: name, Attrs: append([]Attr{}, attrs...)}
}

// Find tells what an attribute's value stands for; false: there is no such attribute.
func (e Element) Find(name string) (string, bool) {
	for _, a := range e.Attrs {
		if a.Name == name {
			return a.Value, true
		}
	}
	return "", false
}

// Value tells what an attribute's value stands for; it is empty if there is no such attribute.
func (e Element) Value(name string) string {
	v, _ := e.Find(name)
	return v
}

// IsValue tells whether a value may stand for this.
func IsValue(s string) bool {
	if len(s) > maxValue || !utf8.ValidString(s) {
		return false
	}
	for _, c := range s {
		if c < ' ' {
			return false
		}
	}
	return true
}

// mark is a character that is written in another way in a value.
type mark struct {
	char    rune
	written string
}

var marks = [...]mark{
	{'<', "&lt;"},
	{'>', "&gt;"},
	{'&', "&amp;"},
	{'"', "&quot;"},
	{'\'', "&apos;"},
}
