package markup

import "strings"

// Text writes an element without comments, and with no blanks but one ahead of each attribute.
func (e Element) Text() string {
	var b strings.Builder
	e.write(&b)
	return b.String()
}

func (e Element) write(b *strings.Builder) {
	put(b, "<", e.Name)
	for _, a := range e.Attrs {
		put(b, " ", a.Name, "=\"", escaped(a.Value), "\"")
	}
	if len(e.Within) == 0 {
		put(b, "/>")
		return
	}
	put(b, ">")
	for _, w := range e.Within {
		w.write(b)
	}
	put(b, "</", e.Name, ">")
}

// put adds parts to what is written.
func put(b *strings.Builder, parts ...string) {
	for _, p := range parts {
		b.WriteString(p)
	}
}

// escaped tells how a value is written.
func escaped(value string) string {
	var b strings.Builder
	for _, c := range value {
		b.WriteString(written(c))
	}
	return b.String()
}

func written(c rune) string {
	for _, m := range marks {
		if m.char == c {
			return m.written
		}
	}
	return string(c)
}
