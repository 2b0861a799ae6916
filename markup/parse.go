package markup

import (
	"unicode/utf8"

	"ferry/api"
)

// maxDepth: of the elements in which an element stands.
const maxDepth = 6

// Parse takes a text of one element apart; false: it is none.
func Parse(text string) (Element, bool) {
	if len(text) > api.MaxText || !utf8.ValidString(text) {
		return Element{}, false
	}
	pieces := make(chan piece, roomFor(text))
	go takeApart(text, pieces)
	var b builder
	for p := range pieces {
		// Behind a fault too, all is taken off the channel: so the call does not answer ahead of the other side's end.
		if !b.bad {
			b.add(p)
		}
	}
	return b.whole()
}

// builder puts pieces together.
type builder struct {
	open []Element // those that have begun and not ended, the outermost first
	done []Element // the outermost ones that have ended
	bad  bool
}

func (b *builder) add(p piece) {
	switch p.kind {
	case begin:
		b.begin(Element{Name: p.name, Attrs: p.attrs})
	case end:
		b.end(p.name)
	default:
		b.bad = true
	}
}

func (b *builder) begin(e Element) {
	b.bad = len(b.open) > maxDepth
	b.open = append(b.open, e)
}

func (b *builder) end(name string) {
	last := len(b.open) - 1
	if last < 0 || b.open[last].Name != name {
		b.bad = true
		return
	}
	e := b.open[last]
	b.open = b.open[:last]
	if last == 0 {
		b.done = append(b.done, e)
		return
	}
	outer := &b.open[last-1]
	outer.Within = append(outer.Within, e)
}

// whole tells the one outermost element; false: there is none, or there are more, or one has not ended.
func (b *builder) whole() (Element, bool) {
	if b.bad || len(b.open) > 0 || len(b.done) != 1 {
		return Element{}, false
	}
	return b.done[0], true
}
