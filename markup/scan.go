package markup

import "strings"

// maxName: letters of a name.
const maxName = 12

// The kinds of pieces.
const (
	begin = iota + 1
	end
	fault
)

// piece is what is found in a text: where an element begins, where one ends, or a fault.
type piece struct {
	kind  int
	name  string
	attrs []Attr
}

// roomFor tells how many pieces a text can have: a tag begins with its own "<" and is two pieces at most, and a fault is the last of all.
func roomFor(text string) int {
	return 2*strings.Count(text, "<") + 1
}

// takeApart sends the pieces of a text; behind a fault it looks for no more.
func takeApart(text string, out chan<- piece) {
	// Closing is the last thing that is done: who has seen the end of the channel knows that nothing goes on here.
	defer close(out)
	s := scanner{text: text}
	for s.at < len(s.text) {
		found, ok := s.next()
		if !ok {
			out <- piece{kind: fault}
			return
		}
		for _, p := range found {
			out <- p
		}
	}
}

// scanner is a text, and how far it has been taken apart.
type scanner struct {
	text string
	at   int
}

// next takes the blanks, the comment or the tag that stands here.
func (s *scanner) next() ([]piece, bool) {
	switch {
	case s.skipBlanks() > 0:
		return nil, true
	case s.take("<!--"):
		return nil, s.skipComment()
	case s.take("</"):
		return s.endTag()
	case s.take("<"):
		return s.beginTag()
	}
	return nil, false
}

// take goes on behind a part, if it stands here.
func (s *scanner) take(part string) bool {
	if !strings.HasPrefix(s.text[s.at:], part) {
		return false
	}
	s.at += len(part)
	return true
}

// skipBlanks tells how many blanks there were.
func (s *scanner) skipBlanks() int {
	from := s.at
	for s.at < len(s.text) && isBlank(s.text[s.at]) {
		s.at++
	}
	return s.at - from
}

func isBlank(c byte) bool {
	return c == ' ' || c == '\t' || c == '\n' || c == '\r'
}

// skipComment goes on behind a comment whose beginning was taken.
func (s *scanner) skipComment() bool {
	n := strings.Index(s.text[s.at:], "--")
	if n < 0 {
		return false
	}
	s.at += n
	return s.take("-->")
}

// atLetter tells whether a letter stands here.
func (s *scanner) atLetter() bool {
	return s.at < len(s.text) && 'a' <= s.text[s.at] && s.text[s.at] <= 'z'
}

func (s *scanner) name() (string, bool) {
	from := s.at
	for s.atLetter() {
		s.at++
	}
	n := s.at - from
	return s.text[from:s.at], 1 <= n && n <= maxName
}

// endTag takes a closing tag whose "</" was taken.
func (s *scanner) endTag() ([]piece, bool) {
	name, ok := s.name()
	s.skipBlanks()
	return []piece{{kind: end, name: name}}, ok && s.take(">")
}

// beginTag takes a tag whose "<" was taken.
func (s *scanner) beginTag() ([]piece, bool) {
	name, ok := s.name()
	if !ok {
		return nil, false
	}
	attrs, ok := s.attributes()
	if !ok {
		return nil, false
	}
	found := []piece{{kind: begin, name: name, attrs: attrs}}
	if s.take("/>") {
		return append(found, piece{kind: end, name: name}), true
	}
	return found, s.take(">")
}

// attributes takes a tag's attributes, and the blanks around them.
func (s *scanner) attributes() ([]Attr, bool) {
	var e Element
	for s.skipBlanks() > 0 && s.atLetter() {
		a, ok := s.attribute()
		if _, twice := e.Find(a.Name); !ok || twice {
			return nil, false
		}
		e.Attrs = append(e.Attrs, a)
	}
	return e.Attrs, true
}

func (s *scanner) attribute() (Attr, bool) {
	name, ok := s.name()
	if !ok || !s.take("=\"") {
		return Attr{}, false
	}
	value, ok := s.value()
	return Attr{Name: name, Value: value}, ok
}

// value takes a value with the quote behind it.
func (s *scanner) value() (string, bool) {
	var out []byte
	for len(out) <= maxValue && s.at < len(s.text) {
		c := s.text[s.at]
		switch {
		case c == '"':
			s.at++
			return string(out), true
		case c == '<' || c < ' ':
			return "", false
		case c == '&':
			m, ok := s.mark()
			if !ok {
				return "", false
			}
			out = append(out, string(m.char)...)
		default:
			out = append(out, c)
			s.at++
		}
	}
	return "", false
}

// mark takes a character that is written in another way.
func (s *scanner) mark() (mark, bool) {
	for _, m := range marks {
		if s.take(m.written) {
			return m, true
		}
	}
	return mark{}, false
}
