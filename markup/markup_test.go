package markup

import (
	"reflect"
	"strings"
	"testing"
)

// The channel has room for all the pieces: nobody takes them off here, and still all of them are sent.
func TestRoom(t *testing.T) {
	for _, s := range []string{"", "x", "<", "<a/>", "<a/>x", "<a/><", "<a></a>", "<a><a><a>", "</a></a></a>", strings.Repeat("<a/>", 3000), strings.Repeat("<a>", 4000), strings.Repeat("<", 12000), strings.Repeat("<a/>", 2999) + "x"} {
		out := make(chan piece, roomFor(s))
		done := make(chan int)
		go func() {
			takeApart(s, out)
			close(done)
		}()
		<-done
	}
}

func kindsOf(text string) []int {
	out := make(chan piece, roomFor(text))
	go takeApart(text, out)
	var l []int
	for p := range out {
		l = append(l, p.kind)
	}
	return l
}

func TestPieces(t *testing.T) {
	for s, want := range map[string][]int{
		"":                      nil,
		" \n":                   nil,
		"<!-- -->":              nil,
		"<a/>":                  {begin, end},
		"<a> </a>":              {begin, end},
		"</a><b><c/>":           {end, begin, begin, end},
		"<a>x</a>":              {begin, fault},
		`<a b="1"><c d="2"`:     {begin, fault},
		"<a/><!-- -- --><b></b": {begin, end, fault},
	} {
		if got := kindsOf(s); !reflect.DeepEqual(got, want) {
			t.Errorf("pieces of %q: %v, want %v", s, got, want)
		}
	}
}

func TestParse(t *testing.T) {
	want := Element{Name: "a", Attrs: []Attr{{"x", "1"}, {"y", `<>&"'`}}, Within: []Element{{Name: "b", Within: []Element{{Name: "c"}}}, {Name: "b", Attrs: []Attr{{"z", ""}}}}}
	text := `<a x="1" y="&lt;&gt;&amp;&quot;&apos;"><b><c/></b><b z=""/></a>`
	if got, ok := Parse(text); !ok || !reflect.DeepEqual(got, want) {
		t.Errorf("Parse(%q) = %+v, %v", text, got, ok)
	}
	if got := want.Text(); got != text {
		t.Errorf("Text = %q, want %q", got, text)
	}
	if got, ok := Parse(text + text); ok || !reflect.DeepEqual(got, Element{}) {
		t.Errorf("two elements: %+v, %v", got, ok)
	}
}

func TestFind(t *testing.T) {
	e := New("a", Attr{"x", "1"}, Attr{"y", ""})
	for name, want := range map[string]string{"x": "1", "y": "", "z": ""} {
		v, ok := e.Find(name)
		if v != want || ok != (name != "z") || e.Value(name) != want {
			t.Errorf("Find(%q) = %q, %v", name, v, ok)
		}
	}
}
