package ferry_test

import (
	"strings"
	"testing"

	"ferry/api"
)

func TestReadOrdinary(t *testing.T) {
	wantRead(t, in(start, task, end), small())
	wantRead(t, wideText, wide())
}

// A node's place is where it begins, whatever refers to it; timers have no place.
func TestReadOrder(t *testing.T) {
	wantRead(t, in(end, `<timer on="t" after="9" to="e"/>`, task, start), model(
		node(api.End, "e", -1, -1),
		timed(node(api.Task, "t", -1, 0), 9, 0),
		node(api.Start, "s", -1, 1),
	))
	sub := `<sub id="u" to="e"><sub id="v" to="ue"><end id="ve"/><start id="vs" to="ve"/></sub><timer on="v" after="2" to="v"/><start id="us" to="v"/><end id="ue"/></sub>`
	wantRead(t, in(sub, `<start id="s" to="u"/>`, end), model(
		node(api.Sub, "u", -1, 7),
		timed(node(api.Sub, "v", 0, 5), 2, 1),
		node(api.End, "ve", 1, -1),
		node(api.Start, "vs", 1, 2),
		node(api.Start, "us", 0, 1),
		node(api.End, "ue", 0, -1),
		node(api.Start, "s", -1, 0),
		node(api.End, "e", -1, -1),
	))
}

func TestReadAttributesInAnyOrder(t *testing.T) {
	wantRead(t, in(`<start to="c" id="s"/>`, `<choice id="c"><when to="t" value="1" op="gt" var="c"/><else to="e"/></choice>`, `<task name="n" to="e" id="t"/><timer to="e" after="3" on="t"/>`, end), model(
		node(api.Start, "s", -1, 1),
		choice("c", -1, 3, api.Case{Var: 'c', Op: api.Greater, Value: 1, To: 2}),
		timed(named(node(api.Task, "t", -1, 3), "n"), 3, 3),
		node(api.End, "e", -1, -1),
	))
}

func TestReadBlanksAndComments(t *testing.T) {
	for _, b := range []string{" ", "\t", "\n", "\r", " \r\n\t\t  "} {
		for _, s := range []string{
			b + wideText + b,
			strings.ReplaceAll(wideText, "><", ">"+b+"<"),
			strings.ReplaceAll(wideText, "/>", b+"/>"),
			strings.ReplaceAll(wideText, "e>", "e"+b+">"),
			strings.ReplaceAll(wideText, " to=", b+"to="),
			strings.ReplaceAll(wideText, " id=", b+b+"id="),
		} {
			wantRead(t, s, wide())
		}
		for _, s := range []string{`<` + b + `process id="p"/>`, `<process` + b + `id` + b + `="p"/>`, `<process id=` + b + `"p"/>`, `<process id="p"/` + b + `>`, `<process id="p"><` + b + `/process>`, `<process id="p"></` + b + `process>`} {
			wantRefused(t, api.ErrText, s)
		}
	}
	for _, c := range []string{"<!---->", "<!-- -->", "<!-- - -->", "<!-->-->", "<!--->-->", "<!--<end id=\"e\"/>-->", "<!--\x00\x01&\"é😀\n-->", "<!--a--><!--b-->", "<!-- ! - > -\n- -->"} {
		wantRead(t, c+wideText+c, wide())
		wantRead(t, strings.ReplaceAll(wideText, "><", ">"+c+"<"), wide())
		wantRead(t, in(start, task, `<end id="e">`+c+`</end>`), small())
	}
	for _, c := range []string{"<!-", "<!--", "<!-->", "<!--->", "<!-- -- -->", "<!-- --->", "<!----->", "<!-- <!-- --> -->", "<! -- -->", "<!---- >", "<!-- -- >", "-->", "<!-- \xff -->", "<!>", "<?x?>", "<![CDATA[]]>", "<!DOCTYPE p>"} {
		wantRefused(t, api.ErrText, c+wideText, wideText+c, in(c, start, task, end), in(start, c, task, end), in(start, task, end, c))
	}
	wantRefused(t, api.ErrText, `<process <!-- --> id="p"/>`, `<process id="p"><!-- </process> -->`, `<process id="<!-- -->"/>`)
	for _, b := range []string{"\v", "\f", "\x00", "\u00a0", "\u0085", "\ufeff", "x", "&lt;", ">"} {
		wantRefused(t, api.ErrText, b+wideText, wideText+b, in(start, b, task, end), in(b), strings.Replace(wideText, " to=", b+"to=", 1), strings.Replace(wideText, "</sub>", "</sub"+b+">", 1))
	}
}

func TestReadMaxText(t *testing.T) {
	s := in(start, task, end)
	wantRead(t, s+strings.Repeat(" ", api.MaxText-len(s)), small())
	wantRefused(t, api.ErrText, s+strings.Repeat(" ", api.MaxText-len(s)+1))
	c := "<!--" + strings.Repeat("é", (api.MaxText-len(s)-8)/2) + "-->"
	wantRead(t, c+s+" ", small())
	wantRefused(t, api.ErrText, c+s+"   ", strings.Repeat("<a>", 1<<20))
}

func TestReadOneElement(t *testing.T) {
	s := in(start, task, end)
	wantRefused(t, api.ErrText, "", " ", "\n\t", "<!-- -->", "p", s+s, s+"<a/>", "<a/>"+s, s+"x", s+"</process>", "</process>", "</process>"+s, "<process>", "<process>"+s, s[:len(s)-1], s[1:], "<", ">", "/", "<>", "</>", "<a", "<a/", "<a/a>", "<a></b>", "<a><b></a></b>", "<a></a", "<a></a/>", "<a></a b=\"\">", "<a>&lt;</a>", "<a>a</a>", "<a//>", "<a>/>", "<a><b/>")
	wantRefused(t, api.ErrText, s+"<a>", s+"<process id=\"p\">", "<a>"+s, s+"<", s+"</", s+"<a/")
	for n := range len(wideText) {
		wantRefused(t, api.ErrText, wideText[:n])
	}
	// What breaks off is no tag, whatever stands behind it.
	for _, broken := range []string{"<", "</", "<!", "<a", "<a ", "<a\n", "<a/", "</a", "</a ", "<a b", "<a b ", "<a b=", `<a b="`, `<a b="x`, `<a b="x"`, `<a b="x" `, `<a b="x" b="x"`, `<a b="x" b="x" `, `<a b="x"c="x"`, `<a b="&`, `<a b="&lt`, "<abcdefghijklm", `<a abcdefghijklm="x"`} {
		wantRefused(t, api.ErrText, broken+s, s+broken, in(broken, start, task, end), in(start, broken, task, end), in(start, task, end, broken))
	}
}

func TestReadNames(t *testing.T) {
	wantRefused(t, api.ErrModel, "<abcdefghijkl/>", "<abcdefghijkl></abcdefghijkl>", `<z abcdefghijkl=""/>`, "<a/>", "<z/>")
	wantRefused(t, api.ErrText, "<abcdefghijklm/>", "<abcdefghijklm></abcdefghijklm>", `<z abcdefghijklm=""/>`, "<A/>", "<aB/>", "<a1/>", "<1/>", "<a-b/>", "<a:b/>", "<a_/>", "<é/>", "<`/>", "<{/>", "<a></A>", "<ab></a>", "<a></ab>", `<a B=""/>`, `<a b1=""/>`, `<a 1=""/>`, `<a =""/>`, `<a é=""/>`)
}

func TestReadAttributes(t *testing.T) {
	wantRefused(t, api.ErrText, `<a b/>`, `<a b=/>`, `<a b=x/>`, `<a b='x'/>`, `<a b="x/>`, `<a b=x"/>`, `<a b="x""/>`, `<a b"x"/>`, `<a"x"/>`, `<a "x"/>`, `<ab="x"/>`, `<a b="x"c="y"/>`, `<a b="x"	c="y"d="z"/>`, `<a b="x" b="x"/>`, `<a b="x" c="y" b="z"/>`, `<a b=""b=""/>`, `<a b=="x"/>`, `<a b="x",c="y"/>`, `<a/ b="x">`)
	wantRefused(t, api.ErrModel, `<a b="" c="" bb="" cc=""/>`, "<a\nb=\"x\"\tc=\"y\"\r>\n</a>", `<a b="=" c="/>"/>`)
}

func TestReadValues(t *testing.T) {
	forty := strings.Repeat("x", 40)
	with := func(v string) string { return in(start, `<task id="t" to="e" name="`+v+`"/>`, end) }
	for _, c := range []struct{ written, name string }{
		{"", ""}, {" ", " "}, {forty, forty}, {"'", "'"}, {">", ">"}, {"/>", "/>"}, {"-->", "-->"}, {"]]>", "]]>"}, {"=;#", "=;#"}, {"\x7f", "\x7f"}, {"\u0080\u009f\u00a0\ufeff\ufffd\U0010ffff", "\u0080\u009f\u00a0\ufeff\ufffd\U0010ffff"},
		{"&lt;&gt;&amp;&quot;&apos;", `<>&"'`}, {"&amp;lt;", "&lt;"}, {"&amp;amp;", "&amp;"}, {"a&lt;b", "a<b"}, {strings.Repeat("&quot;", 40), strings.Repeat(`"`, 40)}, {strings.Repeat("é", 20), strings.Repeat("é", 20)}, {strings.Repeat("😀", 10), strings.Repeat("😀", 10)},
	} {
		m := small()
		m.Nodes[1].Name = c.name
		wantRead(t, with(c.written), m)
	}
	for _, v := range []string{forty + "x", forty + "&lt;", strings.Repeat("&quot;", 41), strings.Repeat("é", 20) + "x", "x" + strings.Repeat("é", 20), strings.Repeat("x", 5000), "<", "a<b", "&", "&;", "& lt;", "&lt", "&lt ;", "&LT;", "&Lt;", "&#60;", "&#x3c;", "&nbsp;", "&ltt;", "&&lt;", "\n", "\t", "\r", "\x00", "\x1f", "a\x01b", "\"", "\xff", "\x80", "\xc3", "\xc0\x80", "\xe0\x80\x80", "\xed\xa0\x80", "\xf4\x90\x80\x80", "\xf5\x80\x80\x80", "\xc3\xa9\xa9"} {
		wantRefused(t, api.ErrText, with(v))
	}
}

// A value that breaks off is none, though what follows would do behind one.
func TestReadBrokenValues(t *testing.T) {
	forty := strings.Repeat("x", 40)
	for _, v := range []string{"", "\n", " ", "x", "x\n", forty, forty + "x", forty + "x ", forty + "xx", "<", "&", "&lt;", "\x00"} {
		for _, rest := range []string{"/>", " />", "></task>"} {
			wantRefused(t, api.ErrText, in(start, `<task id="t" to="e" name="`+v+rest, end))
		}
	}
}

func TestReadDepth(t *testing.T) {
	nest := func(n int, inner string) string {
		return strings.Repeat("<a>", n) + inner + strings.Repeat("</a>", n)
	}
	wantRefused(t, api.ErrModel, nest(7, ""), nest(6, "<a/>"), nest(6, "<b/><c/><!-- --><d></d>"))
	wantRefused(t, api.ErrText, nest(8, ""), nest(7, "<a/>"), nest(6, "<b/><c><d/></c>"), nest(1000, ""))
}

func TestReadElementsOfTheTable(t *testing.T) {
	wantRefused(t, api.ErrModel, `<process/>`, `<process></process>`, `<start id="s" to="t"/>`, `<task id="t" to="t"/>`, `<sub id="p" to="p"/>`, `<proces id="p"/>`, `<when/>`)
	// One after another stands where a process may have it, so that it alone is at fault.
	for _, s := range []string{
		`<x/>`, `<process id="q"/>`, `<when var="a" op="lt" value="1" to="e"/>`, `<else to="e"/>`, `<branch to="e"/>`, `<nodes/>`, `<starts id="s" to="t"/>`,
		`<start/>`, `<start id="s"/>`, `<start to="e"/>`, `<start id="s" to="e" name=""/>`, `<start id="s" to="e" on="e"/>`, `<start id="s" to="e" x=""/>`, `<start id="s" to="e"><end id="e"/></start>`, `<start id="s" to="e"><x/></start>`,
		`<task id="t"/>`, `<task to="e"/>`, `<task id="t" to="e" after="1"/>`, `<task id="t" to="e"><timer on="t" after="1" to="e"/></task>`, `<task id="t" to="e" names=""/>`,
		`<choice id="c"/>`, `<choice><else to="e"/></choice>`, `<choice id="c" to="e"><else to="e"/></choice>`, `<choice id="c"><when var="a" op="lt" value="1" to="e"/></choice>`, `<choice id="c"><else to="e"/><else to="e"/></choice>`, `<choice id="c"><else to="e"/><when var="a" op="lt" value="1" to="e"/></choice>`, `<choice id="c"><branch to="e"/><else to="e"/></choice>`, `<choice id="c"><end id="z"/><else to="e"/></choice>`, `<choice id="c"><else/></choice>`, `<choice id="c"><else to="e" id="z"/></choice>`, `<choice id="c"><else to="e"><x/></else></choice>`, `<choice id="c"><else to="e"/><timer on="c" after="1" to="e"/></choice>`,
		`<fork id="f"/>`, `<fork id="f"><branch to="e"/></fork>`, `<fork id="f" to="e"><branch to="e"/><branch to="e"/></fork>`, `<fork><branch to="e"/><branch to="e"/></fork>`, `<fork id="f"><branch to="e"/><branch to="e"/><else to="e"/></fork>`, `<fork id="f"><branch to="e"/><branch/></fork>`, `<fork id="f"><branch to="e"/><branch to="e"><x/></branch></fork>`, `<fork id="f">` + strings.Repeat(`<branch to="e"/>`, 7) + `</fork>`,
		`<join id="j"/>`, `<join to="e"/>`, `<join id="j" to="e" name="x"/>`, `<join id="j" to="e"><end id="z"/></join>`,
		`<sub id="u"><start id="us" to="ue"/><end id="ue"/></sub>`, `<sub to="e"/>`, `<sub id="u" to="e" name="x"/>`, `<sub id="u" to="e"><else to="e"/></sub>`, `<sub id="u" to="e"><process id="q"/></sub>`, `<sub id="u" to="e"><start id="us"/></sub>`,
		`<end/>`, `<end id="z" to="e"/>`, `<end id="z" name=""/>`, `<end id="z"><end id="y"/></end>`,
		`<timer after="1" to="e"/>`, `<timer on="t" to="e"/>`, `<timer on="t" after="1"/>`, `<timer on="t" after="1" to="e" id="z"/>`, `<timer on="t" after="1" to="e"><x/></timer>`,
	} {
		wantRefused(t, api.ErrModel, in(start, task, s, end), in(start, task, end, s), in(start, task, end, `<sub id="w" to="e">`+s+`</sub>`))
	}
	wantRefused(t, api.ErrModel, strings.Replace(in(start, task, end), `id="p"`, `id="p" to="e"`, 1), strings.Replace(in(start, task, end), `id="p"`, `name=""`, 1))
}

func TestReadCounts(t *testing.T) {
	when := `<when var="a" op="lt" value="1" to="e"/>`
	for n := range 10 {
		s := in(`<start id="s" to="c"/><choice id="c">`, strings.Repeat(when, n), `<else to="e"/></choice>`, end)
		if n <= 6 {
			wantOK(t, s)
		} else {
			wantRefused(t, api.ErrModel, s)
		}
		s = in(`<start id="s" to="f"/><fork id="f">`, strings.Repeat(`<branch to="e"/>`, n), `</fork>`, end)
		if 2 <= n && n <= 6 {
			wantOK(t, s)
		} else {
			wantRefused(t, api.ErrModel, s)
		}
	}
}

func TestReadIds(t *testing.T) {
	ids := []string{"", "A", "aB", "123456789", "abcdefghi", "a b", "a-b", "a_", "é", "éé", " a", "a ", "&lt;", "a.", "/", ":", "`", "{", "-1", "a\u0301"}
	for _, id := range ids {
		for _, old := range []string{`id="p"`, `id="s"`, `id="c"`, `id="t"`, `id="f"`, `id="u"`, `id="us"`, `id="j"`, `id="e"`, `to="c"`, `to="t"`, `to="f"`, `to="u"`, `to="ut"`, `to="j"`, `to="e"`, `on="t"`, `on="u"`} {
			wantRefused(t, api.ErrModel, strings.Replace(wideText, old, old[:4]+id+`"`, 1))
		}
	}
	for _, id := range []string{"a", "z", "0", "9", "00", "007", "12345678", "abcdefgh", "zz99zz99"} {
		wantOK(t, strings.ReplaceAll(in(start, task, end), `"t"`, `"`+id+`"`), strings.Replace(in(start, task, end), `"p"`, `"`+id+`"`, 1))
	}
	m := small()
	m.Id = "t"
	wantRead(t, strings.Replace(in(start, task, end), `"p"`, `"t"`, 1), m)
}

func TestReadNumbers(t *testing.T) {
	with := func(attr string) string {
		l := map[string]string{"var": "a", "op": "lt", "value": "1", "after": "1"}
		name, v, _ := strings.Cut(attr, "=")
		l[name] = v
		return in(`<start id="s" to="c"/><choice id="c"><when var="`+l["var"]+`" op="`+l["op"]+`" value="`+l["value"]+`" to="e"/><else to="t"/></choice>`, task, `<timer on="t" after="`+l["after"]+`" to="e"/>`, end)
	}
	want := func(c api.Case, after int) api.Model {
		c.To = 3
		return model(node(api.Start, "s", -1, 1), choice("c", -1, 2, c), timed(node(api.Task, "t", -1, 3), after, 3), node(api.End, "e", -1, -1))
	}
	for s, n := range map[string]int32{"0": 0, "1": 1, "-1": -1, "9": 9, "10": 10, "-10": -10, "100": 100, "2147483647": 2147483647, "-2147483648": -2147483648} {
		wantRead(t, with("value="+s), want(api.Case{Var: 'a', Op: api.Less, Value: n}, 1))
	}
	for _, s := range []string{"", "-", "+1", "+0", "-0", "00", "01", "-01", "007", "--1", "1-", " 1", "1 ", "1.0", "1e3", "0x1", "1_000", "x", "1x", "٣", "2147483648", "-2147483649", "4294967296", "9223372036854775808", strings.Repeat("9", 40), "-" + strings.Repeat("9", 39)} {
		wantRefused(t, api.ErrModel, with("value="+s), with("after="+s))
	}
	for s, n := range map[string]int{"1": 1, "2": 2, "10": 10, "999": 999, "1000": 1000} {
		wantRead(t, with("after="+s), want(api.Case{Var: 'a', Op: api.Less, Value: 1}, n))
	}
	for _, s := range []string{"0", "-1", "1001", "01000", "2147483647", "-2147483648"} {
		wantRefused(t, api.ErrModel, with("after="+s))
	}
	for c := range 256 {
		s := with("var=" + string(rune(c)))
		switch {
		case 'a' <= c && c <= 'h':
			wantRead(t, s, want(api.Case{Var: byte(c), Op: api.Less, Value: 1}, 1))
		case c < 32 || c == '<' || c == '&' || c == '"':
			wantRefused(t, api.ErrText, s)
		default:
			wantRefused(t, api.ErrModel, s)
		}
	}
	wantRefused(t, api.ErrModel, with("var="), with("var=ab"), with("var=aa"), with("var= a"))
	for s, op := range map[string]int{"lt": api.Less, "eq": api.Equal, "gt": api.Greater} {
		wantRead(t, with("op="+s), want(api.Case{Var: 'a', Op: op, Value: 1}, 1))
	}
	wantRefused(t, api.ErrModel, with("op="), with("op=le"), with("op=LT"), with("op=lt "), with("op=1"), with("op=ltt"), with("op=&lt;"))
}

// line is a process with n nodes, one behind the other.
func line(n int) string {
	id := func(i int) string { return "t" + string([]byte{byte('a' + i/26), byte('a' + i%26)}) }
	s := `<start id="s" to="` + id(0) + `"/>`
	for i := range n - 2 {
		s += `<task id="` + id(i) + `" to="` + id(i+1) + `"/>`
	}
	return in(s, `<end id="`+id(n-2)+`"/>`)
}

func TestReadMaxNodes(t *testing.T) {
	wantOK(t, line(2), line(3), line(23), line(24))
	wantRefused(t, api.ErrGraph, line(25), line(26), line(300))
	// Nodes in subs count too.
	full := strings.Replace(line(21), `<end`, `<sub id="u" to="taa"><start id="us" to="ue"/><end id="ue"/></sub><end`, 1)
	full = strings.Replace(full, `<start id="s" to="taa"/>`, `<start id="s" to="u"/>`, 1)
	wantOK(t, full)
	wantRefused(t, api.ErrGraph, strings.Replace(full, `to="ue"/>`, `to="ut"/><task id="ut" to="ue"/>`, 1))
}

func TestReadTimers(t *testing.T) {
	sub := `<sub id="u" to="e"><start id="us" to="ut"/><task id="ut" to="ue"/><end id="ue"/></sub>`
	begin := `<start id="s" to="t"/><task id="t" to="u"/>`
	timer := func(on, to string) string { return `<timer on="` + on + `" after="5" to="` + to + `"/>` }
	within := func(s string) string { return strings.Replace(sub, `<end`, s+`<end`, 1) }
	wantOK(t, in(begin, sub, end), in(begin, sub, timer("t", "e"), end), in(timer("u", "e"), begin, sub, end, timer("t", "t")), in(begin, within(timer("ut", "ue")), end), in(begin, within(timer("ut", "ut")), timer("u", "u"), end))
	for _, on := range []string{"s", "e", "x", "us", "ut", "ue", "p"} {
		wantRefused(t, api.ErrGraph, in(begin, sub, end, timer(on, "e")))
	}
	for _, on := range []string{"t", "u", "us", "ue", "s", "x"} {
		wantRefused(t, api.ErrGraph, in(begin, within(timer(on, "ue")), end))
	}
	for _, to := range []string{"s", "us", "ut", "ue", "x", "p"} {
		wantRefused(t, api.ErrGraph, in(begin, sub, end, timer("t", to)))
	}
	wantRefused(t, api.ErrGraph, in(begin, sub, end, timer("t", "e"), timer("t", "e")), in(timer("u", "e"), begin, sub, end, timer("u", "t")), in(begin, within(timer("ut", "ue")+timer("ut", "ue")), end))
	for _, s := range []string{`<choice id="k"><else to="e"/></choice>`, `<fork id="k"><branch to="e"/><branch to="e"/></fork>`, `<fork id="l"><branch to="k"/><branch to="k"/></fork><join id="k" to="e"/>`} {
		first := `<start id="s" to="k"/>`
		if strings.Contains(s, "join") {
			first = `<start id="s" to="l"/>`
		}
		wantOK(t, in(first, s, end))
		wantRefused(t, api.ErrGraph, in(first, s, end, timer("k", "e")))
	}
}

func TestReadGraph(t *testing.T) {
	change := func(old, new string) string { return strings.Replace(wideText, old, new, 1) }
	wantRefused(t, api.ErrGraph,
		`<process id="p"/>`, in(), in(" ", "<!-- -->"), in(start), in(end), in(start, end), in(start, task), in(task, end), in(start, start, task, end), in(start, task, end, end), in(start, task, end, task),
		in(start, task, end, `<start id="z" to="t"/>`), in(start, task, end, `<end id="z"/>`), in(start, task, end, `<task id="z" to="e"/>`), in(start, `<task id="t" to="t"/>`, end), in(start, `<task id="t" to="s"/>`, end), in(start, `<task id="t" to="x"/>`, end),
		change(`to="c"`, `to="x"`), change(`to="c"`, `to="s"`), change(`to="c"`, `to="us"`), change(`to="c"`, `to="ut"`), change(`to="c"`, `to="p"`), change(`value="0" to="f"`, `value="0" to="x"`), change(`<else to="t"/>`, `<else to="ue"/>`), change(`<branch to="j"/>`, `<branch to="ut"/>`), change(`<branch to="j"/>`, `<branch to="x"/>`),
		change(`id="ut"`, `id="t"`), change(`id="us"`, `id="s"`), change(`id="ue"`, `id="e"`), change(`id="w"`, `id="u"`),
		change(`<end id="ue"/>`, ``), change(`<start id="us" to="ut"/>`, ``), change(`<start id="us" to="ut"/>`, `<start id="us" to="ut"/><start id="uz" to="ut"/>`), change(`<end id="ue"/>`, `<end id="ue"/><end id="uz"/>`), change(`<end id="ue"/>`, `<end id="ue"/><sub id="uz" to="ue"/>`),
		change(`<join id="j" to="e"/>`, `<join id="j" to="f"/>`), change(`<join id="j" to="e"/>`, `<join id="j" to="j"/>`), change(`value="0" to="f"`, `value="0" to="c"`),
		in(`<start id="s" to="j"/><join id="j" to="e"/>`, end),
		// An id that there is not leads nowhere, not to the first node.
		in(end, start, `<task id="t" to="x"/>`), in(task, `<start id="s" to="x"/>`, end), in(end, start, task, `<timer on="t" after="1" to="x"/>`), in(task, start, end, `<timer on="x" after="1" to="e"/>`),
	)
}

func TestReadSubsInSubs(t *testing.T) {
	deep := func(n int, inner string) string {
		s := inner
		for i := range n {
			c := string([]byte{byte('a' + i)})
			s = `<start id="s` + c + `" to="u` + c + `"/><sub id="u` + c + `" to="e` + c + `">` + s + `</sub><end id="e` + c + `"/>`
		}
		return in(s)
	}
	for _, inner := range []string{`<start id="s" to="e"/><end id="e"/>`, `<start id="s" to="c"/><choice id="c"><when var="a" op="eq" value="1" to="e"/><else to="e"/></choice><end id="e"/>`} {
		for n := range 5 {
			wantOK(t, deep(n, inner))
		}
	}
	wantRefused(t, api.ErrGraph, deep(5, `<start id="s" to="e"/><end id="e"/>`))
	wantRefused(t, api.ErrText, deep(5, `<start id="s" to="f"/><fork id="f"><branch to="e"/><branch to="e"/></fork><end id="e"/>`), deep(6, `<start id="s" to="e"/><end id="e"/>`))
}

// Where several errors apply, the one named first is answered, wherever in the text they stand.
func TestReadSeveralErrors(t *testing.T) {
	noText := []string{"x", `<a b="1" b="1"/>`, `<a b="` + strings.Repeat("x", 41) + `"/>`, "<!-- -- -->", "\xff", "&lt;", "<abcdefghijklm/>", "<a><b></a></b>", strings.Repeat("<a>", 7) + strings.Repeat("</a>", 7)}
	noModel := []string{"<x/>", `<task id="T" to="e"/>`, `<choice id="c"/>`, `<timer on="" after="1" to="e"/>`, `<end id="e"><x/></end>`}
	noGraph := []string{end, `<task id="z" to="x"/>`, `<start id="z" to="e"/>`, `<timer on="x" after="1" to="e"/>`, strings.Repeat(task, 30)}
	for _, m := range noModel {
		for _, g := range noGraph {
			wantRefused(t, api.ErrModel, in(start, task, end, m, g), in(g, m, start, task, end))
			for _, x := range noText {
				wantRefused(t, api.ErrText, in(x, start, task, end, m, g), in(start, g, m, task, end, x), in(start, task, end, g, x, m))
			}
		}
	}
	wantRefused(t, api.ErrModel, strings.Replace(in(task, task), "process", "sub", 2), strings.Replace(in(), `"p"`, `""`, 1))
	wantRefused(t, api.ErrText, in(noModel...)+strings.Repeat(" ", api.MaxText), in(noGraph...)+in())
}

// DOC.md's examples.
func TestReadExamples(t *testing.T) {
	s := `<process id="p"><start id="s" to="t"/><task id="t" to="e"/><end id="e"/></process>`
	wantWritten(t, small(), s)
	wantRefused(t, api.ErrText, `<process id='p'/>`, `<process id="p">x</process>`)
	wantRefused(t, api.ErrModel, `<process/>`, `<task id="t" to="t"/>`, `<process id="P"/>`)
	wantRefused(t, api.ErrGraph, `<process id="p"/>`)
}
