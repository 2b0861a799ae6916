package ferry_test

import (
	"fmt"
	"reflect"
	"strings"
	"testing"

	"ferry/api"
	"ferry/ferry"
)

// node makes a node that has only a To.
func node(kind int, id string, up, to int) api.Node {
	return api.Node{Kind: kind, Id: id, Up: up, To: to, Else: -1, Late: -1}
}

func choice(id string, up, els int, cases ...api.Case) api.Node {
	n := node(api.Choice, id, up, -1)
	n.Cases, n.Else = cases, els
	return n
}

func fork(id string, up int, branches ...int) api.Node {
	n := node(api.Fork, id, up, -1)
	n.Branches = branches
	return n
}

func timed(n api.Node, after, late int) api.Node {
	n.After, n.Late = after, late
	return n
}

func named(n api.Node, name string) api.Node {
	n.Name = name
	return n
}

func model(nodes ...api.Node) api.Model {
	return api.Model{Id: "p", Nodes: nodes}
}

// plain lets empty lists be nil, as an empty list may be.
func plain(m api.Model) api.Model {
	out := api.Model{Id: m.Id}
	for _, n := range m.Nodes {
		n.Cases = append([]api.Case(nil), n.Cases...)
		n.Branches = append([]int(nil), n.Branches...)
		out.Nodes = append(out.Nodes, n)
	}
	return out
}

func same(a, b api.Model) bool { return reflect.DeepEqual(plain(a), plain(b)) }

// in makes a process of what stands within it.
func in(parts ...string) string {
	return `<process id="p">` + strings.Join(parts, "") + `</process>`
}

// Parts of the process that most tests change.
const (
	start = `<start id="s" to="t"/>`
	task  = `<task id="t" to="e"/>`
	end   = `<end id="e"/>`
)

func small() api.Model {
	return model(node(api.Start, "s", -1, 1), node(api.Task, "t", -1, 2), node(api.End, "e", -1, -1))
}

// wide has every kind of node and field.
func wide() api.Model {
	return model(
		node(api.Start, "s", -1, 1),
		choice("c", -1, 2, api.Case{Var: 'a', Op: api.Less, Value: -5, To: 2}, api.Case{Var: 'h', Op: api.Equal, Value: 0, To: 3}, api.Case{Var: 'b', Op: api.Greater, Value: 2147483647, To: 10}),
		timed(named(node(api.Task, "t", -1, 3), `<"a" & 'b'>`), 7, 10),
		fork("f", -1, 4, 8, 9),
		timed(node(api.Sub, "u", -1, 9), 1000, 10),
		node(api.Start, "us", 4, 6),
		timed(node(api.Task, "ut", 4, 7), 1, 6),
		node(api.End, "ue", 4, -1),
		node(api.Task, "w", -1, 9),
		node(api.Join, "j", -1, 10),
		node(api.End, "e", -1, -1),
	)
}

const wideText = `<process id="p"><start id="s" to="c"/>` +
	`<choice id="c"><when var="a" op="lt" value="-5" to="t"/><when var="h" op="eq" value="0" to="f"/><when var="b" op="gt" value="2147483647" to="e"/><else to="t"/></choice>` +
	`<task id="t" to="f" name="&lt;&quot;a&quot; &amp; &apos;b&apos;&gt;"/><timer on="t" after="7" to="e"/>` +
	`<fork id="f"><branch to="u"/><branch to="w"/><branch to="j"/></fork>` +
	`<sub id="u" to="j"><start id="us" to="ut"/><task id="ut" to="ue"/><timer on="ut" after="1" to="ut"/><end id="ue"/></sub><timer on="u" after="1000" to="e"/>` +
	`<task id="w" to="j"/><join id="j" to="e"/><end id="e"/></process>`

// wantRead: the text is read as the model.
func wantRead(t *testing.T, text string, want api.Model) {
	t.Helper()
	if m, e := ferry.Read(text); e != api.OK || !same(m, want) {
		t.Errorf("P3: Read(%s) = %+v, %d, want %+v", short(text), m, e, want)
	}
}

// wantRefused: the text is answered with the error, and nothing else.
func wantRefused(t *testing.T, want api.Errno, texts ...string) {
	t.Helper()
	for _, s := range texts {
		if m, e := ferry.Read(s); e != want || m.Id != "" || m.Nodes != nil {
			t.Errorf("P3: Read(%s) = %+v, %d, want error %d alone", short(s), m, e, want)
		}
	}
}

func wantOK(t *testing.T, texts ...string) {
	t.Helper()
	for _, s := range texts {
		if _, e := ferry.Read(s); e != api.OK {
			t.Errorf("P3: Read(%s) = error %d, want a model", short(s), e)
		}
	}
}

// wantWritten: the model is written as the text, which is read as the model.
func wantWritten(t *testing.T, m api.Model, want string) {
	t.Helper()
	if s, e := ferry.Write(m); e != api.OK || s != want {
		t.Errorf("P4: Write(%+v) = %q, %d, want %q", m, s, e, want)
	}
	wantRead(t, want, m)
}

// wantKept: the model is written as some text that is read as the model.
func wantKept(t *testing.T, what string, m api.Model) {
	t.Helper()
	s, e := ferry.Write(m)
	if e != api.OK {
		t.Errorf("P4: %s: Write = error %d, want a text", what, e)
		return
	}
	wantRead(t, s, m)
}

func wantWrong(t *testing.T, what string, m api.Model) {
	t.Helper()
	if s, e := ferry.Write(m); e != api.ErrGraph || s != "" {
		t.Errorf("P4: %s: Write = %q, %d, want ErrGraph alone", what, s, e)
	}
}

func short(s string) string {
	if len(s) > 1000 {
		return fmt.Sprintf("%.200q.. of %d bytes", s, len(s))
	}
	return fmt.Sprintf("%q", s)
}
