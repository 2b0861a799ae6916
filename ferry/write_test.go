package ferry_test

import (
	"math"
	"strconv"
	"strings"
	"testing"

	"ferry/api"
	"ferry/ferry"
)

func TestWriteOrdinary(t *testing.T) {
	wantWritten(t, small(), in(start, task, end))
	wantWritten(t, wide(), wideText)
	// The order of the nodes is kept, and a sub's timer stands behind all that is in the sub.
	wantWritten(t, model(
		node(api.End, "e", -1, -1),
		timed(node(api.Sub, "u", -1, 0), 3, 7),
		timed(node(api.Sub, "v", 1, 6), 4, 6),
		node(api.Start, "vs", 2, 4),
		node(api.End, "ve", 2, -1),
		node(api.Start, "us", 1, 2),
		node(api.End, "ue", 1, -1),
		node(api.Task, "t", -1, 0),
		node(api.Start, "s", -1, 1),
	), in(end, `<sub id="u" to="e"><sub id="v" to="ue"><start id="vs" to="ve"/><end id="ve"/></sub><timer on="v" after="4" to="ue"/><start id="us" to="v"/><end id="ue"/></sub><timer on="u" after="3" to="t"/>`, task, `<start id="s" to="u"/>`))
}

func TestWriteNames(t *testing.T) {
	for _, c := range []struct{ name, written string }{
		{"x", ` name="x"`}, {" ", ` name=" "`}, {"<", ` name="&lt;"`}, {">", ` name="&gt;"`}, {"&", ` name="&amp;"`}, {`"`, ` name="&quot;"`}, {"'", ` name="&apos;"`}, {"&lt;", ` name="&amp;lt;"`}, {`a<b>c&d"e'f`, ` name="a&lt;b&gt;c&amp;d&quot;e&apos;f"`}, {"", ""}, {"\x7fé\ufffd😀", " name=\"\x7fé\ufffd😀\""},
		{strings.Repeat("'", 40), ` name="` + strings.Repeat("&apos;", 40) + `"`}, {strings.Repeat("é", 20), ` name="` + strings.Repeat("é", 20) + `"`},
	} {
		wantWritten(t, model(node(api.Start, "s", -1, 1), named(node(api.Task, "t", -1, 2), c.name), node(api.End, "e", -1, -1)), in(start, `<task id="t" to="e"`+c.written+`/>`, end))
	}
	for _, name := range []string{"\n", "\t", "\x00", "\x1f", "a\x01", "\xff", "\x80", "\xc3", "\xc0\x80", "\xed\xa0\x80", strings.Repeat("x", 41), strings.Repeat("é", 20) + "x", strings.Repeat("x", 100000)} {
		wantWrong(t, "name "+short(name), model(node(api.Start, "s", -1, 1), named(node(api.Task, "t", -1, 2), name), node(api.End, "e", -1, -1)))
	}
}

// spoil is a change to a right model that makes it wrong.
type spoil struct {
	what string
	do   func(m *api.Model)
}

// wantSpoilt: each of the changes alone makes the model wrong.
func wantSpoilt(t *testing.T, make func() api.Model, l []spoil) {
	t.Helper()
	wantKept(t, "unspoilt", make())
	for _, s := range l {
		m := make()
		s.do(&m)
		wantWrong(t, s.what, m)
	}
}

func TestWriteIds(t *testing.T) {
	for _, id := range []string{"", "A", "123456789", "a b", "é", "a-", "/", ":", "`", "{", "a\x00", "\xff", strings.Repeat("a", 100000)} {
		wantSpoilt(t, wide, []spoil{
			{"model's id " + short(id), func(m *api.Model) { m.Id = id }},
			{"first id " + short(id), func(m *api.Model) { m.Nodes[0].Id = id }},
			{"sub's id " + short(id), func(m *api.Model) { m.Nodes[4].Id = id }},
			{"last id " + short(id), func(m *api.Model) { m.Nodes[10].Id = id }},
		})
	}
	for _, id := range []string{"0", "9", "z", "00000000", "zzzzzzzz"} {
		m := wide()
		m.Id, m.Nodes[4].Id = id, id
		wantKept(t, "id "+id, m)
	}
	for i := range wide().Nodes {
		for k := range i {
			m := wide()
			m.Nodes[i].Id = m.Nodes[k].Id
			wantWrong(t, "two ids", m)
		}
	}
}

func TestWriteKinds(t *testing.T) {
	for i := range wide().Nodes {
		for _, kind := range []int{0, -1, 8, 9, math.MaxInt, math.MinInt} {
			m := wide()
			m.Nodes[i].Kind = kind
			wantWrong(t, "kind "+strconv.Itoa(kind), m)
		}
	}
	// But for the join, no node of this model can be of another kind with the fields that it has.
	for i, n := range wide().Nodes {
		for kind := api.Start; kind <= api.End; kind++ {
			can := kind == n.Kind || n.Kind == api.Join && kind == api.Task
			if m := wide(); !can {
				m.Nodes[i].Kind = kind
				wantWrong(t, n.Id+" of kind "+strconv.Itoa(kind), m)
			}
		}
	}
}

// Every node of every kind with one field that it must not have.
func TestWriteFieldsTooMany(t *testing.T) {
	all := wide().Nodes
	give := map[string]func(n *api.Node, to int){
		"To":       func(n *api.Node, to int) { n.To = to },
		"Name":     func(n *api.Node, to int) { n.Name = "x" },
		"Cases":    func(n *api.Node, to int) { n.Cases = []api.Case{{Var: 'a', Op: api.Less, To: to}} },
		"Else":     func(n *api.Node, to int) { n.Else = to },
		"Branches": func(n *api.Node, to int) { n.Branches = []int{to, to} },
		"Timer":    func(n *api.Node, to int) { n.After, n.Late = 5, to },
	}
	has := map[int]string{api.Start: "To", api.Task: "To Name Timer", api.Choice: "Cases Else", api.Fork: "Branches", api.Join: "To", api.Sub: "To Timer", api.End: ""}
	for i, n := range all {
		to := 10
		if n.Up >= 0 {
			to = 7
		}
		for field, do := range give {
			if strings.Contains(has[n.Kind], field) {
				continue
			}
			m := wide()
			do(&m.Nodes[i], to)
			wantWrong(t, n.Id+" with "+field, m)
		}
	}
}

func TestWriteFieldsMissing(t *testing.T) {
	wantSpoilt(t, wide, []spoil{
		{"start without To", func(m *api.Model) { m.Nodes[5].To = -1 }},
		{"task without To", func(m *api.Model) { m.Nodes[8].To = -1 }},
		{"join without To", func(m *api.Model) { m.Nodes[9].To = -1 }},
		{"sub without To", func(m *api.Model) { m.Nodes[4].To = -1 }},
		{"choice without Else", func(m *api.Model) { m.Nodes[1].Else = -1 }},
		{"fork without Branches", func(m *api.Model) { m.Nodes[3].Branches = nil }},
		{"task with After alone", func(m *api.Model) { m.Nodes[2].Late = -1 }},
		{"task with Late alone", func(m *api.Model) { m.Nodes[2].After = 0 }},
		{"sub with After alone", func(m *api.Model) { m.Nodes[4].Late = -1 }},
		{"sub with Late alone", func(m *api.Model) { m.Nodes[4].After = 0 }},
		{"Late alone, of place 0", func(m *api.Model) { m.Nodes[8].Late = 0 }},
		{"end with To 0", func(m *api.Model) { m.Nodes[10].To = 0 }},
		{"end with To -2", func(m *api.Model) { m.Nodes[10].To = -2 }},
		{"end with Else 0", func(m *api.Model) { m.Nodes[10].Else = 0 }},
		{"end with Else -2", func(m *api.Model) { m.Nodes[10].Else = -2 }},
		{"end with Late -2", func(m *api.Model) { m.Nodes[10].Late = -2 }},
		{"end with After -1", func(m *api.Model) { m.Nodes[10].After = -1 }},
	})
}

func TestWriteCounts(t *testing.T) {
	for n := range 10 {
		m := model(node(api.Start, "s", -1, 1), choice("c", -1, 2), node(api.End, "e", -1, -1))
		for range n {
			m.Nodes[1].Cases = append(m.Nodes[1].Cases, api.Case{Var: 'a', Op: api.Less, To: 2})
		}
		if n <= 6 {
			wantKept(t, "cases "+strconv.Itoa(n), m)
		} else {
			wantWrong(t, "cases "+strconv.Itoa(n), m)
		}
		m = model(node(api.Start, "s", -1, 1), fork("f", -1), node(api.End, "e", -1, -1))
		for range n {
			m.Nodes[1].Branches = append(m.Nodes[1].Branches, 2)
		}
		if 2 <= n && n <= 6 {
			wantKept(t, "branches "+strconv.Itoa(n), m)
		} else {
			wantWrong(t, "branches "+strconv.Itoa(n), m)
		}
	}
	m := wide()
	m.Nodes[1].Cases = make([]api.Case, 1000000)
	wantWrong(t, "a million cases", m)
	m = wide()
	m.Nodes[3].Branches = make([]int, 1000000)
	wantWrong(t, "a million branches", m)
	wantWrong(t, "a million nodes", api.Model{Id: "p", Nodes: make([]api.Node, 1000000)})
}

func TestWriteCases(t *testing.T) {
	for c := range 256 {
		m := wide()
		m.Nodes[1].Cases[1].Var = byte(c)
		if 'a' <= c && c <= 'h' {
			wantKept(t, "var", m)
		} else {
			wantWrong(t, "var "+strconv.Itoa(c), m)
		}
	}
	for _, op := range []int{-1, 0, 1, 2, 3, 4, math.MaxInt, math.MinInt} {
		m := wide()
		m.Nodes[1].Cases[2].Op = op
		if 1 <= op && op <= 3 {
			wantKept(t, "op", m)
		} else {
			wantWrong(t, "op "+strconv.Itoa(op), m)
		}
	}
	for _, v := range []int32{math.MinInt32, -1, 0, 1, math.MaxInt32} {
		m := wide()
		m.Nodes[1].Cases[0].Value = v
		wantWritten(t, m, strings.Replace(wideText, `"-5"`, `"`+strconv.Itoa(int(v))+`"`, 1))
	}
	for _, after := range []int{math.MinInt, -1, 0, 1, 2, 999, 1000, 1001, math.MaxInt} {
		for _, i := range []int{2, 4, 6} {
			m := wide()
			m.Nodes[i].After = after
			if 1 <= after && after <= 1000 {
				wantKept(t, "after", m)
			} else {
				wantWrong(t, "after "+strconv.Itoa(after), m)
			}
		}
	}
}

// chain has n nodes, one behind the other.
func chain(n int) api.Model {
	m := model(node(api.Start, "s", -1, 1))
	for i := 1; i < n-1; i++ {
		m.Nodes = append(m.Nodes, node(api.Task, "t"+strconv.Itoa(i), -1, i+1))
	}
	m.Nodes = append(m.Nodes, node(api.End, "e", -1, -1))
	return m
}

func TestWriteMaxNodes(t *testing.T) {
	for n := 2; n < 40; n++ {
		if n <= api.MaxNodes {
			wantKept(t, "nodes "+strconv.Itoa(n), chain(n))
		} else {
			wantWrong(t, "nodes "+strconv.Itoa(n), chain(n))
		}
	}
}

// The longest texts of right models are texts too.
func TestWriteLongest(t *testing.T) {
	m := api.Model{Id: "pppppppp", Nodes: []api.Node{node(api.Start, "ssssssss", -1, 1)}}
	for i := 1; i < 23; i++ {
		c := choice("c"+strconv.Itoa(1000000+i), -1, i+1)
		for range api.MaxWays {
			c.Cases = append(c.Cases, api.Case{Var: 'h', Op: api.Greater, Value: math.MinInt32, To: 23})
		}
		m.Nodes = append(m.Nodes, c)
	}
	m.Nodes = append(m.Nodes, node(api.End, "eeeeeeee", -1, -1))
	wantKept(t, "choices", m)
	for i := 1; i < 23; i++ {
		m.Nodes[i] = timed(named(node(api.Task, m.Nodes[i].Id, -1, i+1), strings.Repeat(`"`, 40)), 1000, 23)
	}
	wantKept(t, "tasks", m)
}

// nest is n subs in one another, with an end behind each of them.
func nest(n int) api.Model {
	m := model()
	for i := range n {
		m.Nodes = append(m.Nodes, node(api.Start, "s"+strconv.Itoa(i), 2*i-1, 2*i+1), node(api.Sub, "u"+strconv.Itoa(i), 2*i-1, 3*n+1-i))
	}
	m.Nodes = append(m.Nodes, node(api.Start, "s", 2*n-1, 2*n+1))
	for i := n; i >= 0; i-- {
		m.Nodes = append(m.Nodes, node(api.End, "e"+strconv.Itoa(i), 2*i-1, -1))
	}
	return m
}

func TestWriteUp(t *testing.T) {
	for n := range 7 {
		if n <= 4 {
			wantKept(t, "subs "+strconv.Itoa(n), nest(n))
		} else {
			wantWrong(t, "subs "+strconv.Itoa(n), nest(n))
		}
	}
	for _, up := range []int{-2, 0, 1, 2, 3, 4, 5, 6, 7, 8, 10, 11, math.MaxInt, math.MinInt} {
		for i, n := range wide().Nodes {
			if m := wide(); up != n.Up {
				m.Nodes[i].Up = up
				wantWrong(t, n.Id+" with Up "+strconv.Itoa(up), m)
			}
		}
	}
	// Two subs: u at 1 and v at 2, in none, or v in u; their nodes behind them.
	two := func(vUp int, ups ...int) api.Model {
		m := model(node(api.Start, "s", -1, 1), node(api.Sub, "u", -1, 7), node(api.Sub, "v", vUp, 7), node(api.Start, "a", 0, 4), node(api.End, "b", 0, -1), node(api.Start, "c", 0, 6), node(api.End, "d", 0, -1), node(api.End, "e", -1, -1))
		for i, up := range ups {
			m.Nodes[3+i].Up = up
		}
		if vUp == 1 {
			m.Nodes[2].To, m.Nodes[5].To = 6, 2
		} else {
			m.Nodes[1].To = 2
		}
		return m
	}
	wantKept(t, "v in u", two(1, 2, 2, 1, 1))
	wantWrong(t, "u's nodes ahead of v's", func() api.Model { m := two(1, 1, 1, 2, 2); m.Nodes[2].To, m.Nodes[3].To = 4, 2; return m }())
	wantWrong(t, "u's nodes behind v", two(-1, 2, 2, 1, 1))
	wantWrong(t, "v's nodes behind u's", two(-1, 1, 1, 2, 2))
	wantWrong(t, "between one another", func() api.Model {
		m := two(-1, 1, 2, 1, 2)
		m.Nodes[3], m.Nodes[5] = node(api.Start, "a", 1, 5), node(api.End, "c", 1, -1)
		m.Nodes[4], m.Nodes[6] = node(api.Start, "b", 2, 6), node(api.End, "d", 2, -1)
		return m
	}())
	// A node of a sub behind one that is not in it.
	wantWrong(t, "behind the end", model(node(api.Start, "s", -1, 1), node(api.Sub, "u", -1, 3), node(api.Start, "us", 1, 4), node(api.End, "e", -1, -1), node(api.End, "ue", 1, -1)))
	wantWrong(t, "ahead of the sub", model(node(api.Start, "us", 2, 3), node(api.Start, "s", -1, 2), node(api.Sub, "u", -1, 4), node(api.End, "ue", 2, -1), node(api.End, "e", -1, -1)))
	wantWrong(t, "in a task", model(node(api.Start, "s", -1, 1), node(api.Task, "u", -1, 4), node(api.Start, "us", 1, 3), node(api.End, "ue", 1, -1), node(api.End, "e", -1, -1)))
}

func TestWriteWays(t *testing.T) {
	// The nodes of wide that a way may lead to, beside and in the sub.
	beside := map[int]bool{1: true, 2: true, 3: true, 4: true, 8: true, 9: true, 10: true}
	within := map[int]bool{6: true, 7: true}
	for _, to := range []int{math.MinInt, -2, -1, 0, 1, 2, 3, 4, 5, 6, 7, 8, 9, 10, 11, 1 << 32, math.MaxInt} {
		for what, do := range map[string]func(n []api.Node) (in bool){
			"start's To":  func(n []api.Node) bool { n[0].To = to; return false },
			"task's To":   func(n []api.Node) bool { n[2].To = to; return false },
			"join's To":   func(n []api.Node) bool { n[9].To = to; return false },
			"sub's To":    func(n []api.Node) bool { n[4].To = to; return false },
			"case's To":   func(n []api.Node) bool { n[1].Cases[1].To = to; return false },
			"Else":        func(n []api.Node) bool { n[1].Else = to; return false },
			"branch":      func(n []api.Node) bool { n[3].Branches[2] = to; return false },
			"task's Late": func(n []api.Node) bool { n[2].Late = to; return false },
			"sub's Late":  func(n []api.Node) bool { n[4].Late = to; return false },
			"start in u":  func(n []api.Node) bool { n[5].To = to; return true },
			"task in u":   func(n []api.Node) bool { n[6].To = to; return true },
			"Late in u":   func(n []api.Node) bool { n[6].Late = to; return true },
		} {
			m := wide()
			in := do(m.Nodes)
			if _, e := ferry.Write(m); in && !within[to] && e != api.ErrGraph || !in && !beside[to] && e != api.ErrGraph {
				t.Errorf("P4: %s leads to %d: %d, want ErrGraph", what, to, e)
			}
		}
	}
	for to := range beside {
		m := wide()
		m.Nodes[2].Late, m.Nodes[4].Late = to, to
		wantKept(t, "Late to "+strconv.Itoa(to), m)
	}
}

func TestWriteStartsAndEnds(t *testing.T) {
	wantSpoilt(t, wide, []spoil{
		{"no nodes", func(m *api.Model) { m.Nodes = nil }},
		{"no start", func(m *api.Model) { m.Nodes[0] = node(api.Task, "s", -1, 1); m.Nodes[8].To = 0 }},
		{"two starts", func(m *api.Model) { m.Nodes = append(m.Nodes, node(api.Start, "z", -1, 10)) }},
		{"no end", func(m *api.Model) { m.Nodes[10] = node(api.Task, "e", -1, 8) }},
		{"no start in a sub", func(m *api.Model) { m.Nodes[5] = node(api.Task, "us", 4, 6); m.Nodes[6].Late = 5 }},
		{"two starts in a sub", func(m *api.Model) { m.Nodes[6] = node(api.Start, "ut", 4, 7); m.Nodes[5].To = 7 }},
		{"no end in a sub", func(m *api.Model) { m.Nodes[7] = node(api.Task, "ue", 4, 6) }},
	})
	wantWrong(t, "a sub without nodes", model(node(api.Start, "s", -1, 1), node(api.Sub, "u", -1, 2), node(api.End, "e", -1, -1)))
	wantKept(t, "two ends", model(node(api.Start, "s", -1, 1), choice("c", -1, 2, api.Case{Var: 'a', Op: api.Less, To: 3}), node(api.End, "e", -1, -1), node(api.End, "f", -1, -1)))
	wantKept(t, "a start that leads to the end", model(node(api.Start, "s", -1, 1), node(api.End, "e", -1, -1)))
}

func TestWriteWaysIn(t *testing.T) {
	wantWrong(t, "a task without a way in", model(node(api.Start, "s", -1, 2), node(api.Task, "t", -1, 2), node(api.End, "e", -1, -1)))
	wantWrong(t, "an end without a way in", model(node(api.Start, "s", -1, 1), node(api.End, "e", -1, -1), node(api.End, "f", -1, -1)))
	wantWrong(t, "an end that only a task on its own leads to", model(node(api.Start, "s", -1, 2), node(api.Task, "t", -1, 3), node(api.End, "e", -1, -1), node(api.End, "f", -1, -1)))
	wantWrong(t, "a choice without a way in", model(node(api.Start, "s", -1, 2), choice("c", -1, 2), node(api.End, "e", -1, -1)))
	wantWrong(t, "a sub without a way in", model(node(api.Start, "s", -1, 4), node(api.Sub, "u", -1, 4), node(api.Start, "us", 1, 3), node(api.End, "ue", 1, -1), node(api.End, "e", -1, -1)))
	wantWrong(t, "a join with one way in", model(node(api.Start, "s", -1, 1), node(api.Join, "j", -1, 2), node(api.End, "e", -1, -1)))
	wantWrong(t, "a join with no way in", model(node(api.Start, "s", -1, 2), node(api.Join, "j", -1, 2), node(api.End, "e", -1, -1)))
	wantKept(t, "a join with two ways in from one fork", model(node(api.Start, "s", -1, 1), fork("f", -1, 2, 2), node(api.Join, "j", -1, 3), node(api.End, "e", -1, -1)))
	wantKept(t, "a join with two ways in from one choice", model(node(api.Start, "s", -1, 1), choice("c", -1, 2, api.Case{Var: 'a', Op: api.Less, To: 2}), node(api.Join, "j", -1, 3), node(api.End, "e", -1, -1)))
	wantKept(t, "a join with To and Late in", model(node(api.Start, "s", -1, 1), timed(node(api.Task, "t", -1, 2), 1, 2), node(api.Join, "j", -1, 3), node(api.End, "e", -1, -1)))
	wantKept(t, "a task with Late alone in", model(node(api.Start, "s", -1, 1), timed(node(api.Task, "t", -1, 3), 1, 2), node(api.Task, "w", -1, 3), node(api.End, "e", -1, -1)))
	// A way from a node to itself is a way in, as DOC.md asks for no more.
	wantKept(t, "a task that leads to itself", model(node(api.Start, "s", -1, 2), node(api.Task, "t", -1, 1), node(api.End, "e", -1, -1)))
}

func TestWriteRounds(t *testing.T) {
	end := node(api.End, "e", -1, -1)
	first := node(api.Start, "s", -1, 1)
	wantWrong(t, "a choice to itself by Else", model(first, choice("c", -1, 1, api.Case{Var: 'a', Op: api.Less, To: 2}), end))
	wantWrong(t, "a choice to itself by a case", model(first, choice("c", -1, 2, api.Case{Var: 'a', Op: api.Less, To: 1}), end))
	wantWrong(t, "a fork to itself", model(first, fork("f", -1, 2, 1), end))
	wantWrong(t, "a join to itself", model(first, node(api.Join, "j", -1, 1), node(api.Task, "t", -1, 3), end))
	wantWrong(t, "a join to itself that is entered", model(first, fork("f", -1, 2, 3), node(api.Join, "j", -1, 2), end))
	wantWrong(t, "a round of choices", model(first, choice("c", -1, 2), choice("d", -1, 3), choice("f", -1, 4, api.Case{Var: 'a', Op: api.Less, To: 1}), end))
	wantWrong(t, "a round backwards", model(first, choice("c", -1, 3), choice("d", -1, 4, api.Case{Var: 'a', Op: api.Less, To: 1}), choice("f", -1, 2), end))
	wantWrong(t, "fork, join, fork", model(first, fork("f", -1, 2, 2), node(api.Join, "j", -1, 3), choice("c", -1, 4, api.Case{Var: 'a', Op: api.Less, To: 1}), end))
	wantWrong(t, "a round that no token comes to", model(node(api.Start, "s", -1, 3), choice("c", -1, 2), choice("d", -1, 1), end))
	sub := func(to, after, late int) api.Model {
		m := model(first, node(api.Sub, "u", -1, to), node(api.Start, "us", 1, 3), node(api.Task, "ut", 1, 4), node(api.End, "ue", 1, -1), choice("c", -1, 6, api.Case{Var: 'a', Op: api.Less, To: 6}), end)
		if after > 0 {
			m.Nodes[1] = timed(m.Nodes[1], after, late)
		}
		return m
	}
	wantKept(t, "a sub without a round", sub(5, 0, -1))
	wantKept(t, "a sub that is late and entered again", sub(5, 1, 1))
	late := sub(5, 1, 5)
	late.Nodes[5].Else = 1
	wantWrong(t, "a sub, a choice and back", late)
	late.Nodes[1].To = 6
	wantKept(t, "a sub, late to a choice and back", late)
	wantWrong(t, "a sub to itself", sub(1, 1, 5))
	wantKept(t, "a task in the round", model(first, node(api.Task, "t", -1, 2), choice("c", -1, 3, api.Case{Var: 'a', Op: api.Less, To: 1}), end))
	in := model(first, node(api.Sub, "u", -1, 5), node(api.Start, "us", 1, 3), choice("uc", 1, 4, api.Case{Var: 'a', Op: api.Less, To: 3}), node(api.End, "ue", 1, -1), end)
	wantWrong(t, "a round in a sub", in)
	// The longest chain without a round, written forwards and backwards.
	for _, back := range []bool{false, true} {
		m := model(node(api.Start, "s", -1, 2), node(api.End, "e", -1, -1))
		for i := 2; i < 24; i++ {
			m.Nodes = append(m.Nodes, choice("c"+strconv.Itoa(i), -1, i+1))
		}
		m.Nodes[23].Else = 1
		if back {
			m.Nodes[0].To = 23
			for i := 2; i < 24; i++ {
				m.Nodes[i].Else = i - 1
			}
		}
		wantKept(t, "a long chain", m)
		m.Nodes[12].Cases = []api.Case{{Var: 'a', Op: api.Less, To: 12}}
		wantWrong(t, "a long chain with a round", m)
	}
}
