package ferry_test

import (
	"reflect"
	"runtime"
	"strings"
	"sync"
	"testing"
	"time"

	"ferry/api"
	"ferry/ferry"
)

// scribble writes into all the lists of a model, and into their spare room.
func scribble(m api.Model) {
	for _, n := range m.Nodes {
		cases := n.Cases[:cap(n.Cases)]
		for k := range cases {
			cases[k] = api.Case{Var: 'z', Op: 99, Value: 99, To: 99}
		}
		branches := n.Branches[:cap(n.Branches)]
		for k := range branches {
			branches[k] = 99
		}
	}
	nodes := m.Nodes[:cap(m.Nodes)]
	for i := range nodes {
		nodes[i] = api.Node{Kind: 99, Id: "zz"}
	}
}

// P2: what comes out is the caller's.
func TestReadFresh(t *testing.T) {
	a, _ := ferry.Read(wideText)
	b, _ := ferry.Read(wideText)
	scribble(a)
	if !same(b, wide()) {
		t.Errorf("P2: two answers share room: %+v", b)
	}
	wantRead(t, wideText, wide())
	// Within one answer: what is added to a list stands in no other one.
	many := in(`<start id="s" to="c"/><choice id="c"><when var="a" op="lt" value="1" to="d"/><else to="d"/></choice><choice id="d"><when var="a" op="lt" value="2" to="f"/><else to="f"/></choice><fork id="f"><branch to="g"/><branch to="g"/></fork><fork id="g"><branch to="e"/><branch to="e"/><branch to="e"/></fork>`, end)
	m, e := ferry.Read(many)
	if e != api.OK {
		t.Fatalf("P3: Read(%q) = error %d", many, e)
	}
	for i := range m.Nodes {
		want := plain(m)
		n := m.Nodes[i]
		for k := range cap(n.Cases) - len(n.Cases) {
			n.Cases[:cap(n.Cases)][len(n.Cases)+k].To = 77
		}
		for k := range cap(n.Branches) - len(n.Branches) {
			n.Branches[:cap(n.Branches)][len(n.Branches)+k] = 77
		}
		if !reflect.DeepEqual(plain(m), want) {
			t.Errorf("P2: the spare room of node %d is in another list: %+v", i, m)
		}
	}
}

// P2: nothing that is handed in is written into, not even the spare room.
func TestWriteKeepsOff(t *testing.T) {
	spacious := func() api.Model {
		m := wide()
		m.Nodes = append(make([]api.Node, 0, 40), m.Nodes...)
		for i := range m.Nodes {
			n := &m.Nodes[i]
			n.Cases = append(make([]api.Case, 0, 20), n.Cases...)
			n.Branches = append(make([]int, 0, 20), n.Branches...)
		}
		return m
	}
	whole := func(m api.Model) api.Model {
		m = api.Model{Id: m.Id, Nodes: append([]api.Node{}, m.Nodes[:cap(m.Nodes)]...)}
		for i, n := range m.Nodes {
			m.Nodes[i].Cases = append([]api.Case{}, n.Cases[:cap(n.Cases)]...)
			m.Nodes[i].Branches = append([]int{}, n.Branches[:cap(n.Branches)]...)
		}
		return m
	}
	for _, wrong := range []bool{false, true} {
		m := spacious()
		if wrong {
			m.Nodes[10].To = 3
		}
		want := whole(m)
		first, e := ferry.Write(m)
		if !reflect.DeepEqual(whole(m), want) {
			t.Errorf("P2: Write wrote into what it was given")
		}
		scribble(m)
		if again := spacious(); !wrong {
			if s, e2 := ferry.Write(again); s != first || e2 != e || s != wideText {
				t.Errorf("P2: Write kept what it was given: %q, %d", s, e2)
			}
		}
	}
}

// P1 and P2: no list need be there, and an empty one is as good as none.
func TestWriteEmptyLists(t *testing.T) {
	m := small()
	for i := range m.Nodes {
		m.Nodes[i].Cases, m.Nodes[i].Branches = []api.Case{}, []int{}
	}
	wantWritten(t, m, in(start, task, end))
	wantWrong(t, "nothing", api.Model{})
	wantWrong(t, "no nodes", api.Model{Id: "p", Nodes: []api.Node{}})
	wantWrong(t, "an empty node", model(api.Node{}))
}

// P2: no goroutine is left, whether the text is right, wrong early or wrong late.
func TestReadLeavesNoGoroutine(t *testing.T) {
	before := runtime.NumGoroutine()
	for range 200 {
		for _, s := range []string{wideText, "", "x" + wideText, wideText + "x", "</a>" + strings.Repeat("<a>", 3000), strings.Repeat("<a/>", 2900), strings.Repeat("<", 12000)} {
			ferry.Read(s)
		}
	}
	// A goroutine that has done its last is counted for a moment longer.
	for range 1000 {
		if runtime.NumGoroutine() <= before {
			return
		}
		time.Sleep(time.Millisecond)
	}
	t.Errorf("P2: %d goroutines, %d before", runtime.NumGoroutine(), before)
}

// P2: calls beside one another have nothing to do with each other.
func TestReadBesideOneAnother(t *testing.T) {
	var all sync.WaitGroup
	for range 8 {
		all.Go(func() {
			for range 50 {
				m, _ := ferry.Read(wideText)
				if s, _ := ferry.Write(m); s != wideText {
					t.Errorf("P2: read and written: %q", s)
				}
				scribble(m)
			}
		})
	}
	all.Wait()
}
