package ferry_test

import (
	"fmt"
	"math"
	"math/rand/v2"
	"slices"
	"testing"

	"ferry/api"
	"ferry/disk"
	"ferry/ferry"
)

// Here the engine is held against a second reading of DOC.md, which has all the tokens of a run in one list, on models and commands by chance (with fixed seeds).

// What a token is: on its way, an item, a scope, or waiting at a join.
const (
	onWay = iota
	anItem
	aScope
	waiting
)

type refToken struct {
	what, number, place, scope, due, way int
}

type refRun struct {
	model, done, next int
	vars              [8]int32
	tokens            []refToken
}

type refEngine struct {
	now    int
	models []api.Model
	runs   []refRun
}

// clone lets a command be tried.
func (x refEngine) clone() refEngine {
	x.models = slices.Clone(x.models)
	x.runs = slices.Clone(x.runs)
	for i := range x.runs {
		x.runs[i].tokens = slices.Clone(x.runs[i].tokens)
	}
	return x
}

func (r *refRun) send(m api.Model, from, scope, out int) {
	to, way := refWays(m.Nodes[from], true)[out], 0
	for p := range m.Nodes {
		for k, t := range refWays(m.Nodes[p], true) {
			if t == to && (p < from || p == from && k < out) {
				way++
			}
		}
	}
	r.tokens = append(r.tokens, refToken{what: onWay, place: to, scope: scope, way: way})
}

func (r *refRun) begin(m api.Model, sub, scope int) {
	p := slices.IndexFunc(m.Nodes, func(n api.Node) bool { return n.Kind == api.Start && n.Up == sub })
	r.tokens = append(r.tokens, refToken{what: onWay, place: p, scope: scope})
}

func (r *refRun) become(m api.Model, what, now int, t refToken) int {
	t.what, t.number, t.way = what, r.next, 0
	if after := m.Nodes[t.place].After; after > 0 {
		t.due = now + after
	}
	r.next++
	r.tokens = append(r.tokens, t)
	return t.number
}

// join: a waiting token is at most one for each way when they go on; of one way they are all alike.
func (r *refRun) join(m api.Model, t refToken) {
	t.what = waiting
	r.tokens = append(r.tokens, t)
	ways := 0
	for _, n := range m.Nodes {
		for _, to := range refWays(n, true) {
			if to == t.place {
				ways++
			}
		}
	}
	var first []int
	seen := map[int]bool{}
	for i, w := range r.tokens {
		if w.what == waiting && w.place == t.place && w.scope == t.scope && !seen[w.way] {
			seen[w.way] = true
			first = append(first, i)
		}
	}
	if len(first) < ways {
		return
	}
	for _, i := range slices.Backward(first) {
		r.tokens = slices.Delete(r.tokens, i, i+1)
	}
	r.send(m, t.place, t.scope, 0)
}

func (r *refRun) end(m api.Model, scope int) {
	if slices.ContainsFunc(r.tokens, func(t refToken) bool { return t.scope == scope }) {
		return
	}
	if scope == 0 {
		r.done = 1
		return
	}
	i := slices.IndexFunc(r.tokens, func(t refToken) bool { return t.what == aScope && t.number == scope })
	t := r.tokens[i]
	r.tokens = slices.Delete(r.tokens, i, i+1)
	r.send(m, t.place, t.scope, 0)
}

func (r *refRun) move(m api.Model, now int) bool {
	for {
		i := slices.IndexFunc(r.tokens, func(t refToken) bool { return t.what == onWay })
		if i < 0 {
			return true
		}
		t := r.tokens[i]
		r.tokens = slices.Delete(r.tokens, i, i+1)
		n := m.Nodes[t.place]
		switch n.Kind {
		case api.Start:
			r.send(m, t.place, t.scope, 0)
		case api.Task:
			r.become(m, anItem, now, t)
		case api.Choice:
			out := slices.IndexFunc(n.Cases, func(c api.Case) bool {
				v := int64(r.vars[c.Var-'a']) - int64(c.Value)
				return c.Op == api.Less && v < 0 || c.Op == api.Equal && v == 0 || c.Op == api.Greater && v > 0
			})
			if out < 0 {
				out = len(n.Cases)
			}
			r.send(m, t.place, t.scope, out)
		case api.Fork:
			for k := range n.Branches {
				r.send(m, t.place, t.scope, k)
			}
		case api.Join:
			r.join(m, t)
		case api.Sub:
			r.begin(m, t.place, r.become(m, aScope, now, t))
		case api.End:
			r.end(m, t.scope)
		}
		if len(r.tokens) > 40 || r.next > 1000 {
			return false
		}
	}
}

func (x *refEngine) deploy(text string) (int, api.Errno) {
	m, e := refRead(text)
	if e != api.OK {
		return 0, e
	}
	if len(x.models) == 4 {
		return 0, api.ErrFull
	}
	x.models = append(x.models, m)
	return len(x.models) - 1, api.OK
}

func (x *refEngine) start(model int, vars [8]int32) (int, api.Errno) {
	if model < 0 || model >= len(x.models) {
		return 0, api.ErrNone
	}
	if len(x.runs) == 20 {
		return 0, api.ErrFull
	}
	r := refRun{model: model, vars: vars, next: 1}
	r.begin(x.models[model], -1, 0)
	if !r.move(x.models[model], x.now) {
		return 0, api.ErrTokens
	}
	x.runs = append(x.runs, r)
	return len(x.runs) - 1, api.OK
}

func (x *refEngine) complete(run, item int, sets []api.Set) api.Errno {
	y := x.clone()
	if run < 0 || run >= len(y.runs) {
		return api.ErrNone
	}
	r := &y.runs[run]
	i := slices.IndexFunc(r.tokens, func(t refToken) bool { return t.what == anItem && t.number == item })
	if i < 0 {
		return api.ErrNone
	}
	for _, s := range sets {
		if s.Var < 'a' || s.Var > 'h' || s.Op != api.Put && s.Op != api.Add || len(sets) > 8 {
			return api.ErrSet
		}
		sum := int(s.Value)
		if s.Op == api.Add {
			sum += int(r.vars[s.Var-'a'])
		}
		if sum != int(int32(sum)) {
			return api.ErrSet
		}
		r.vars[s.Var-'a'] = int32(sum)
	}
	t := r.tokens[i]
	r.tokens = slices.Delete(r.tokens, i, i+1)
	m := y.models[r.model]
	r.send(m, t.place, t.scope, 0)
	if !r.move(m, y.now) {
		return api.ErrTokens
	}
	*x = y
	return api.OK
}

// due tells the run and the place in its list of what goes away next.
func (x *refEngine) due() (int, int) {
	run, at := -1, -1
	best := [3]int{math.MaxInt, 0, 0}
	for i, r := range x.runs {
		for k, t := range r.tokens {
			key := [3]int{t.due, i, t.number}
			if t.due > 0 && t.due <= x.now && slices.Compare(key[:], best[:]) < 0 {
				run, at, best = i, k, key
			}
		}
	}
	return run, at
}

func (x *refEngine) tick(n int) api.Errno {
	if n < 1 || n > 1000 || x.now+n > 100000 {
		return api.ErrTime
	}
	y := x.clone()
	y.now += n
	for run, at := y.due(); run >= 0; run, at = y.due() {
		r := &y.runs[run]
		t := r.tokens[at]
		gone := map[int]bool{t.number: true}
		for range r.tokens { // a scope may stand behind what is in it
			for _, w := range r.tokens {
				if w.what == aScope && gone[w.scope] {
					gone[w.number] = true
				}
			}
		}
		r.tokens = slices.DeleteFunc(r.tokens, func(w refToken) bool { return w == t || gone[w.scope] })
		m := y.models[r.model]
		r.send(m, t.place, t.scope, len(refWays(m.Nodes[t.place], false)))
		if !r.move(m, y.now) {
			return api.ErrTokens
		}
	}
	*x = y
	return api.OK
}

func (x *refEngine) look(run int) (api.State, api.Errno) {
	if run < 0 || run >= len(x.runs) {
		return api.State{}, api.ErrNone
	}
	r := x.runs[run]
	s := api.State{Model: r.model, Done: r.done, Vars: r.vars, Next: r.next}
	l := slices.Clone(r.tokens)
	slices.SortFunc(l, func(a, b refToken) int {
		return slices.Compare([]int{a.number, a.scope, a.place, a.way}, []int{b.number, b.scope, b.place, b.way})
	})
	for i, t := range l {
		switch {
		case t.what == anItem:
			s.Items = append(s.Items, api.Item{Number: t.number, Place: t.place, Scope: t.scope, Due: t.due})
		case t.what == aScope:
			s.Scopes = append(s.Scopes, api.Scope{Number: t.number, Place: t.place, Scope: t.scope, Due: t.due})
		case i > 0 && l[i-1] == t:
			s.Waits[len(s.Waits)-1].Count++
		default:
			s.Waits = append(s.Waits, api.Wait{Place: t.place, Scope: t.scope, Way: t.way, Count: 1})
		}
	}
	return s, api.OK
}

// chance is a maker that knows an engine and its double.
type chance struct {
	maker
	x     *ferry.Engine
	ref   refEngine
	count map[string]int
}

// lively tells a right model in which more happens than in most: timers that fire soon, cases that are true now and then, ways back.
func (c *chance) lively() string {
	for {
		m := c.model()
		for i := range m.Nodes {
			n := &m.Nodes[i]
			if n.After > 0 {
				n.After = 1 + c.IntN(12)
			}
			for k := range n.Cases {
				n.Cases[k].Var = byte('a' + c.IntN(2))
				n.Cases[k].Value = int32(c.IntN(5) - 2)
			}
			if n.Kind == api.Task && c.IntN(3) == 0 {
				n.To = c.IntN(len(m.Nodes))
			}
		}
		// Most models are asked for some items at once, as runs that are done soon tell little.
		if s, e := ferry.Write(m); e == api.OK && (c.IntN(50) == 0 || held(s) > 2) {
			return s
		}
	}
}

// held tells how many items a run has that has just begun; what is too many has as many as may be.
func held(text string) int {
	var x refEngine
	x.deploy(text)
	if _, e := x.start(0, [8]int32{}); e != api.OK {
		return api.MaxTokens
	}
	s, _ := x.look(0)
	return len(s.Items)
}

// live tells the runs that have items.
func (c *chance) live() []int {
	var l []int
	for i := range c.ref.runs {
		if s, _ := c.ref.look(i); len(s.Items) > 0 {
			l = append(l, i)
		}
	}
	return l
}

// run tells a run that has items, mostly.
func (c *chance) run() int {
	if l := c.live(); len(l) > 0 && c.IntN(20) > 0 {
		return l[c.IntN(len(l))]
	}
	return c.IntN(len(c.ref.runs)+3) - 1
}

// kind tells which command comes next; where nothing can be completed, a run is begun.
func (c *chance) kind() int {
	k := c.IntN(45)
	if k > 8 && len(c.live()) == 0 {
		return k % 9
	}
	return k
}

// item tells an item of a run, mostly.
func (c *chance) item(run int) int {
	if s, e := c.ref.look(run); e == api.OK && len(s.Items) > 0 && c.IntN(20) > 0 {
		return s.Items[c.IntN(len(s.Items))].Number
	}
	return c.IntN(12) - 1
}

func (c *chance) sets() []api.Set {
	var l []api.Set
	for range c.IntN(4) {
		l = append(l, api.Set{Var: byte('a' + c.IntN(2)), Op: 1 + c.IntN(2), Value: int32(c.IntN(5) - 2)})
	}
	switch c.IntN(30) {
	case 0:
		l = append(l, api.Set{Var: byte('a' + c.IntN(10)), Op: c.IntN(4), Value: int32(c.Uint32())})
	case 1:
		l = append(l, make([]api.Set, 9)...)
	case 2:
		l = append(l, add('g', math.MaxInt32))
	}
	return l
}

// step gives both a command, and tells what it was and what they answered.
func (c *chance) step() (string, string, string) {
	answer := func(n int, e api.Errno) string { return fmt.Sprint(n, ", ", e) }
	switch k := c.kind(); {
	case k < 2:
		s := wideText
		if len(c.ref.models) < api.MaxModels {
			s = c.lively()
		}
		if c.IntN(4) == 0 {
			s = c.garble(s)
		}
		return fmt.Sprintf("Deploy(%q)", s), answer(c.x.Deploy(s)), answer(c.ref.deploy(s))
	case k < 8:
		model := c.IntN(6) - 1
		vars := [8]int32{int32(c.IntN(5) - 2), int32(c.IntN(5) - 2)}
		return fmt.Sprintf("Start(%d, %v)", model, vars), answer(c.x.Start(model, vars)), answer(c.ref.start(model, vars))
	case k < 40:
		run := c.run()
		item, sets := c.item(run), c.sets()
		return fmt.Sprintf("Complete(%d, %d, %v)", run, item, sets), answer(0, c.x.Complete(run, item, sets)), answer(0, c.ref.complete(run, item, sets))
	}
	n := c.IntN(6)
	if c.IntN(20) == 0 {
		n = c.IntN(1010)
	}
	return fmt.Sprintf("Tick(%d)", n), answer(0, c.x.Tick(n)), answer(0, c.ref.tick(n))
}

// differs tells what the two tell differently.
func (c *chance) differs() string {
	if c.x.Now() != c.ref.now {
		return fmt.Sprintf("Now = %d, want %d", c.x.Now(), c.ref.now)
	}
	for i, want := range c.ref.models {
		if m, e := c.x.Model(i); e != api.OK || !same(m, want) {
			return fmt.Sprintf("Model(%d) = %+v, %d, want %+v", i, m, e, want)
		}
	}
	if m, e := c.x.Model(len(c.ref.models)); e != api.ErrNone {
		return fmt.Sprintf("there is one more model: %+v", m)
	}
	for i := range len(c.ref.runs) + 1 {
		got, e := c.x.Look(i)
		want, wantE := c.ref.look(i)
		if e != wantE || !sameState(got, want) {
			return fmt.Sprintf("Look(%d) = %+v, %d, want %+v, %d", i, got, e, want, wantE)
		}
		if s := want; len(s.Waits) > 1 && len(s.Scopes) > 0 {
			c.count["scopes and waits"]++
		}
		if len(want.Scopes) > 1 && want.Scopes[len(want.Scopes)-1].Scope > 0 {
			c.count["scopes in scopes"]++
		}
		if want.Done == 1 {
			c.count["done"]++
		}
	}
	return ""
}

func TestEngineByChance(t *testing.T) {
	t.Parallel()
	count := map[string]int{}
	for seed := range uint64(150) {
		c := &chance{maker: maker{Rand: rand.New(rand.NewPCG(seed, 5))}, count: count}
		c.x, _ = ferry.Open(disk.New())
		var log []string
		for range 250 {
			what, got, want := c.step()
			log = append(log, what+" = "+got)
			if got != want {
				t.Fatalf("seed %d: %s, want %s, behind %q", seed, log[len(log)-1], want, log)
			}
			count[what[:4]+got[len(got)-3:]]++
			if d := c.differs(); d != "" {
				t.Fatalf("seed %d: %s, behind %q", seed, d, log)
			}
		}
	}
	for _, k := range []string{"scopes and waits", "scopes in scopes", "done", "Depl, 0", "Depl, 1", "Depl, 2", "Depl, 3", "Depl, 4", "Star, 0", "Star, 4", "Star, 5", "Star, 7", "Comp, 0", "Comp, 5", "Comp, 6", "Comp, 7", "Tick, 0", "Tick, 7", "Tick, 8"} {
		if count[k] < 5 {
			t.Errorf("%q came only %d times: too few to tell much", k, count[k])
		}
	}
}
