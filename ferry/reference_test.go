package ferry_test

import (
	"math/rand/v2"
	"regexp"
	"slices"
	"strconv"
	"strings"
	"testing"
	"unicode/utf8"

	"ferry/api"
	"ferry/ferry"
)

// Here Read and Write are held against a second reading of DOC.md that is made of regular expressions and plain counting, on many texts and models that chance has changed (with fixed seeds).

type refElement struct {
	name   string
	attrs  map[string]string
	within []*refElement
}

var (
	refBetween = regexp.MustCompile(`^(?:[ \t\n\r]+|<!--(?:[^-]|-[^-])*-->)`)
	refOpen    = regexp.MustCompile(`^<([a-z]{1,12})((?:[ \t\n\r]+[a-z]{1,12}="(?:[^<"&\x00-\x1f]|&(?:lt|gt|amp|quot|apos);)*")*)[ \t\n\r]*(/?)>`)
	refClose   = regexp.MustCompile(`^</([a-z]{1,12})[ \t\n\r]*>`)
	refAttr    = regexp.MustCompile(`([a-z]+)="([^"]*)"`)
	refMarks   = strings.NewReplacer("&lt;", "<", "&gt;", ">", "&amp;", "&", "&quot;", `"`, "&apos;", "'")
)

func refAttrs(s string) map[string]string {
	out := map[string]string{}
	for _, f := range refAttr.FindAllStringSubmatch(s, -1) {
		v := refMarks.Replace(f[2])
		if _, twice := out[f[1]]; twice || len(v) > 40 {
			return nil
		}
		out[f[1]] = v
	}
	return out
}

// refParse: nil if it is no text of one element.
func refParse(s string) *refElement {
	if len(s) > 12000 || !utf8.ValidString(s) {
		return nil
	}
	stack := []*refElement{{}}
	for s != "" {
		var f []string
		top := stack[len(stack)-1]
		if f = refBetween.FindStringSubmatch(s); f != nil {
		} else if f = refClose.FindStringSubmatch(s); f != nil {
			if f[1] != top.name {
				return nil
			}
			stack = stack[:len(stack)-1]
		} else if f = refOpen.FindStringSubmatch(s); f != nil {
			e := &refElement{name: f[1], attrs: refAttrs(f[2])}
			if e.attrs == nil || len(stack) > 7 {
				return nil
			}
			top.within = append(top.within, e)
			if f[3] == "" {
				stack = append(stack, e)
			}
		} else {
			return nil
		}
		s = s[len(f[0]):]
	}
	if len(stack) != 1 || len(stack[0].within) != 1 {
		return nil
	}
	return stack[0].within[0]
}

const (
	refID    = `=[a-z0-9]{1,8};`
	refNodes = `((start|task|choice|fork|join|sub|end|timer);)*`
)

// refTable: an element's attributes by rising names, and the names of what is within.
var refTable = map[string][2]string{
	"process": {`id` + refID, refNodes},
	"start":   {`id` + refID + `to` + refID, ``},
	"task":    {`id` + refID + `(name=(?s:.*);)?to` + refID, ``},
	"choice":  {`id` + refID, `(when;){0,6}else;`},
	"when":    {`op=(lt|eq|gt);to` + refID + `value=(0|-?[1-9][0-9]*);var=[a-h];`, ``},
	"else":    {`to` + refID, ``},
	"fork":    {`id` + refID, `(branch;){2,6}`},
	"branch":  {`to` + refID, ``},
	"join":    {`id` + refID + `to` + refID, ``},
	"sub":     {`id` + refID + `to` + refID, refNodes},
	"end":     {`id` + refID, ``},
	"timer":   {`after=([1-9][0-9]{0,2}|1000);on` + refID + `to` + refID, ``},
}

var refCompiled = map[string]*regexp.Regexp{}

func refMatch(pattern, s string) bool {
	if refCompiled[pattern] == nil {
		refCompiled[pattern] = regexp.MustCompile(`^(?:` + pattern + `)$`)
	}
	return refCompiled[pattern].MatchString(s)
}

func refShaped(e *refElement) bool {
	row, ok := refTable[e.name]
	var attrs, within []string
	for k, v := range e.attrs {
		attrs = append(attrs, k+"="+v+";")
	}
	slices.Sort(attrs)
	for _, w := range e.within {
		within = append(within, w.name+";")
		ok = ok && refShaped(w)
	}
	if v, is := e.attrs["value"]; is && ok {
		n, err := strconv.Atoi(v)
		ok = err == nil && n == int(int32(n))
	}
	return ok && refMatch(row[0], strings.Join(attrs, "")) && refMatch(row[1], strings.Join(within, ""))
}

// refModel: what is no place is 99, so that it is never right.
func refModel(root *refElement) (api.Model, bool) {
	m := api.Model{Id: root.attrs["id"]}
	kinds := map[string]int{"start": 1, "task": 2, "choice": 3, "fork": 4, "join": 5, "sub": 6, "end": 7}
	ops := map[string]int{"lt": 1, "eq": 2, "gt": 3}
	places := map[string]int{}
	place := func(e *refElement) int {
		if p, ok := places[e.attrs["to"]]; ok {
			return p
		}
		return 99
	}
	ok := true
	var walk func(e *refElement, up int, visit func(e *refElement, up, place int))
	walk = func(e *refElement, up int, visit func(e *refElement, up, place int)) {
		for _, w := range e.within {
			p := slices.IndexFunc(m.Nodes, func(n api.Node) bool { return n.Id == w.attrs["id"] })
			visit(w, up, p)
			if w.name == "sub" {
				walk(w, places[w.attrs["id"]], visit)
			}
		}
	}
	walk(root, -1, func(e *refElement, up, p int) {
		if e.name != "timer" {
			ok = ok && p < 0
			places[e.attrs["id"]] = len(m.Nodes)
			m.Nodes = append(m.Nodes, api.Node{Kind: kinds[e.name], Id: e.attrs["id"], Name: e.attrs["name"], Up: up, To: -1, Else: -1, Late: -1})
		}
	})
	if !ok || len(m.Nodes) > 24 {
		return m, false
	}
	walk(root, -1, func(e *refElement, up, p int) {
		if e.name == "timer" {
			on, is := places[e.attrs["on"]]
			if !is || m.Nodes[on].Up != up || m.Nodes[on].After != 0 || m.Nodes[on].Kind != api.Task && m.Nodes[on].Kind != api.Sub {
				ok = false
				return
			}
			m.Nodes[on].After, _ = strconv.Atoi(e.attrs["after"])
			m.Nodes[on].Late = place(e)
			return
		}
		if _, is := e.attrs["to"]; is {
			m.Nodes[p].To = place(e)
		}
		for _, w := range e.within {
			switch w.name {
			case "when":
				v, _ := strconv.Atoi(w.attrs["value"])
				m.Nodes[p].Cases = append(m.Nodes[p].Cases, api.Case{Var: w.attrs["var"][0], Op: ops[w.attrs["op"]], Value: int32(v), To: place(w)})
			case "else":
				m.Nodes[p].Else = place(w)
			case "branch":
				m.Nodes[p].Branches = append(m.Nodes[p].Branches, place(w))
			}
		}
	})
	return m, ok
}

// refNode: a node's fields are those of its kind, told as a text.
func refNode(n api.Node) bool {
	s := strconv.Itoa(n.Kind) + ":"
	if n.To != -1 {
		s += "to "
	}
	if n.Name != "" {
		s += "name "
	}
	s += strings.Repeat("case ", len(n.Cases))
	if n.Else != -1 {
		s += "else "
	}
	s += strings.Repeat("branch ", len(n.Branches))
	if n.After != 0 {
		s += "after "
	}
	if n.Late != -1 {
		s += "late "
	}
	for _, c := range n.Cases {
		if !strings.Contains("abcdefgh", string([]byte{c.Var})) || c.Op < 1 || c.Op > 3 {
			return false
		}
	}
	if len(n.Name) > 40 || !utf8.ValidString(n.Name) || strings.ContainsFunc(n.Name, func(r rune) bool { return r < 32 }) || n.After < 0 || n.After > 1000 {
		return false
	}
	return refMatch(`[a-z0-9]{1,8}`, n.Id) && refMatch(`1:to |2:to (name )?(after late )?|3:(case ){0,6}else |4:(branch ){2,6}|5:to |6:to (after late )?|7:`, s)
}

func refWays(n api.Node, late bool) []int {
	var l []int
	if n.To != -1 {
		l = append(l, n.To)
	}
	for _, c := range n.Cases {
		l = append(l, c.To)
	}
	if n.Else != -1 {
		l = append(l, n.Else)
	}
	l = append(l, n.Branches...)
	if late && n.Late != -1 {
		l = append(l, n.Late)
	}
	return l
}

// refNested: of each node the subs in which it stands, and of each sub a row of places.
func refNested(l []api.Node) bool {
	in := make([]map[int]bool, len(l))
	for i, n := range l {
		in[i] = map[int]bool{}
		if n.Up == -1 {
			continue
		}
		if n.Up < 0 || n.Up >= i || l[n.Up].Kind != api.Sub {
			return false
		}
		in[i][n.Up] = true
		for u := range in[n.Up] {
			in[i][u] = true
		}
		if len(in[i]) > 4 {
			return false
		}
	}
	for u := range l {
		for i := u + 2; i < len(l); i++ {
			if in[i][u] && !in[i-1][u] {
				return false
			}
		}
	}
	return true
}

func refRight(m api.Model) bool {
	n := len(m.Nodes)
	if !refMatch(`[a-z0-9]{1,8}`, m.Id) || n > 24 || slices.ContainsFunc(m.Nodes, func(n api.Node) bool { return !refNode(n) }) || !refNested(m.Nodes) {
		return false
	}
	ids, ins, starts, ends := map[string]int{}, map[int]int{}, map[int]int{}, map[int]int{}
	subs := []int{-1}
	var reach [24][24]bool // over choices, forks, joins and subs alone
	through := func(i int) bool { return m.Nodes[i].Kind >= 3 && m.Nodes[i].Kind <= 6 }
	for i, x := range m.Nodes {
		ids[x.Id]++
		switch x.Kind {
		case api.Sub:
			subs = append(subs, i)
		case api.Start:
			starts[x.Up]++
		case api.End:
			ends[x.Up]++
		}
		for _, to := range refWays(x, true) {
			if to < 0 || to >= n || m.Nodes[to].Up != x.Up || m.Nodes[to].Kind == api.Start {
				return false
			}
			ins[to]++
		}
		for _, to := range refWays(x, false) {
			reach[i][to] = through(i) && through(to)
		}
	}
	for k := range n {
		for i := range n {
			for j := range n {
				reach[i][j] = reach[i][j] || reach[i][k] && reach[k][j]
			}
		}
	}
	for i, x := range m.Nodes {
		if reach[i][i] || x.Kind != api.Start && ins[i] == 0 || x.Kind == api.Join && ins[i] < 2 {
			return false
		}
	}
	for _, u := range subs {
		if starts[u] != 1 || ends[u] == 0 {
			return false
		}
	}
	return len(ids) == n
}

func refRead(s string) (api.Model, api.Errno) {
	root := refParse(s)
	if root == nil {
		return api.Model{}, api.ErrText
	}
	if root.name != "process" || !refShaped(root) {
		return api.Model{}, api.ErrModel
	}
	m, ok := refModel(root)
	if !ok || !refRight(m) {
		return api.Model{}, api.ErrGraph
	}
	return m, api.OK
}

// maker makes models that are right, or nearly so.
type maker struct {
	*rand.Rand
	nodes []api.Node
}

func (r *maker) add(kind, up int) int {
	r.nodes = append(r.nodes, node(kind, "n"+strconv.Itoa(len(r.nodes)), up, -1))
	return len(r.nodes) - 1
}

func (r *maker) level(up, depth int) {
	l := []int{r.add(api.Start, up)}
	for range r.IntN(6) {
		kind := api.Task + r.IntN(5)
		if kind == api.Sub && (depth == 0 || len(r.nodes) > 18) {
			kind = api.Task
		}
		l = append(l, r.add(kind, up))
		if kind == api.Sub {
			r.level(len(r.nodes)-1, depth-1)
		}
	}
	l = append(l, r.add(api.End, up))
	any := func() int { return l[1+r.IntN(len(l)-1)] }
	for i, p := range l[:len(l)-1] {
		r.lead(&r.nodes[p], l[i+1], func() int { return l[i+1+r.IntN(len(l)-i-1)] }, any)
	}
}

// lead sets the ways out of a node, one of them to next.
func (r *maker) lead(n *api.Node, next int, later, any func() int) {
	switch n.Kind {
	case api.Choice:
		n.Else = next
		for range r.IntN(4) {
			n.Cases = append(n.Cases, api.Case{Var: byte('a' + r.IntN(8)), Op: 1 + r.IntN(3), Value: int32(r.Uint32()), To: later()})
		}
	case api.Fork:
		n.Branches = []int{next, later()}
		for range r.IntN(3) {
			n.Branches = append(n.Branches, later())
		}
	default:
		n.To = next
	}
	if n.Kind == api.Task && r.IntN(3) == 0 {
		n.Name = []string{"x", "a & b", `<"'>`, "é"}[r.IntN(4)]
	}
	if (n.Kind == api.Task || n.Kind == api.Sub) && r.IntN(2) == 0 {
		n.After, n.Late = 1+r.IntN(1000), any()
	}
}

func (r *maker) model() api.Model {
	r.nodes = nil
	r.level(-1, 4)
	return model(r.nodes...)
}

// change sets something in a model to something else.
func (r *maker) change(m *api.Model) {
	if len(m.Nodes) == 0 {
		return
	}
	n := &m.Nodes[r.IntN(len(m.Nodes))]
	place := r.IntN(len(m.Nodes)+3) - 2
	switch r.IntN(14) {
	case 0:
		n.Kind = r.IntN(9)
	case 1:
		n.Id = m.Nodes[r.IntN(len(m.Nodes))].Id
	case 2:
		n.Up = place
	case 3, 4:
		n.To = place
	case 5:
		n.Else = place
	case 6:
		n.Late = place
	case 7:
		n.After = r.IntN(1100) - 50
	case 8:
		n.Branches = append(slices.Clone(n.Branches), place)
	case 9:
		n.Cases = append(slices.Clone(n.Cases), api.Case{Var: byte('a' + r.IntN(9)), Op: r.IntN(5), To: place})
	case 10:
		k := r.IntN(len(m.Nodes))
		m.Nodes = append(slices.Clone(m.Nodes[:k]), m.Nodes[k+1:]...)
	case 11:
		n.Name = "x"
	case 12:
		m.Nodes = append(slices.Clone(m.Nodes), node(1+r.IntN(7), "z", place, 1))
	case 13:
		k := &m.Nodes[r.IntN(len(m.Nodes))]
		*n, *k = *k, *n
	}
}

func TestWriteByChance(t *testing.T) {
	r := &maker{Rand: rand.New(rand.NewPCG(1, 2))}
	right := 0
	for range 20000 {
		m := r.model()
		for range r.IntN(3) {
			r.change(&m)
		}
		s, e := ferry.Write(m)
		if refRight(m) != (e == api.OK) {
			t.Fatalf("P4: Write(%+v) = %q, %d", m, s, e)
		}
		if e != api.OK {
			continue
		}
		right++
		if got, e := ferry.Read(s); e != api.OK || !same(got, m) {
			t.Fatalf("P4: Write(%+v) = %q, which is read as %+v, %d", m, s, got, e)
		}
	}
	if right < 2000 || right > 18000 {
		t.Errorf("%d of the models are right: too few or too many to tell much", right)
	}
}

// pieces to lay into texts.
var pieces = []string{"<", ">", "/", "/>", "</", `"`, "&", "&lt;", "&amp;", ";", "-", "--", "<!--", "-->", "<!-- x -->", " ", "\n", "\t", "\x00", "=", "a", "9", "é", "\xff", "<a/>", "<a>", "</a>", ` name="x"`, ` id="s"`, ` to="n1"`, `<end id="x"/>`, `<else to="n1"/>`, `<branch to="n2"/>`, `<timer on="n1" after="5" to="n2"/>`, `<when var="a" op="lt" value="1" to="n1"/>`, `<sub id="y" to="n1">`, "</sub>", "</process>", `<process id="p">`, `<task id="q" to="n1"/>`}

var (
	quoted = regexp.MustCompile(`"[^"]*"`)
	tag    = regexp.MustCompile(`<[^>]*>`)
)

// garble changes a text in one place.
func (r *maker) garble(s string) string {
	at := r.IntN(len(s) + 1)
	swap := func(re *regexp.Regexp) string {
		l := re.FindAllStringIndex(s, -1)
		if len(l) == 0 {
			return s
		}
		a, b := l[r.IntN(len(l))], l[r.IntN(len(l))]
		return s[:a[0]] + s[b[0]:b[1]] + s[a[1]:]
	}
	switch r.IntN(8) {
	case 0:
		return s[:at] + pieces[r.IntN(len(pieces))] + s[at:]
	case 1, 2:
		k := strings.IndexByte(s[at:], '<')
		if k < 0 {
			return s
		}
		return s[:at+k] + pieces[r.IntN(len(pieces))] + s[at+k:]
	case 3:
		return s[:at] + s[min(len(s), at+1+r.IntN(4)):]
	case 4:
		l := tag.FindAllStringIndex(s, -1)
		if len(l) == 0 {
			return s
		}
		a := l[r.IntN(len(l))]
		return s[:a[0]] + s[a[1]:]
	case 5:
		return swap(tag)
	default:
		return swap(quoted)
	}
}

func TestReadByChance(t *testing.T) {
	r := &maker{Rand: rand.New(rand.NewPCG(3, 4))}
	var count [4]int
	for range 20000 {
		s := wideText
		if m := r.model(); r.IntN(4) > 0 && refRight(m) {
			s, _ = ferry.Write(m)
		}
		for range r.IntN(4) {
			s = r.garble(s)
		}
		want, wantE := refRead(s)
		got, e := ferry.Read(s)
		if e != wantE || !same(got, want) {
			t.Fatalf("P3: Read(%q) = %+v, %d, want %+v, %d", s, got, e, want, wantE)
		}
		count[e]++
	}
	for e, n := range count {
		if n < 1000 {
			t.Errorf("of 20000 texts only %d answer %d: too few to tell much", n, e)
		}
	}
}

func FuzzRead(f *testing.F) {
	f.Add(wideText)
	f.Add(`<process id="p"/>`)
	f.Fuzz(func(t *testing.T, s string) {
		want, wantE := refRead(s)
		if got, e := ferry.Read(s); e != wantE || !same(got, want) {
			t.Errorf("P3: Read(%q) = %+v, %d, want %+v, %d", s, got, e, want, wantE)
		}
	})
}
