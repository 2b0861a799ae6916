package models

import (
	"strconv"

	"ferry/api"
	"ferry/kinds"
	"ferry/markup"
)

// Write writes a model (P4).
func Write(m api.Model) (string, api.Errno) {
	if !Right(m) {
		return "", api.ErrGraph
	}
	w := writer{table: kinds.Table(), nodes: m.Nodes}
	root := markup.New("process", attr("id", m.Id))
	root.Within = w.level(none)
	return root.Text(), api.OK
}

// writer makes elements of the nodes of a right model.
type writer struct {
	table []kinds.Row
	nodes []api.Node
}

func attr(name, value string) markup.Attr {
	return markup.Attr{Name: name, Value: value}
}

// to is the attribute that tells a way out.
func (w writer) to(place int) markup.Attr {
	return attr("to", w.nodes[place].Id)
}

// level makes the elements that stand in a sub.
func (w writer) level(up int) []markup.Element {
	var l []markup.Element
	for i, n := range w.nodes {
		if n.Up != up {
			continue
		}
		l = append(l, w.node(i))
		if n.After > 0 {
			l = append(l, markup.New("timer", attr("on", n.Id), attr("after", strconv.Itoa(n.After)), w.to(n.Late)))
		}
	}
	return l
}

// node makes a node's element with all within it.
func (w writer) node(place int) markup.Element {
	n := w.nodes[place]
	row, _ := kinds.OfKind(w.table, n.Kind)
	e := markup.New(row.Name)
	for _, a := range row.Attrs {
		switch {
		case a.Name == "id":
			e.Attrs = append(e.Attrs, attr("id", n.Id))
		case a.Name == "to":
			e.Attrs = append(e.Attrs, w.to(n.To))
		case n.Name != "":
			e.Attrs = append(e.Attrs, attr("name", n.Name))
		}
	}
	e.Within = append(w.parts(n), w.level(place)...)
	return e
}

// parts makes the elements within a node's element that are no nodes.
func (w writer) parts(n api.Node) []markup.Element {
	var l []markup.Element
	for _, c := range n.Cases {
		l = append(l, markup.New("when", attr("var", string(rune(c.Var))), attr("op", kinds.OpName(c.Op)), attr("value", strconv.Itoa(int(c.Value))), w.to(c.To)))
	}
	if n.Else != none {
		l = append(l, markup.New("else", w.to(n.Else)))
	}
	for _, b := range n.Branches {
		l = append(l, markup.New("branch", w.to(b)))
	}
	return l
}
