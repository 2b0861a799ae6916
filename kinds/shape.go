package kinds

import "ferry/markup"

// Shaped tells whether an element, and all that stands within it, is as the table says.
func Shaped(e markup.Element) bool {
	return shaped(Table(), e)
}

func shaped(table []Row, e markup.Element) bool {
	row, ok := OfName(table, e.Name)
	if !ok || !attrsFit(row.Attrs, e) {
		return false
	}
	var parts []Part
	for _, w := range e.Within {
		if !shaped(table, w) {
			return false
		}
		r, _ := OfName(table, w.Name)
		parts = append(parts, Part{Name: r.Name, Kind: r.Kind})
	}
	return row.Within(parts)
}

// attrsFit tells whether an element has the attributes that are wanted, and no others.
func attrsFit(want []Attr, e markup.Element) bool {
	known := 0
	for _, w := range want {
		value, ok := e.Find(w.Name)
		switch {
		case ok && fits(w.Name, value):
			known++
		case ok || !w.Free:
			return false
		}
	}
	return known == len(e.Attrs)
}
