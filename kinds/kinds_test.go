package kinds

import (
	"testing"

	"ferry/api"
)

func TestTableOfKinds(t *testing.T) {
	table := Table()
	names := map[int]string{api.Start: "start", api.Task: "task", api.Choice: "choice", api.Fork: "fork", api.Join: "join", api.Sub: "sub", api.End: "end"}
	for kind := -1; kind < 10; kind++ {
		row, ok := OfKind(table, kind)
		if row.Name != names[kind] || ok != (names[kind] != "") || ok != (row.Move != nil) {
			t.Errorf("OfKind(%d) = %+v, %v", kind, row, ok)
		}
		if named, _ := OfName(table, names[kind]); ok && named.Kind != kind {
			t.Errorf("OfName(%q) = %+v", names[kind], named)
		}
	}
	for _, name := range []string{"process", "when", "else", "branch", "timer"} {
		if row, ok := OfName(table, name); !ok || row.Kind != 0 || row.Move != nil {
			t.Errorf("OfName(%q) = %+v, %v", name, row, ok)
		}
	}
	if row, ok := OfName(table, "x"); ok || row.Name != "" {
		t.Errorf("OfName(x) = %+v, %v", row, ok)
	}
}

func TestOps(t *testing.T) {
	for op := -2; op < 6; op++ {
		if name := OpName(op); (name != "") != (1 <= op && op <= 3) || name != "" && OpNamed(name) != op {
			t.Errorf("OpName(%d) = %q", op, name)
		}
	}
	if OpNamed("") != 0 || OpNamed("le") != 0 {
		t.Errorf("OpNamed knows what is no op")
	}
}
