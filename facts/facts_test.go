package facts

import (
	"slices"
	"testing"

	"axiom/api"
	"axiom/program"
)

var (
	edge  = program.Pred{Name: "edge", Places: 2}
	point = program.Pred{Name: "point", Places: 1}
)

// names gives the rows as lists of names.
func names(t *Table) [][]string {
	var out [][]string
	for _, r := range t.Rows() {
		out = append(out, r[:t.pred.Places])
	}
	return out
}

func wantRows(t *testing.T, table *Table, want ...[]string) {
	t.Helper()
	if got := names(table); !slices.EqualFunc(got, want, slices.Equal[[]string]) {
		t.Errorf("the rows are %q, want %q", got, want)
	}
}

func TestRow(t *testing.T) {
	table := Table{pred: edge}
	if r, ok := table.Row([]string{"a", "b"}); !ok || r != (Row{"a", "b"}) {
		t.Errorf("Row = %q, %v", r, ok)
	}
	for _, list := range [][]string{nil, {"a"}, {"a", "b", "c"}, {"a", "b", "c", "d"}, {"a", ""}, {"", "a"}, {"a", "B"}, {"a", "abcdefg"}} {
		if r, ok := table.Row(list); ok || r != (Row{}) {
			t.Errorf("Row(%q) = %q, %v, want none", list, r, ok)
		}
	}
}

func TestGivenInOrder(t *testing.T) {
	g := NoneGiven([]program.Pred{edge})["edge"]
	for _, r := range []Row{{"b", "a"}, {"a", "b"}, {"é", "a"}, {"ab", "a"}, {"a", "ab"}, {"a", "b"}} {
		g.Come(r)
	}
	wantRows(t, &g.Table, []string{"a", "ab"}, []string{"a", "b"}, []string{"ab", "a"}, []string{"b", "a"}, []string{"é", "a"})
	g.Leave(Row{"a", "b"})
	g.Leave(Row{"x", "y"})
	if g.Len() != 4 || g.Has(Row{"a", "b"}) || !g.Has(Row{"ab", "a"}) || g.Has(Row{"b", "b"}) {
		t.Errorf("given are %q", g.Rows())
	}
}

func TestHoldsCounts(t *testing.T) {
	h := NoneHolds([]program.Pred{point})["point"]
	for _, step := range []struct {
		name      string
		instances int
		isNew     bool
	}{{"b", 0, true}, {"a", 1, true}, {"c", 2, true}, {"b", 1, false}, {"aa", 0, true}, {"a", 4, false}} {
		if got := h.Hold(Row{step.name}, step.instances); got != step.isNew {
			t.Errorf("Hold(%s) = %v, want %v", step.name, got, step.isNew)
		}
	}
	wantRows(t, &h.Table, []string{"a"}, []string{"aa"}, []string{"b"}, []string{"c"})
	for name, want := range map[string]int{"a": 5, "aa": 0, "b": 1, "c": 2, "d": 0} {
		if got := h.Count(Row{name}); got != want {
			t.Errorf("Count(%s) = %d, want %d", name, got, want)
		}
	}
}

func TestCopyGivenIsApart(t *testing.T) {
	old := NoneGiven([]program.Pred{edge, point})
	old["point"].Come(Row{"a"})
	old["point"].Come(Row{"b"})
	next := CopyGiven(old)
	next["point"].Leave(Row{"a"})
	next["edge"].Come(Row{"a", "b"})
	wantRows(t, &old["point"].Table, []string{"a"}, []string{"b"})
	wantRows(t, &old["edge"].Table)
	wantRows(t, &next["point"].Table, []string{"b"})
	wantRows(t, &next["edge"].Table, []string{"a", "b"})
	if Total(old) != 2 || Total(next) != 2 || Total(NoneHolds([]program.Pred{edge})) != 0 {
		t.Errorf("the totals are %d and %d", Total(old), Total(next))
	}
}

func TestListsOutAreNew(t *testing.T) {
	g := NoneGiven([]program.Pred{edge})["edge"]
	g.Come(Row{"a", "b"})
	g.Rows()[0] = Row{"x", "y"}
	f := g.Facts()
	if len(f) != 1 || f[0].Pred != "edge" || !slices.Equal(f[0].Args, []string{"a", "b"}) {
		t.Errorf("Facts = %v", f)
	}
	f[0].Args[0] = "x"
	f[0] = api.Fact{}
	wantRows(t, &g.Table, []string{"a", "b"})
}
