package expr

import (
	"slices"
	"sort"
	"strings"

	"gaugehouse/api"
	"gaugehouse/chunk"
	"gaugehouse/label"
)

// row is a row on its way to an answer, with the text of its labels, by which rows are found and told. Its labels may
// be another's memory.
type row struct {
	api.Row
	key string
}

// newRow takes labels without an error.
func newRow(l []api.Label, v int64) row {
	key, _ := label.Text(l)
	return row{api.Row{L: l, V: v}, key}
}

// with another number.
func (r row) with(v int64) row {
	r.V = v
	return r
}

// fresh is r in new memory.
func (r row) fresh() api.Row {
	var l []api.Label
	for _, x := range r.L {
		l = append(l, api.Label{Name: strings.Clone(x.Name), Value: strings.Clone(x.Value)})
	}
	return api.Row{L: l, V: r.V}
}

func checkSeries(all []api.Series) api.Errno {
	if len(all) > api.MaxSeries {
		return api.ErrLarge
	}
	var keys []string
	for _, s := range all {
		key, e := label.Text(s.L)
		if e != api.OK {
			return e
		}
		if e := chunk.Check(s.S); e != api.OK {
			return e
		}
		keys = append(keys, key)
	}
	slices.Sort(keys)
	if len(slices.Compact(keys)) < len(all) {
		return api.ErrThere
	}
	return api.OK
}

// rowsOf takes what is without an error, and answers rows in any order, no two with the same labels.
func rowsOf(x api.Expr, all []api.Series, now int64) []row {
	switch {
	case x.Kind == api.XNum:
		return []row{newRow(nil, x.N)}
	case x.Kind == api.XSel:
		return selected(x, all, now)
	case isGroup(x.Kind):
		return grouped(x, rowsOf(x.X[0], all, now))
	}
	return paired(x.Kind, rowsOf(x.X[0], all, now), rowsOf(x.X[1], all, now))
}

func selected(x api.Expr, all []api.Series, now int64) []row {
	var rows []row
	for _, s := range all {
		fits, _ := label.Fits(s.L, x.M)
		if !fits {
			continue
		}
		end := sort.Search(len(s.S), func(i int) bool { return s.S[i].T > now })
		if end > 0 && s.S[end-1].T > now-x.W {
			rows = append(rows, newRow(s.L, s.S[end-1].V))
		}
	}
	return rows
}

func grouped(x api.Expr, rows []row) []row {
	var groups []row
	place := map[string]int{}
	for _, r := range rows {
		one := newRow(named(r.L, x.By), r.V)
		if x.Kind == api.XCount {
			one.V = 1
		}
		at, ok := place[one.key]
		if !ok {
			place[one.key] = len(groups)
			groups = append(groups, one)
			continue
		}
		groups[at].V = together(x.Kind, groups[at].V, one.V)
	}
	return groups
}

// named are those of the labels that have one of the names.
func named(l []api.Label, names []string) []api.Label {
	var these []api.Label
	for _, x := range l {
		if slices.Contains(names, x.Name) {
			these = append(these, x)
		}
	}
	return these
}

func paired(kind int, first, second []row) []row {
	var rows []row
	if isPlain(second) {
		for _, r := range first {
			rows = append(rows, r.with(together(kind, r.V, second[0].V)))
		}
		return rows
	}
	if isPlain(first) {
		for _, r := range second {
			rows = append(rows, r.with(together(kind, first[0].V, r.V)))
		}
		return rows
	}
	numbers := map[string]int64{}
	for _, r := range second {
		numbers[r.key] = r.V
	}
	for _, r := range first {
		if v, ok := numbers[r.key]; ok {
			rows = append(rows, r.with(together(kind, r.V, v)))
		}
	}
	return rows
}

// isPlain tells whether rows are one without labels alone.
func isPlain(rows []row) bool { return len(rows) == 1 && len(rows[0].L) == 0 }

// together counts modulo 2^64, as int64 does; XCount adds what is 1 for each row.
func together(kind int, a, b int64) int64 {
	switch kind {
	case api.XMax:
		return max(a, b)
	case api.XSub:
		return a - b
	case api.XMul:
		return a * b
	}
	return a + b
}
