package expr

import (
	"errors"
	"fmt"
	"maps"
	"math"
	"math/big"
	"reflect"
	"regexp"
	"slices"
	"sort"
	"strconv"
	"strings"
	"testing"
	"unsafe"

	"gaugehouse/api"
	"gaugehouse/label"
)

// stir makes unlike numbers from like ones, the same in each run.
func stir(u uint64) uint64 {
	u = (u + 1) * 0x9e3779b97f4a7c15
	u = (u ^ u>>29) * 0xbf58476d1ce4e5b9
	return u ^ u>>32
}

// source has numbers that look as if drawn, the same in each run.
type source struct{ at uint64 }

func (s *source) below(n int) int {
	s.at++
	return int(stir(s.at) >> 33 % uint64(n))
}

func oneOf[T any](s *source, l ...T) T { return l[s.below(len(l))] }

// Expressions, made by hand.

func num(n int64) api.Expr { return api.Expr{Kind: api.XNum, N: n} }

func sel(w int64, m ...api.Match) api.Expr { return api.Expr{Kind: api.XSel, W: w, M: m} }

func group(kind int, x api.Expr, by ...string) api.Expr {
	return api.Expr{Kind: kind, By: by, X: []api.Expr{x}}
}

func pair(kind int, x, y api.Expr) api.Expr { return api.Expr{Kind: kind, X: []api.Expr{x, y}} }

func match(kind int, name, value string) api.Match {
	return api.Match{Kind: kind, Name: name, Value: value}
}

func matches(n int) []api.Match {
	var m []api.Match
	for range n {
		m = append(m, match(api.MIs, "a", "x"))
	}
	return m
}

// names are as many as asked for, at most 26, rising.
func names(n int) []string { return strings.Split("abcdefghijklmnopqrstuvwxyz", "")[:n] }

// deep is x in as many expressions as asked for.
func deep(n int, x api.Expr) api.Expr {
	for i := range n {
		x = group(api.XSum+i%3, x)
	}
	return x
}

// leftOnes are n pairs, each of them the first of the next one.
func leftOnes(n int, x api.Expr) api.Expr {
	y := x
	for i := range n {
		y = pair(api.XAdd+i%3, y, x)
	}
	return y
}

// rightOnes are n pairs, each of them the second of the next one.
func rightOnes(n int, x api.Expr) api.Expr {
	y := x
	for i := range n {
		y = pair(api.XAdd+i%3, x, y)
	}
	return y
}

// endless has itself in it.
func endless() api.Expr {
	x := group(api.XSum, num(1))
	x.X[0] = x
	return x
}

// longest matches that there are: ten, with each name and each value as long as they may be.
func longest(value string) []api.Match {
	var m []api.Match
	for i := range 10 {
		m = append(m, match(1+i%4, strings.Repeat("z", 19)+strconv.Itoa(i), strings.Repeat(value, 40)))
	}
	return m
}

// sized has a text of n bytes, from some 700 on.
func sized(t *testing.T, n int) api.Expr {
	t.Helper()
	x := sel(1, longest("v")...)
	for len(modelText(x))+700 < n {
		x = pair(api.XAdd, x, sel(1, longest("v")...))
	}
	for len(modelText(x))+5 <= n {
		x = group(api.XMax, x)
	}
	inner := &x
	for inner.Kind != api.XSel {
		inner = &inner.X[0]
	}
	for range n - len(modelText(x)) {
		inner.W *= 10
	}
	if len(modelText(x)) != n {
		t.Fatalf("%d bytes, want %d", len(modelText(x)), n)
	}
	return x
}

// drawn is an expression without an error, of at most so many.
func drawn(s *source, most int) api.Expr {
	switch kind := 3 + s.below(8); {
	case most < 2 || kind < 5:
		if s.below(3) == 0 {
			return num(oneOf[int64](s, 0, 1, -1, 7, -100, math.MaxInt64, math.MinInt64, 1<<32, 1<<62))
		}
		var m []api.Match
		for range s.below(3) {
			m = append(m, match(1+s.below(4), oneOf(s, "a", "b", "_9"), oneOf(s, "", "x", "y", "\"}[", "\\", "\n")))
		}
		return sel(oneOf[int64](s, 1, 3, 20, 1000, api.MaxT), m...)
	case most < 3 || kind < 8:
		var by []string
		for _, name := range []string{"_9", "a", "b", "by"} {
			if s.below(3) == 0 {
				by = append(by, name)
			}
		}
		return group(api.XSum+s.below(3), drawn(s, most-1), by...)
	}
	first := 1 + s.below(most-2)
	return pair(api.XAdd+s.below(3), drawn(s, first), drawn(s, most-1-first))
}

// forms have no error.
func forms() []api.Expr {
	l := []api.Expr{
		num(0), num(-1), num(math.MaxInt64), num(math.MinInt64),
		{Kind: api.XNum, M: []api.Match{}, By: []string{}, X: []api.Expr{}},
		sel(1), sel(api.MaxT), sel(9, matches(10)...), sel(9, longest("v")...), sel(1<<32, longest("\n")...), sel(9, match(api.MHas, "b", "]"), match(api.MIs, "a", "}[1]")),
		group(api.XSum, num(1)), group(api.XMax, sel(5), "a"), group(api.XCount, num(1), names(10)...), group(api.XSum, num(1), "_", "a", "a0", "a_", "aa", "by", "sum", strings.Repeat("z", 20)),
		pair(api.XAdd, num(1), num(-1)), pair(api.XSub, num(-1), num(-1)), pair(api.XMul, sel(1), sel(1)),
		deep(99, num(1)), deep(99, sel(4, match(api.MNot, "a", "\"(\\"))), leftOnes(49, num(-3)), rightOnes(49, num(-3)), group(api.XMax, leftOnes(49, sel(2)), "a"), group(api.XMax, rightOnes(49, sel(2, matches(2)...)), "a"),
		leftOnes(49, sel(1, longest("\n")...)), pair(api.XAdd, leftOnes(24, sel(1)), rightOnes(24, sel(2))),
	}
	for i := range 300 {
		l = append(l, drawn(&source{uint64(1000 * i)}, 1+i%30))
	}
	return l
}

// fault is an expression with an error, which is told of it wherever it stands.
type fault struct {
	x    api.Expr
	want api.Errno
}

// faults have an error of their own, whatever stands in X.
func faults() []fault {
	var l []fault
	for _, kind := range []int{0, -1, 9, 10, 1<<32 + 1, math.MinInt, math.MaxInt} {
		l = append(l, fault{api.Expr{Kind: kind}, api.ErrArg}, fault{api.Expr{Kind: kind, X: []api.Expr{num(1)}}, api.ErrArg}, fault{api.Expr{Kind: kind, W: 1, N: 1, X: []api.Expr{num(1), num(1)}}, api.ErrArg})
	}
	for kind, parts := range []int{api.XNum: 0, api.XSel: 0, api.XSum: 1, api.XMax: 1, api.XCount: 1, api.XAdd: 2, api.XSub: 2, api.XMul: 2} {
		if kind == 0 {
			continue
		}
		for n := range 5 {
			x := api.Expr{Kind: kind}
			if kind == api.XSel {
				x.W = 1
			}
			for range n {
				x.X = append(x.X, num(1))
			}
			if n != parts {
				l = append(l, fault{x, api.ErrArg})
				continue
			}
			for _, n := range []int64{1, -1, math.MinInt64, 1 << 32} {
				y, z := x, x
				y.N = n
				z.W = n
				if kind != api.XNum {
					l = append(l, fault{y, api.ErrArg})
				}
				if kind != api.XSel {
					l = append(l, fault{z, api.ErrArg})
				}
			}
			y, z := x, x
			y.M = matches(1)
			z.By = names(1)
			if kind != api.XSel {
				l = append(l, fault{y, api.ErrArg})
			}
			if parts != 1 {
				l = append(l, fault{z, api.ErrArg})
			}
		}
	}
	for _, w := range []int64{0, -1, api.MaxT + 1, math.MinInt64, math.MaxInt64, 1<<40 + 1<<32, -api.MaxT} {
		l = append(l, fault{sel(w), api.ErrArg}, fault{sel(w, matches(11)...), api.ErrArg}, fault{sel(w, match(9, "a", "x")), api.ErrArg})
	}
	for _, kind := range []int{0, 5, -1, math.MinInt, 1<<32 + 1} {
		l = append(l, fault{sel(1, match(kind, "a", "x")), api.ErrArg}, fault{sel(1, match(1, "b", "x"), match(kind, "", "x")), api.ErrArg})
	}
	for _, name := range []string{"", "A", "0", "9a", "a-", "a b", "é", "a\x00", strings.Repeat("a", 21)} {
		l = append(l, fault{sel(1, match(1, name, "x")), api.ErrForm}, fault{sel(1, match(1, "b", "x"), match(2, name, strings.Repeat("v", 41))), api.ErrForm})
	}
	l = append(l, fault{sel(1, matches(11)...), api.ErrLarge}, fault{sel(1, match(1, "a", strings.Repeat("v", 41))), api.ErrLarge}, fault{sel(1, match(1, "a", strings.Repeat("v", 41)), match(0, "a", "")), api.ErrLarge})
	for kind := api.XSum; kind <= api.XCount; kind++ {
		by := func(want api.Errno, l ...string) fault { return fault{group(kind, num(1), l...), want} }
		l = append(l, by(api.ErrLarge, names(11)...), by(api.ErrLarge, make([]string, 11)...), by(api.ErrLarge, make([]string, 5000)...))
		l = append(l, by(api.ErrForm, ""), by(api.ErrForm, "A"), by(api.ErrForm, "1"), by(api.ErrForm, "a,b"), by(api.ErrForm, " a"), by(api.ErrForm, "a", "B"), by(api.ErrForm, "a", ""), by(api.ErrForm, strings.Repeat("a", 21)), by(api.ErrForm, "B", "a", "a"))
		l = append(l, by(api.ErrOrder, "b", "a"), by(api.ErrOrder, "a", "a"), by(api.ErrOrder, "a", "b", "b"), by(api.ErrOrder, "ab", "a"), by(api.ErrOrder, "a", "_"), by(api.ErrOrder, "a", "b", "a", "B"), by(api.ErrOrder, append(names(9), "c")...))
	}
	return l
}

// Second tellings.

var nameForm = regexp.MustCompile(`\A[a-z_][a-z0-9_]{0,19}\z`)

// modelCheck goes by a list of what is still to be looked at.
func modelCheck(x api.Expr) api.Errno {
	var all []api.Expr
	for next := []api.Expr{x}; len(next) > 0; {
		if len(all) == 100 {
			return api.ErrLarge
		}
		one := next[0]
		all = append(all, one)
		next = slices.Concat(one.X[:min(len(one.X), 101)], next[1:])
	}
	for _, one := range all {
		has := map[int]string{1: "N", 2: "WM", 3: "1B", 4: "1B", 5: "1B", 6: "2", 7: "2", 8: "2"}[one.Kind]
		parts := strings.Count(has, "1") + 2*strings.Count(has, "2")
		more := one.N != 0 && !strings.Contains(has, "N") || one.W != 0 && !strings.Contains(has, "W") || len(one.M) > 0 && !strings.Contains(has, "M") || len(one.By) > 0 && !strings.Contains(has, "B")
		if has == "" || parts != len(one.X) || more || has == "WM" && (one.W <= 0 || one.W >= 1<<40+1) {
			return api.ErrArg
		}
		if len(one.M) > 10 || len(one.By) > 10 {
			return api.ErrLarge
		}
		for _, m := range one.M {
			switch {
			case !slices.Contains([]int{1, 2, 3, 4}, m.Kind):
				return api.ErrArg
			case !nameForm.MatchString(m.Name):
				return api.ErrForm
			case len(m.Value) > 40:
				return api.ErrLarge
			}
		}
		ahead := ""
		for _, name := range one.By {
			switch {
			case !nameForm.MatchString(name):
				return api.ErrForm
			case strings.Compare(ahead, name) >= 0:
				return api.ErrOrder
			}
			ahead = name
		}
	}
	return api.OK
}

// modelText fills in forms.
func modelText(x api.Expr) string {
	switch x.Kind {
	case api.XNum:
		return big.NewInt(x.N).String()
	case api.XSel:
		var terms []string
		for _, m := range x.M {
			value := strings.NewReplacer(`\`, `\\`, `"`, `\"`, "\n", `\n`).Replace(m.Value)
			terms = append(terms, m.Name+[]string{"=", "!=", "=^", "=~"}[m.Kind-1]+`"`+value+`"`)
		}
		return fmt.Sprintf("{%s}[%d]", strings.Join(terms, ","), x.W)
	case api.XSum, api.XMax, api.XCount:
		by := ""
		if len(x.By) > 0 {
			by = " by " + strings.Join(x.By, ",")
		}
		return fmt.Sprintf("%s%s(%s)", []string{"sum", "max", "count"}[x.Kind-3], by, modelText(x.X[0]))
	}
	return fmt.Sprintf("(%s %c %s)", modelText(x.X[0]), "+-*"[x.Kind-6], modelText(x.X[1]))
}

// piece of a text: an expression, or what stands between two.
type piece struct {
	kind string
	x    api.Expr
}

var (
	selForm   = regexp.MustCompile(`\A(\{(?:[^"}]|"(?:[^"\\]|\\.)*")*\})\[([^\]]*)\]`)
	numForm   = regexp.MustCompile(`\A(?:0|-?[1-9][0-9]*)`)
	groupForm = regexp.MustCompile(`\A(sum|max|count)(?: by ([a-z0-9_,]*))?\(`)
	signForm  = regexp.MustCompile(`\A [-+*] `)
)

// nextPiece goes by forms; kind is empty, if none is there.
func nextPiece(s string) (piece, string) {
	if p := selForm.FindStringSubmatch(s); p != nil {
		m, e := label.ReadMatch(p[1])
		if e != api.OK || numForm.FindString(p[2]) != p[2] {
			return piece{}, ""
		}
		w, err := strconv.ParseInt(p[2], 10, 64)
		if err != nil {
			return piece{}, ""
		}
		return piece{"x", sel(w, m...)}, s[len(p[0]):]
	}
	if p := groupForm.FindStringSubmatch(s); p != nil {
		x := api.Expr{Kind: map[string]int{"sum": 3, "max": 4, "count": 5}[p[1]]}
		if strings.HasPrefix(s, p[1]+" by ") {
			x.By = strings.Split(p[2], ",")
		}
		return piece{"group", x}, s[len(p[0]):]
	}
	if p := signForm.FindString(s); p != "" {
		return piece{"sign", api.Expr{Kind: 6 + strings.Index("+-*", p[1:2])}}, s[3:]
	}
	if p := numForm.FindString(s); p != "" {
		n, ok := new(big.Int).SetString(p, 10)
		if !ok || !n.IsInt64() {
			return piece{}, ""
		}
		return piece{"x", num(n.Int64())}, s[len(p):]
	}
	if s[0] == '(' || s[0] == ')' {
		return piece{s[:1], api.Expr{}}, s[1:]
	}
	return piece{}, ""
}

// modelRead puts pieces together as soon as one is closed.
func modelRead(s string) (api.Expr, api.Errno) {
	if len(s) > 4000 {
		return api.Expr{}, api.ErrLarge
	}
	var open []piece
	for s != "" {
		var p piece
		if p, s = nextPiece(s); p.kind == "" {
			return api.Expr{}, api.ErrForm
		}
		open = append(open, p)
		if p.kind != ")" {
			continue
		}
		n, told := len(open), ""
		for _, p := range open[max(0, n-5):] {
			told += p.kind + " "
		}
		switch {
		case strings.HasSuffix(" "+told, " ( x sign x ) "):
			x := open[n-2].x
			open = append(open[:n-5], piece{"x", pair(open[n-3].x.Kind, open[n-4].x, x)})
		case strings.HasSuffix(" "+told, " group x ) "):
			x := open[n-3].x
			x.X = []api.Expr{open[n-2].x}
			open = append(open[:n-3], piece{"x", x})
		default:
			return api.Expr{}, api.ErrForm
		}
	}
	if len(open) != 1 || open[0].kind != "x" || modelCheck(open[0].x) != api.OK {
		return api.Expr{}, api.ErrForm
	}
	return open[0].x, api.OK
}

// told is a row as the model has it: labels by name, and a number without bound.
type told struct {
	l map[string]string
	v *big.Int
}

// modulo 2^64, from -2^63 to 2^63 - 1.
func modulo(v *big.Int) *big.Int {
	half, all := new(big.Int).Lsh(big.NewInt(1), 63), new(big.Int).Lsh(big.NewInt(1), 64)
	v = new(big.Int).Add(v, half)
	v.Mod(v, all)
	return v.Sub(v, half)
}

func modelFits(l map[string]string, m []api.Match) bool {
	for _, x := range m {
		v := l[x.Name]
		if fits := []bool{v == x.Value, v != x.Value, strings.HasPrefix(v, x.Value), strings.Contains(v, x.Value)}; !fits[x.Kind-1] {
			return false
		}
	}
	return true
}

func modelSel(x api.Expr, all []api.Series, now int64) []told {
	var rows []told
	for _, s := range all {
		l := map[string]string{}
		for _, one := range s.L {
			l[one.Name] = one.Value
		}
		var last *big.Int
		for _, one := range s.S {
			ago := new(big.Int).Sub(big.NewInt(now), big.NewInt(one.T))
			if ago.Sign() >= 0 && ago.Cmp(big.NewInt(x.W)) < 0 {
				last = big.NewInt(one.V)
			}
		}
		if last != nil && modelFits(l, x.M) {
			rows = append(rows, told{l, last})
		}
	}
	return rows
}

func modelGroup(kind int, by []string, rows []told) []told {
	var groups []told
	for len(rows) > 0 {
		of := func(r told) map[string]string {
			l := maps.Clone(r.l)
			maps.DeleteFunc(l, func(name, _ string) bool { return !slices.Contains(by, name) })
			return l
		}
		l := of(rows[0])
		var in, others []told
		for _, r := range rows {
			if maps.Equal(of(r), l) {
				in = append(in, r)
			} else {
				others = append(others, r)
			}
		}
		slices.SortFunc(in, func(a, b told) int { return a.v.Cmp(b.v) })
		sum := new(big.Int)
		for _, r := range in {
			sum.Add(sum, r.v)
		}
		v := []*big.Int{modulo(sum), in[len(in)-1].v, big.NewInt(int64(len(in)))}[kind-3]
		groups, rows = append(groups, told{l, v}), others
	}
	return groups
}

func modelPair(kind int, first, second []told) []told {
	both := func(a, b *big.Int) *big.Int {
		v := new(big.Int)
		return modulo([]*big.Int{new(big.Int).Add(a, b), new(big.Int).Sub(a, b), v.Mul(a, b)}[kind-6])
	}
	var rows []told
	plain := func(rows []told) bool { return len(rows) == 1 && len(rows[0].l) == 0 }
	for _, a := range first {
		for _, b := range second {
			switch {
			case plain(second):
				rows = append(rows, told{a.l, both(a.v, b.v)})
			case plain(first), maps.Equal(a.l, b.l):
				rows = append(rows, told{b.l, both(a.v, b.v)})
			}
		}
	}
	return rows
}

func modelRows(x api.Expr, all []api.Series, now int64) []told {
	switch x.Kind {
	case api.XNum:
		return []told{{nil, big.NewInt(x.N)}}
	case api.XSel:
		return modelSel(x, all, now)
	case api.XSum, api.XMax, api.XCount:
		return modelGroup(x.Kind, x.By, modelRows(x.X[0], all, now))
	}
	return modelPair(x.Kind, modelRows(x.X[0], all, now), modelRows(x.X[1], all, now))
}

// modelEval tells rows as texts, in order.
func modelEval(x api.Expr, all []api.Series, now int64) []string {
	var l [][2]string
	for _, r := range modelRows(x, all, now) {
		var m []api.Match
		for _, name := range slices.Sorted(maps.Keys(r.l)) {
			m = append(m, match(api.MIs, name, r.l[name]))
		}
		key, _, _ := strings.Cut(modelText(sel(1, m...))+"#", "[1]#")
		l = append(l, [2]string{key, r.v.String()})
	}
	sort.Slice(l, func(i, j int) bool { return l[i][0] < l[j][0] })
	var out []string
	for _, r := range l {
		out = append(out, r[0]+" "+r[1])
	}
	return out
}

// texts of rows, in the order in which they stand.
func texts(rows []api.Row) []string {
	var out []string
	for _, r := range rows {
		key, e := label.Text(r.L)
		if e != api.OK {
			key = "no labels"
		}
		out = append(out, key+" "+strconv.FormatInt(r.V, 10))
	}
	return out
}

// Series.

func labels(s ...string) []api.Label {
	var l []api.Label
	for i := 0; i < len(s); i += 2 {
		l = append(l, api.Label{Name: s[i], Value: s[i+1]})
	}
	return l
}

func samples(tv ...int64) []api.Sample {
	var l []api.Sample
	for i := 0; i < len(tv); i += 2 {
		l = append(l, api.Sample{T: tv[i], V: tv[i+1]})
	}
	return l
}

func series(l []api.Label, tv ...int64) api.Series { return api.Series{L: l, S: samples(tv...)} }

// few at 100: 7, 20, 100, 1, none, none, 4.
func few() []api.Series {
	return []api.Series{
		series(labels("a", "x", "b", "1"), 10, 5, 100, 7, 101, 9),
		series(labels("a", "x", "b", "2"), 99, 20),
		series(labels("a", "y", "b", "1"), 40, -3, 80, 100),
		series(nil, 100, 1),
		series(labels("a", "z")),
		series(labels("b", "3"), 101, 8),
		series(labels("a", ""), 1, 4),
	}
}

// some are without an error, with few values, and some extreme numbers and times.
func some(s *source, n int) []api.Series {
	var all []api.Series
	var keys []string
	for range n {
		var l []api.Label
		for _, name := range []string{"_9", "a", "b"} {
			if s.below(4) > 0 {
				l = append(l, api.Label{Name: name, Value: oneOf(s, "", "x", "y", "xy", "\"}[", "\\\n", "z")})
			}
		}
		var tv []int64
		at := oneOf[int64](s, math.MinInt64, -1<<60, -1000, 0, 80)
		for range s.below(12) {
			tv = append(tv, at, oneOf(s, 1, -1, int64(s.below(1000)), math.MaxInt64, math.MinInt64, 1<<40))
			at += 1 + int64(s.below(9))
		}
		if key, _ := label.Text(l); !slices.Contains(keys, key) {
			keys = append(keys, key)
			all = append(all, series(l, tv...))
		}
	}
	return all
}

// asked is read from its text.
func asked(t *testing.T, s string) api.Expr {
	t.Helper()
	x, e := Read(s)
	if e != api.OK {
		t.Fatalf("Read(%q) has error %d", s, e)
	}
	return x
}

func isZero(x api.Expr) bool { return reflect.DeepEqual(x, api.Expr{}) }

// same takes lists of nothing as one, whether they are nil or empty.
func same(x, y api.Expr) bool {
	if x.Kind != y.Kind || x.N != y.N || x.W != y.W || !slices.Equal(x.M, y.M) || !slices.Equal(x.By, y.By) || len(x.X) != len(y.X) {
		return false
	}
	for i := range x.X {
		if !same(x.X[i], y.X[i]) {
			return false
		}
	}
	return true
}

// short tells an expression that may be endless.
func short(x api.Expr) string {
	if modelCheck(x) == api.ErrLarge {
		return fmt.Sprintf("one of kind %d with %d in it", x.Kind, len(x.X))
	}
	return fmt.Sprintf("%+v", x)
}

func checkFails(t *testing.T, x api.Expr, want api.Errno) {
	t.Helper()
	if e := Check(x); e != want {
		t.Errorf("Check of %s has error %d, want %d", short(x), e, want)
	}
	if s, e := Text(x); s != "" || e != want {
		t.Errorf("Text of %s is %q, with error %d, want %d", short(x), s, e, want)
	}
	for _, all := range [][]api.Series{nil, few(), make([]api.Series, 201), {series(labels("A", ""))}} {
		if rows, e := Eval(x, all, math.MaxInt64); rows != nil || e != want {
			t.Errorf("Eval of %s is %v, with error %d, want %d", short(x), rows, e, want)
		}
	}
}

func checkRead(t *testing.T, s string) bool {
	t.Helper()
	want, wantError := modelRead(s)
	x, e := Read(s)
	if !same(x, want) || e != wantError || e != api.OK && !isZero(x) {
		t.Errorf("Read(%q) is %+v, with error %d, want %+v, %d", s, x, e, want, wantError)
	}
	return e == api.OK
}

func checkReadFails(t *testing.T, s string, want api.Errno) {
	t.Helper()
	if x, e := Read(s); !isZero(x) || e != want {
		t.Errorf("Read(%.200q) is %+v, with error %d, want %d", s, x, e, want)
	}
}

func checkEval(t *testing.T, x api.Expr, all []api.Series, now int64, want ...string) {
	t.Helper()
	rows, e := Eval(x, all, now)
	if e != api.OK || !slices.Equal(texts(rows), want) {
		t.Errorf("Eval of %s at %d is %q, with error %d, want %q", short(x), now, texts(rows), e, want)
	}
}

func TestP140CheckTakesExpressions(t *testing.T) {
	for _, x := range forms() {
		if e := Check(x); e != api.OK || modelCheck(x) != api.OK {
			t.Errorf("Check of %s has error %d, the model %d", short(x), e, modelCheck(x))
		}
	}
}

func TestP140CheckRefusesFaultsWhereverTheyStand(t *testing.T) {
	for _, f := range faults() {
		for _, x := range []api.Expr{
			f.x, group(api.XMax, f.x), group(api.XCount, f.x, "a"), pair(api.XAdd, f.x, num(1)), pair(api.XSub, num(1), f.x), pair(api.XMul, f.x, f.x), deep(90, f.x), pair(api.XAdd, deep(90, sel(1)), f.x), leftOnes(10, f.x),
		} {
			checkFails(t, x, f.want)
		}
	}
}

// What stands ahead is told: of one that it has in it, and of one that stands ahead in X with all that it has in it.
func TestP140CheckTellsTheFirstOfTwoFaults(t *testing.T) {
	arg, form, order, large := num(1), sel(1, match(1, "A", "")), group(api.XSum, num(1), "b", "a"), sel(1, matches(11)...)
	arg.W = 1
	l := []fault{{arg, api.ErrArg}, {form, api.ErrForm}, {order, api.ErrOrder}, {large, api.ErrLarge}}
	for _, a := range l {
		for _, b := range l {
			checkFails(t, pair(api.XAdd, a.x, b.x), a.want)
			checkFails(t, pair(api.XAdd, deep(40, a.x), b.x), a.want)
			checkFails(t, pair(api.XAdd, a.x, deep(40, b.x)), a.want)
			checkFails(t, pair(api.XAdd, pair(api.XMul, num(1), a.x), pair(api.XMul, b.x, num(1))), a.want)
			checkFails(t, group(api.XSum, b.x, "A"), api.ErrForm)
			checkFails(t, group(api.XSum, b.x, "a", "a"), api.ErrOrder)
			checkFails(t, group(api.XSum, b.x, names(11)...), api.ErrLarge)
			checkFails(t, api.Expr{Kind: api.XSum, W: 1, By: []string{"A"}, X: []api.Expr{b.x}}, api.ErrArg)
			checkFails(t, api.Expr{Kind: api.XAdd, X: []api.Expr{a.x, b.x, a.x}}, api.ErrArg)
		}
	}
	for _, m := range [][]api.Match{matches(11), {match(1, "A", "")}, {match(0, "", "")}, {match(1, "a", strings.Repeat("v", 41))}} {
		checkFails(t, api.Expr{Kind: api.XSel, M: m}, api.ErrArg)
		checkFails(t, api.Expr{Kind: api.XSel, M: m, W: 1, N: 1}, api.ErrArg)
	}
}

func TestP140CheckCountsTheExpressions(t *testing.T) {
	for _, x := range []api.Expr{deep(99, num(1)), leftOnes(49, num(1)), rightOnes(49, sel(1)), group(api.XSum, leftOnes(49, num(1))), pair(api.XAdd, deep(97, num(1)), num(1)), pair(api.XAdd, num(1), deep(97, num(1)))} {
		if e := Check(x); e != api.OK {
			t.Errorf("Check of %s has error %d", short(x), e)
		}
	}
	many := func(n int, x api.Expr) api.Expr { return api.Expr{X: slices.Repeat([]api.Expr{x}, n)} }
	for _, x := range []api.Expr{
		deep(100, num(1)), deep(101, num(1)), deep(100000, num(1)), leftOnes(50, num(1)), rightOnes(50, num(1)), rightOnes(100000, num(1)), pair(api.XAdd, deep(98, num(1)), num(1)), pair(api.XAdd, num(1), deep(98, num(1))), pair(api.XAdd, leftOnes(25, num(1)), rightOnes(24, num(1))),
		// ahead of all other errors
		deep(100, api.Expr{}), many(100, api.Expr{}), many(1000000, num(1)), many(10, many(9, num(1))), group(api.XSum, many(99, num(1)), "b", "a"), endless(), pair(api.XAdd, api.Expr{}, endless()), many(100, endless()),
	} {
		checkFails(t, x, api.ErrLarge)
	}
	checkFails(t, many(99, num(1)), api.ErrArg)
	checkFails(t, many(11, many(8, num(1))), api.ErrArg)
	checkFails(t, deep(99, api.Expr{}), api.ErrArg)
	x := num(1)
	for range 60 {
		x = pair(api.XAdd, x, x)
	}
	checkFails(t, x, api.ErrLarge)
}

// spoiltOne is of a kind, numbers and lists as they come, more often than not without order.
func spoiltOne(s *source, depth int) api.Expr {
	x := drawn(s, 1+s.below(4))
	if s.below(2) == 0 {
		x.Kind = s.below(11) - 1
	}
	if s.below(8) == 0 {
		x.N = oneOf[int64](s, 0, 1, math.MinInt64)
	}
	if s.below(8) == 0 {
		x.W = oneOf[int64](s, 0, 1, -1, math.MaxInt64, api.MaxT, api.MaxT+1)
	}
	if s.below(8) == 0 {
		x.M = append(matches(s.below(11)), match(s.below(6), oneOf(s, "a", "A", ""), strings.Repeat("v", 39+s.below(3))))
	}
	if s.below(8) == 0 {
		x.By = append(names(s.below(11)), oneOf(s, "a", "", "z", "k", "_"))
	}
	for depth > 0 && s.below(3) == 0 {
		x.X = append(x.X, spoiltOne(s, depth-1))
	}
	return x
}

func TestP140CheckIsTheModel(t *testing.T) {
	seen := map[api.Errno]int{}
	for i := range 20000 {
		x := spoiltOne(&source{uint64(500 * i)}, i%5)
		want := modelCheck(x)
		seen[want]++
		if e := Check(x); e != want {
			t.Errorf("Check of %s has error %d, want %d", short(x), e, want)
		}
	}
	for _, e := range []api.Errno{api.OK, api.ErrArg, api.ErrForm, api.ErrOrder, api.ErrLarge} {
		if seen[e] < 20 {
			t.Errorf("error %d came %d times", e, seen[e])
		}
	}
}

// few texts, each with what it is the text of.
func fewTexts() map[string]api.Expr {
	return map[string]api.Expr{
		"0": num(0), "-1": num(-1), "10": num(10), "9223372036854775807": num(math.MaxInt64), "-9223372036854775808": num(math.MinInt64),
		`{}[1]`: sel(1), `{}[1099511627776]`: sel(api.MaxT),
		`{a="x",b!="",a=^"y",a=~"\"\\\n}[2]"}[60]`: sel(60, match(api.MIs, "a", "x"), match(api.MNot, "b", ""), match(api.MFront, "a", "y"), match(api.MHas, "a", "\"\\\n}[2]")),
		"sum(1)": group(api.XSum, num(1)), "max(-1)": group(api.XMax, num(-1)), "count(0)": group(api.XCount, num(0)),
		"sum by a(1)": group(api.XSum, num(1), "a"), "max by _,a,b9({}[5])": group(api.XMax, sel(5), "_", "a", "b9"), "count by by,count,max,sum(max(1))": group(api.XCount, group(api.XMax, num(1)), "by", "count", "max", "sum"),
		"(1 + 2)": pair(api.XAdd, num(1), num(2)), "(-1 - -2)": pair(api.XSub, num(-1), num(-2)), `({}[3] * {a="x"}[4])`: pair(api.XMul, sel(3), sel(4, matches(1)...)),
		"((1 - 2) - 3)": pair(api.XSub, pair(api.XSub, num(1), num(2)), num(3)), "(1 - (2 - 3))": pair(api.XSub, num(1), pair(api.XSub, num(2), num(3))),
		"sum by a((max({}[7]) * count by b(-2)))": group(api.XSum, pair(api.XMul, group(api.XMax, sel(7)), group(api.XCount, num(-2), "b")), "a"),
	}
}

func TestP141TextIsToTheByte(t *testing.T) {
	for want, x := range fewTexts() {
		if s, e := Text(x); s != want || e != api.OK {
			t.Errorf("Text is %q, with error %d, want %q", s, e, want)
		}
	}
	for _, x := range forms() {
		if s, e := Text(x); s != modelText(x) || e != api.OK {
			t.Errorf("Text of %s is %q, with error %d, want %q", short(x), s, e, modelText(x))
		}
	}
}

func TestP141ReadOfFew(t *testing.T) {
	for s, want := range fewTexts() {
		if x, e := Read(s); !same(x, want) || e != api.OK {
			t.Errorf("Read(%q) is %+v, with error %d, want %+v", s, x, e, want)
		}
	}
}

func TestP141ReadUndoesText(t *testing.T) {
	long := 0
	for _, x := range append(forms(), sized(t, 3999), sized(t, 4000)) {
		s, _ := Text(x)
		if len(s) > api.MaxText {
			long++
			checkReadFails(t, s, api.ErrLarge)
			continue
		}
		if y, e := Read(s); !same(x, y) || e != api.OK {
			t.Errorf("Read(%q) is %+v, with error %d, want %+v", s, y, e, x)
		}
		checkRead(t, s)
	}
	if long == 0 {
		t.Error("no text was too long")
	}
}

func TestP141ReadHasItsBound(t *testing.T) {
	for _, n := range []int{4001, 4002, 5000} {
		s, e := Text(sized(t, n))
		if len(s) != n || e != api.OK {
			t.Fatalf("Text has %d bytes, error %d", len(s), e)
		}
		checkReadFails(t, s, api.ErrLarge)
	}
	for _, part := range []string{" ", "(", "sum(", "-", "0", "9", "{", "\"", "{}[1]", "sum by a,", ",", "\\", "\x00", "1)", "max by ", "(1 + "} {
		s := strings.Repeat(part, 4001)
		checkReadFails(t, s, api.ErrLarge)
		checkReadFails(t, s[:4001], api.ErrLarge)
		checkReadFails(t, s[:4000], api.ErrForm)
	}
	// of one too many expressions, or of a name too many, there is no text
	for _, x := range []api.Expr{deep(99, num(1)), leftOnes(49, num(1)), rightOnes(49, num(1))} {
		s := modelText(x)
		checkReadFails(t, "sum(max("+s+"))", api.ErrForm)
		checkReadFails(t, "("+s+" + 1)", api.ErrForm)
		checkReadFails(t, "(1 - "+s+")", api.ErrForm)
	}
	checkReadFails(t, "sum by "+strings.Join(names(11), ",")+"(1)", api.ErrForm)
	checkReadFails(t, modelText(sel(1, matches(11)...)), api.ErrForm)
}

func TestP141ReadRefuses(t *testing.T) {
	for _, s := range []string{
		"", " ", "+", "-", "+1", "01", "00", "-0", "-01", "- 1", "--1", "1-", "1-1", "1 ", " 1", "1\n", "1.", "1e3", "0x1", "1_0", "٣", "9223372036854775808", "-9223372036854775809", "18446744073709551617", "99999999999999999999999",
		"{}", "{}[]", "{}[0]", "{}[-1]", "{}[01]", "{}[+1]", "{}[ 1]", "{}[1 ]", "{} [1]", " {}[1]", "{}[1] ", "{}[1", "{}1]", "{}[1]]", "{}[1][1]", "{}[1099511627777]", "{}[9223372036854775808]", "{}[1m]", "{}(1)", "[1]", "}[1]", "{[1]", "{a}[1]", `{a="x}[1]`, `{a="x"[1]`, `{a="x",}[1]`, `{ a="x"}[1]`, `{a="\x"}[1]`, `{A="x"}[1]`, `{a="` + strings.Repeat("v", 41) + `"}[1]`, `{a=="x"}[1]`, `a="x"[1]`, `{a="\"}[1]`, "{a=\"\n\"}[1]", `{a="x\`, `{a="x\}[1]`, `{}{}[1]`, `{"}[1]`,
		"sum", "sum(", "sum()", "sum(1", "sum 1", "sum1", "sum (1)", "sum( 1)", "sum(1 )", "sum(1) ", "sum(1))", "sum(1)(1)", "sum(1,1)", "sum(1 1)", "summ(1)", "su(1)", "Sum(1)", "min(1)", "avg(1)", "by(1)", "sumby a(1)", "sum bya(1)", "sum by(1)", "sum by (1)", "sum by  (1)", "sum by a (1)", "sum by a, b(1)", "sum by a,,b(1)", "sum by ,a(1)", "sum by a,(1)", "sum by b,a(1)", "sum by a,a(1)", "sum by A(1)", "sum by 1(1)", "sum by a b(1)", "sum  by a(1)", " sum by a(1)", "sum by a)1(", "sum by a1", "sum by a(", "sum by a()", "sum by (a)(1)", "sum(1) by a", "sum by a by b(1)", "sum by " + strings.Repeat("a", 21) + "(1)", "sum + 1",
		"(", ")", "()", "(1)", "(1 + 1", "1 + 1)", "1 + 1", "(1+1)", "(1 +1)", "(1+ 1)", "(1  + 1)", "(1 +  1)", "( 1 + 1)", "(1 + 1 )", "(1 + )", "( + 1)", "(1 / 1)", "(1 % 1)", "(1 ** 1)", "(1 ++ 1)", "(1 + + 1)", "(1 + 1 + 1)", "((1 + 1))", "(1 + 1)1", "(1 + 1) + 1", "[1 + 1]", "(1\t+ 1)", "(1 - 1) ", "-(1 + 1)", "- (1 + 1)", "(1 x 1)", "(1 1)", "(1 , 1)", "(1 +\x001)",
	} {
		checkReadFails(t, s, api.ErrForm)
		checkReadFails(t, "sum("+s+")", api.ErrForm)
		checkReadFails(t, "("+s+" + 1)", api.ErrForm)
		checkReadFails(t, "(1 * "+s+")", api.ErrForm)
		if _, e := modelRead(s); e != api.ErrForm {
			t.Errorf("the model reads %q", s)
		}
	}
}

// spoilt are texts that are s, but for one byte that is away, is there beside, or is another one.
func spoilt(s string) []string {
	var l []string
	for i := range len(s) + 1 {
		front, back := s[:i], s[i:]
		for c := range strings.SplitSeq(`{ } " \ = ! ^ ~ , ( ) [ ] + - * 0 1 9 a A _ m`+" \n \x00 \xff", " ") {
			l = append(l, front+c+back, front+" "+back)
			if back != "" {
				l = append(l, front+c+back[1:], front+" "+back[1:])
			}
		}
		if back != "" {
			l = append(l, front+back[1:], front)
		}
	}
	return l
}

func TestP141WhatIsSpoiltIsReadAsTheModel(t *testing.T) {
	good := 0
	for s := range fewTexts() {
		for _, one := range spoilt(s) {
			if checkRead(t, one) {
				good++
			}
		}
	}
	if good < 500 {
		t.Errorf("%d texts were read", good)
	}
}

func TestP141ShortTextsAreReadAsTheModel(t *testing.T) {
	parts := []string{"1", "-", "(", ")", " + ", " ", "sum", " by ", "a", ",", "{}", "[1]", "0"}
	good := 0
	list := []string{""}
	for range 5 {
		var longer []string
		for _, s := range list {
			for _, part := range parts {
				longer = append(longer, s+part)
			}
		}
		for _, s := range longer {
			if checkRead(t, s) {
				good++
			}
		}
		list = longer
	}
	if good < 50 {
		t.Errorf("%d texts were read", good)
	}
}

// What is thrown is caught, and told as it was thrown; any other panic is caught too, and told as a text that cannot be read.
func TestP141WhatIsThrownIsCaught(t *testing.T) {
	caught := func(f func()) (e api.Errno) {
		defer func() { e = errorOf(recover()) }()
		f()
		return api.OK
	}
	for f, want := range map[string]api.Errno{"large": api.ErrLarge, "form": api.ErrForm, "order": api.ErrOrder} {
		if e := caught(func() { throw(want) }); e != want {
			t.Errorf("%s: error %d, want %d", f, e, want)
		}
	}
	for _, cause := range []any{"a text", errors.New("an error"), 5, api.ErrLarge} {
		if e := caught(func() { panic(cause) }); e != api.ErrForm {
			t.Errorf("%v: error %d", cause, e)
		}
	}
	for _, cut := range []string{"(((((((((((((((1", "sum(max(count((1 + sum by a(", "((1 + 1) + (1 + (1 + x)))", "(sum({}[0]) + 1)"} {
		checkReadFails(t, cut, api.ErrForm)
	}
	// nothing is left over from a text that could not be read
	if s, e := Text(asked(t, "(1 + 1)")); s != "(1 + 1)" || e != api.OK {
		t.Errorf("%q, error %d", s, e)
	}
}

func TestP142EvalOfFew(t *testing.T) {
	for s, want := range map[string][]string{
		"7": {"{} 7"}, "-9223372036854775808": {"{} -9223372036854775808"},
		"{}[1000]":           {`{a=""} 4`, `{a="x",b="1"} 7`, `{a="x",b="2"} 20`, `{a="y",b="1"} 100`, "{} 1"},
		"{}[1]":              {`{a="x",b="1"} 7`, "{} 1"},
		"{}[2]":              {`{a="x",b="1"} 7`, `{a="x",b="2"} 20`, "{} 1"},
		"{}[20]":             {`{a="x",b="1"} 7`, `{a="x",b="2"} 20`, "{} 1"},
		"{}[21]":             {`{a="x",b="1"} 7`, `{a="x",b="2"} 20`, `{a="y",b="1"} 100`, "{} 1"},
		"{}[99]":             {`{a="x",b="1"} 7`, `{a="x",b="2"} 20`, `{a="y",b="1"} 100`, "{} 1"},
		"{}[100]":            {`{a=""} 4`, `{a="x",b="1"} 7`, `{a="x",b="2"} 20`, `{a="y",b="1"} 100`, "{} 1"},
		`{a="x"}[100]`:       {`{a="x",b="1"} 7`, `{a="x",b="2"} 20`},
		`{a=""}[100]`:        {`{a=""} 4`, "{} 1"},
		`{b!="1",a!=""}[99]`: {`{a="x",b="2"} 20`},
		`{c="x"}[100]`:       nil, `{a="z"}[1099511627776]`: nil, `{b="3"}[1099511627776]`: nil,
		"sum({}[100])": {"{} 132"}, "max({}[100])": {"{} 100"}, "count({}[100])": {"{} 5"},
		`sum({c="x"}[1])`: nil, `max({c="x"}[1])`: nil, `count({c="x"}[1])`: nil, `count by a({c="x"}[1])`: nil,
		"sum by a({}[100])": {`{a=""} 4`, `{a="x"} 27`, `{a="y"} 100`, "{} 1"}, "max by a({}[100])": {`{a=""} 4`, `{a="x"} 20`, `{a="y"} 100`, "{} 1"}, "count by a({}[100])": {`{a=""} 1`, `{a="x"} 2`, `{a="y"} 1`, "{} 1"},
		"sum by b({}[100])": {`{b="1"} 107`, `{b="2"} 20`, "{} 5"}, "sum by a,b({}[100])": {`{a=""} 4`, `{a="x",b="1"} 7`, `{a="x",b="2"} 20`, `{a="y",b="1"} 100`, "{} 1"}, "count by c({}[100])": {"{} 5"},
		"sum(5)": {"{} 5"}, "count by a(5)": {"{} 1"}, "max(-5)": {"{} -5"}, "sum(-5)": {"{} -5"},
		"(2 + 3)": {"{} 5"}, "(2 - 3)": {"{} -1"}, "(2 * -3)": {"{} -6"}, "((2 - 3) - 4)": {"{} -5"}, "(2 - (3 - 4))": {"{} 3"},
		`({a="x"}[9] - 1)`: {`{a="x",b="1"} 6`, `{a="x",b="2"} 19`}, `(1 - {a="x"}[9])`: {`{a="x",b="1"} -6`, `{a="x",b="2"} -19`},
		`({}[100] - {b="1"}[100])`: {`{a="x",b="1"} 0`, `{a="y",b="1"} 0`}, `({b="1"}[100] * {}[9])`: {`{a="x",b="1"} 49`},
		"({}[2] - sum({}[2]))": {`{a="x",b="1"} -21`, `{a="x",b="2"} -8`, "{} -27"}, "(sum({}[2]) - {}[2])": {`{a="x",b="1"} 21`, `{a="x",b="2"} 8`, "{} 27"},
		`({c="x"}[9] + 1)`: nil, `(1 + {c="x"}[9])`: nil, `({c="x"}[9] + {c="x"}[9])`: nil, `({c="x"}[9] + {}[9])`: nil,
		// one row, but with labels; two rows, one of them without; one row without labels, of a series
		`({}[100] + {a="y"}[100])`: {`{a="y",b="1"} 200`}, `({a="y"}[100] - {a="x"}[100])`: nil, `({a=""}[100] * {}[21])`: {"{} 1"}, `({a=""}[1] - {a="x"}[100])`: {`{a="x",b="1"} -6`, `{a="x",b="2"} -19`}, `({a="x"}[100] - {a=""}[1])`: {`{a="x",b="1"} 6`, `{a="x",b="2"} 19`},
		`({a="y"}[100] - {a=""}[1])`: {`{a="y",b="1"} 99`}, `({a=""}[1] - {a="y"}[100])`: {`{a="y",b="1"} -99`}, `({a=""}[1] - {a=""}[1])`: {"{} 0"}, `({a=""}[1] - {a=""}[100])`: {`{a=""} -3`, "{} 0"}, `({a=""}[100] - {a=""}[1])`: {`{a=""} 3`, "{} 0"},
		"(sum by a({}[100]) * count by a({}[100]))": {`{a=""} 4`, `{a="x"} 54`, `{a="y"} 100`, "{} 1"}, "(sum by a({}[100]) + sum by b({}[100]))": {"{} 6"},
	} {
		checkEval(t, asked(t, s), few(), 100, want...)
	}
	checkEval(t, asked(t, "{}[5]"), nil, 0)
	checkEval(t, asked(t, "5"), nil, 0, "{} 5")
	checkEval(t, asked(t, "sum({}[5])"), make([]api.Series, 1), 0)
}

func TestP142EvalTakesTheLastSampleInItsTime(t *testing.T) {
	all := []api.Series{series(nil, math.MinInt64, 1, -api.MaxTime-api.MaxT, 2, -api.MaxTime-api.MaxT+1, 3, -api.MaxTime, 4, -api.MaxTime+1, 5, 0, 6, api.MaxTime-1, 7, api.MaxTime, 8, api.MaxTime+1, 9, math.MaxInt64, 10)}
	for _, c := range []struct {
		w, now int64
		want   string
	}{
		{1, 0, "6"}, {1, 1, ""}, {2, 1, "6"}, {1, -1, ""}, {api.MaxT, -1, ""}, {api.MaxT, api.MaxT - 1, "6"}, {api.MaxT, api.MaxT, ""}, {api.MaxT - 1, api.MaxT - 1, ""},
		{1, api.MaxTime, "8"}, {api.MaxT, api.MaxTime, "8"}, {1, api.MaxTime - 1, "7"}, {1, api.MaxTime - 2, ""}, {1, -api.MaxTime, "4"}, {api.MaxT, -api.MaxTime, "4"}, {1, -api.MaxTime + 1, "5"}, {1, -api.MaxTime + 2, ""}, {2, -api.MaxTime + 2, "5"},
	} {
		var want []string
		if c.want != "" {
			want = []string{"{} " + c.want}
		}
		checkEval(t, sel(c.w), all, c.now, want...)
		checkEval(t, sel(c.w), all, c.now, modelEval(sel(c.w), all, c.now)...)
	}
	// the first one above now - W, where there is none at now
	edge := []api.Series{series(nil, -api.MaxTime-api.MaxT, 2, -api.MaxTime-api.MaxT+1, 3)}
	checkEval(t, sel(api.MaxT), edge, -api.MaxTime, "{} 3")
	checkEval(t, sel(api.MaxT-1), edge, -api.MaxTime)
	checkEval(t, sel(api.MaxT), []api.Series{{S: edge[0].S[:1]}}, -api.MaxTime)
}

func TestP142EvalGoesRound(t *testing.T) {
	const most, least = "9223372036854775807", "-9223372036854775808"
	for s, want := range map[string]string{
		"(" + most + " + 1)": least, "(" + least + " - 1)": most, "(" + least + " + " + least + ")": "0", "(" + most + " + " + most + ")": "-2", "(0 - " + least + ")": least, "(" + least + " * -1)": least, "(" + most + " * " + most + ")": "1", "(4294967296 * 4294967296)": "0", "(3037000500 * 3037000500)": "-9223372036709301616", "(" + least + " * 3)": least, "(-1 - " + most + ")": least, "(-2 - " + most + ")": most,
	} {
		checkEval(t, asked(t, s), nil, 0, "{} "+want)
	}
	all := []api.Series{series(labels("a", "x"), 0, math.MaxInt64), series(labels("a", "y"), 0, 1), series(labels("a", "z"), 0, math.MinInt64), series(labels("b", "x"), 0, -1)}
	for s, want := range map[string]string{
		"sum({}[1])": "-1", `sum({b=""}[1])`: "0", `sum({a!="z"}[1])`: most, `sum({a!="z",b=""}[1])`: least, `sum({a="z"}[1])`: least, `max({a="z"}[1])`: least, `max({a!="x",b=""}[1])`: "1", "max({}[1])": most, `max(({b=""}[1] + 1))`: "2", `max({b="x"}[1])`: "-1", `sum({a!="x",a!="y"}[1])`: most,
	} {
		checkEval(t, asked(t, s), all, 0, "{} "+want)
	}
}

// The order is that of the texts, not that of the labels.
func TestP142RowsRiseByTheTextOfTheirLabels(t *testing.T) {
	var all []api.Series
	for _, l := range [][]api.Label{nil, labels("a", "x"), labels("a", "x", "b", "y"), labels("a", ""), labels("a", "xx"), labels("a", "x!"), labels("a", "x#"), labels("a", "x\n"), labels("a", "x\\"), labels("a", "x]"), labels("a", "x["), labels("a", "x\""), labels("a", "\xff"), labels("aa", "x"), labels("a_", "x"), labels("a0", "x"), labels("_", "x"), labels("b", "")} {
		all = append(all, series(l, 0, int64(len(all))))
	}
	want := []string{`{_="x"} 16`, `{a0="x"} 15`, `{a=""} 3`, `{a="x!"} 5`, `{a="x",b="y"} 2`, `{a="x"} 1`, `{a="x#"} 6`, `{a="x["} 10`, `{a="x\""} 11`, `{a="x\\"} 8`, `{a="x\n"} 7`, `{a="x]"} 9`, `{a="xx"} 4`, "{a=\"\xff\"} 12", `{a_="x"} 14`, `{aa="x"} 13`, `{b=""} 17`, `{} 0`}
	for i := range all {
		// wherever each one stands
		turned := slices.Concat(all[i:], all[:i])
		checkEval(t, sel(1), turned, 0, want...)
		checkEval(t, pair(api.XAdd, sel(1), sel(2)), turned, 1)
		checkEval(t, pair(api.XAdd, num(0), sel(1)), turned, 0, want...)
		checkEval(t, group(api.XMax, sel(1), "_", "a", "a0", "a_", "aa", "b"), turned, 0, want...)
	}
	slices.Reverse(all)
	checkEval(t, sel(1), all, 0, want...)
}

func TestP142EvalIsTheModel(t *testing.T) {
	rows, several := 0, 0
	for i := range 3000 {
		s := &source{uint64(9000 * i)}
		x, all := drawn(s, 1+i%20), some(s, s.below(30))
		for _, now := range []int64{oneOf[int64](s, 0, 81, 90, 100, 1000), oneOf[int64](s, -api.MaxTime, -990, 85, api.MaxTime)} {
			want := modelEval(x, all, now)
			checkEval(t, x, all, now, want...)
			rows += len(want)
			if len(want) > 1 {
				several++
			}
		}
		if t.Failed() {
			return
		}
	}
	if rows < 3000 || several < 500 {
		t.Errorf("%d rows, %d times several", rows, several)
	}
}

// It is no matter in which order the series stand.
func TestP142EvalOfTurnedSeriesIsTheSame(t *testing.T) {
	for i := range 300 {
		s := &source{uint64(7000 * i)}
		x, all := drawn(s, 12), some(s, 20)
		want := modelEval(x, all, 85)
		slices.Reverse(all)
		checkEval(t, x, all, 85, want...)
	}
}

func TestP142EvalHasItsBounds(t *testing.T) {
	many := func(n int) []api.Series {
		var all []api.Series
		for i := range n {
			all = append(all, series(labels("a", strconv.Itoa(1000+i), "b", strconv.Itoa(i%7)), 0, int64(i)))
		}
		return all
	}
	run := make([]api.Sample, 1001)
	for i := range run {
		run[i] = api.Sample{T: int64(i), V: int64(i)}
	}
	checkEval(t, asked(t, "count({}[1])"), many(200), 0, "{} 200")
	checkEval(t, asked(t, "sum by c({}[1])"), many(200), 0, "{} 19900")
	checkEval(t, asked(t, "count(({}[1] + {}[1]))"), many(200), 0, "{} 200")
	checkEval(t, asked(t, "sum(count by b({}[1]))"), many(200), 0, "{} 200")
	checkEval(t, asked(t, "{}[1000]"), []api.Series{{S: run[:1000]}}, 5000)
	checkEval(t, asked(t, "{}[1000]"), []api.Series{{S: run[:1000]}}, 1998, "{} 999")
	checkEval(t, asked(t, "5"), few(), api.MaxTime, "{} 5")
	checkEval(t, asked(t, "5"), few(), -api.MaxTime, "{} 5")
	large := group(api.XSum, leftOnes(49, sel(1)), "a")
	checkEval(t, large, many(200), 0, modelEval(large, many(200), 0)...)

	unordered, tooLong, noName := series(nil, 1, 1, 1, 2), api.Series{S: run}, series(labels("A", "x"))
	l := []struct {
		all  []api.Series
		now  int64
		want api.Errno
	}{
		{many(201), 0, api.ErrLarge}, {make([]api.Series, 100000), 0, api.ErrLarge}, {append(many(200), noName), math.MaxInt64, api.ErrLarge},
		{[]api.Series{noName}, 0, api.ErrForm}, {[]api.Series{{}, noName}, 0, api.ErrForm}, {[]api.Series{series(labels("b", "", "a", ""))}, 0, api.ErrOrder}, {[]api.Series{series(labels("a", "", "a", ""))}, 0, api.ErrOrder}, {[]api.Series{series(labels("a", strings.Repeat("v", 41)))}, 0, api.ErrLarge}, {[]api.Series{{L: make([]api.Label, 11)}}, 0, api.ErrLarge},
		{[]api.Series{unordered}, 0, api.ErrOrder}, {[]api.Series{series(nil, 2, 1, 1, 1)}, 0, api.ErrOrder}, {[]api.Series{tooLong}, 0, api.ErrLarge},
		// one by one, of each one labels ahead of samples
		{[]api.Series{unordered, noName}, 0, api.ErrOrder}, {[]api.Series{noName, unordered}, 0, api.ErrForm}, {[]api.Series{tooLong, noName, unordered}, 0, api.ErrLarge}, {[]api.Series{{L: noName.L, S: unordered.S}}, 0, api.ErrForm}, {[]api.Series{{L: labels("b", "", "a", ""), S: run}}, 0, api.ErrOrder},
		// all of that ahead of what two have
		{[]api.Series{{}, {}}, 0, api.ErrThere}, {[]api.Series{{}, {L: []api.Label{}}}, 0, api.ErrThere}, {[]api.Series{{}, {}, noName}, 0, api.ErrForm}, {[]api.Series{{}, {}, tooLong}, 0, api.ErrLarge}, {append(many(100), many(1)...), 0, api.ErrThere}, {slices.Concat(many(50)[49:], many(50)), 0, api.ErrThere}, {[]api.Series{series(labels("a", "x"), 0, 1), series(labels("b", "x"), 0, 1), series(labels("a", "x"), 1, 1)}, 0, api.ErrThere},
		{make([]api.Series, 2), math.MaxInt64, api.ErrThere}, {[]api.Series{noName}, math.MaxInt64, api.ErrForm}, {[]api.Series{unordered}, math.MinInt64, api.ErrOrder},
		{nil, api.MaxTime + 1, api.ErrRange}, {nil, -api.MaxTime - 1, api.ErrRange}, {few(), math.MaxInt64, api.ErrRange}, {few(), math.MinInt64, api.ErrRange},
	}
	for i, c := range l {
		for _, s := range []string{"5", "{}[1000]", "sum(1)", "(1 + {}[9])"} {
			if rows, e := Eval(asked(t, s), c.all, c.now); rows != nil || e != c.want {
				t.Errorf("%d: Eval of %s is %v, with error %d, want %d", i, s, rows, e, c.want)
			}
		}
	}
	// `{a=""}` fits as no labels fit, but they are not the same
	checkEval(t, asked(t, "{}[9]"), []api.Series{series(nil, 0, 1), series(labels("a", ""), 0, 2), series(labels("a", "", "b", ""), 0, 3)}, 0, `{a="",b=""} 3`, `{a=""} 2`, "{} 1")
}

func TestP1AllAnswerWhateverTheyAreGiven(t *testing.T) {
	var all []api.Series
	for i := range 3 {
		all = append(all, few()[i])
	}
	wrong := []api.Series{{L: labels("", "")}, {S: samples(math.MaxInt64, 0, math.MinInt64, 0)}}
	list := []api.Expr{endless(), deep(1000000, num(1)), {Kind: api.XSum, By: make([]string, 100000), X: []api.Expr{num(1)}}, {Kind: api.XSel, W: 1, M: make([]api.Match, 100000)}}
	for i := range 3000 {
		list = append(list, spoiltOne(&source{uint64(300*i + 7)}, i%6))
	}
	for _, x := range list {
		want := modelCheck(x)
		if want != api.OK {
			checkFails(t, x, want)
			continue
		}
		if s, e := Text(x); s != modelText(x) || e != api.OK {
			t.Errorf("Text of %s is %q, with error %d", short(x), s, e)
		}
		for _, now := range []int64{0, 100, math.MinInt64, math.MaxInt64} {
			rows, e := Eval(x, all, now)
			if far := now != 0 && now != 100; far && (rows != nil || e != api.ErrRange) || !far && e != api.OK {
				t.Errorf("Eval of %s at %d is %v, with error %d", short(x), now, rows, e)
			}
			if rows, e := Eval(x, wrong, now); rows != nil || e != api.ErrForm {
				t.Errorf("Eval of %s is %v, with error %d", short(x), rows, e)
			}
		}
	}
	for i := range 3000 {
		s := &source{uint64(100 * i)}
		var b []byte
		for range s.below(60) {
			b = append(b, oneOf(s, "sum", "max", "(", "(1 + ", ")", "{", "}", "[5]", "\"", "\\", " by ", "a", "=", "\x00", "\xff", "-9", " * ", "{}[1]")...)
		}
		checkRead(t, string(b))
	}
	checkReadFails(t, strings.Repeat("(", 100000000), api.ErrLarge)
}

// spans are where the lists and the texts of a value stand, the room behind a list included.
func spans(v reflect.Value) [][2]uintptr {
	var l [][2]uintptr
	add := func(at, n uintptr) {
		if n > 0 {
			l = append(l, [2]uintptr{at, at + n})
		}
	}
	switch v.Kind() {
	case reflect.String:
		add(uintptr(unsafe.Pointer(unsafe.StringData(v.String()))), uintptr(v.Len()))
	case reflect.Slice:
		add(v.Pointer(), uintptr(v.Cap())*v.Type().Elem().Size())
		for i := range v.Len() {
			l = append(l, spans(v.Index(i))...)
		}
	case reflect.Struct:
		for i := range v.NumField() {
			l = append(l, spans(v.Field(i))...)
		}
	}
	return l
}

func checkApart(t *testing.T, what string, values ...any) {
	t.Helper()
	var l [][2]uintptr
	for _, v := range values {
		l = append(l, spans(reflect.ValueOf(v))...)
	}
	slices.SortFunc(l, func(a, b [2]uintptr) int { return slices.Compare(a[:], b[:]) })
	for i := 1; i < len(l); i++ {
		if l[i][0] < l[i-1][1] {
			t.Errorf("%s: memory is shared", what)
			return
		}
	}
}

func TestP2AnswersAreNewMemory(t *testing.T) {
	long := func(s string) string { return strings.Clone("value " + s) }
	all := []api.Series{
		series([]api.Label{{Name: strings.Clone("name_a"), Value: long("x")}, {Name: strings.Clone("name_b"), Value: long("1")}}, 0, 1),
		series([]api.Label{{Name: strings.Clone("name_a"), Value: long("x")}, {Name: strings.Clone("name_b"), Value: long("2")}}, 0, 2),
		series([]api.Label{{Name: strings.Clone("name_a"), Value: long("y")}}, 0, 3),
	}
	for _, s := range []string{
		`{name_a!="value y",name_a=~"val"}[10]`, "sum by name_a,name_b({}[10])", "max by name_a({}[10])", "count by name_b({}[10])", "({}[10] + 12)", "(12 - {}[10])", "({}[10] * {}[10])", "(max by name_a({}[10]) * sum by name_a({}[10]))",
	} {
		s = strings.Clone(s)
		x, again := asked(t, s), asked(t, s)
		told, e := Text(x)
		toldAgain, _ := Text(x)
		rows, e2 := Eval(x, all, 0)
		rowsAgain, _ := Eval(x, all, 0)
		if e != api.OK || e2 != api.OK || told != s || len(rows) == 0 {
			t.Fatalf("%q, error %d, %v, error %d", told, e, rows, e2)
		}
		checkApart(t, s, s, x, again, told, toldAgain, all, rows, rowsAgain)
	}
}

// roomy is x with its lists told anew, with room behind them in which something stands.
func roomy(x api.Expr) api.Expr {
	x.M = append(slices.Clone(x.M), match(9, "room", "behind"), match(8, "room", "behind"))[:len(x.M)]
	x.By = append(slices.Clone(x.By), "room", "behind")[:len(x.By)]
	var parts []api.Expr
	for _, part := range x.X {
		parts = append(parts, roomy(part))
	}
	x.X = append(parts, api.Expr{Kind: 99}, api.Expr{Kind: 98})[:len(parts)]
	return x
}

// whole is a copy of x with the room behind its lists.
func whole(x api.Expr) api.Expr {
	x.M = slices.Clone(x.M[:cap(x.M)])
	x.By = slices.Clone(x.By[:cap(x.By)])
	var parts []api.Expr
	for _, part := range x.X[:cap(x.X)] {
		parts = append(parts, whole(part))
	}
	x.X = parts
	return x
}

// spoil changes all that x has in its lists.
func spoil(x api.Expr) {
	for i := range x.X {
		spoil(x.X[i])
		x.X[i].Kind = 77
	}
	clear(x.M[:cap(x.M)])
	clear(x.By[:cap(x.By)])
	clear(x.X[:cap(x.X)])
}

func roomySeries(all []api.Series) []api.Series {
	var l []api.Series
	for _, s := range all {
		l = append(l, api.Series{
			L: append(slices.Clone(s.L), labels("room", "behind", "the", "list")...)[:len(s.L)],
			S: append(slices.Clone(s.S), samples(7, 7, 6, 6)...)[:len(s.S)],
		})
	}
	return append(l, series(labels("room", "behind"), 5, 5))[:len(l)]
}

func wholeSeries(all []api.Series) []api.Series {
	var l []api.Series
	for _, s := range all[:cap(all)] {
		l = append(l, api.Series{L: slices.Clone(s.L[:cap(s.L)]), S: slices.Clone(s.S[:cap(s.S)])})
	}
	return l
}

func TestP2NothingIsChangedOrShared(t *testing.T) {
	for i, form := range forms() {
		x, all := roomy(form), roomySeries(some(&source{uint64(i)}, 12))
		keptX, keptAll := whole(x), wholeSeries(all)
		Check(x)
		s, _ := Text(x)
		rows, _ := Eval(x, all, 85)
		first := texts(rows)
		for _, r := range rows {
			clear(r.L[:cap(r.L)])
		}
		clear(rows[:cap(rows)])
		if y, e := Read(s); e == api.OK {
			spoil(y)
		}
		rows, _ = Eval(x, all, 85)
		if !reflect.DeepEqual(whole(x), keptX) || !reflect.DeepEqual(wholeSeries(all), keptAll) {
			t.Fatalf("what was handed in is changed: %+v, %+v", x, all)
		}
		spoil(x)
		for _, one := range all {
			clear(one.L[:cap(one.L)])
			clear(one.S[:cap(one.S)])
		}
		clear(all[:cap(all)])
		if !slices.Equal(texts(rows), first) || s != modelText(form) {
			t.Fatalf("%q, %q, want %q, %q", texts(rows), s, first, modelText(form))
		}
		if len(s) <= api.MaxText {
			if y, e := Read(s); !same(y, form) || e != api.OK {
				t.Fatalf("Read(%q) is %+v, with error %d", s, y, e)
			}
		}
	}
}

// A map is gone through in another order each time.
func TestP2TheSameIsAnsweredEachTime(t *testing.T) {
	all := some(&source{5}, 150)
	x := asked(t, "(sum by a,b(({}[1000] - {a!=\"x\"}[1000])) + max by b({}[90]))")
	want := modelEval(x, all, 85)
	if len(want) == 0 {
		t.Error("there are no rows")
	}
	for range 50 {
		checkEval(t, x, all, 85, want...)
	}
}
