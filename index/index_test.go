package index

import (
	"math"
	"slices"
	"strings"
	"testing"
	"unsafe"

	"gaugehouse/api"
	"gaugehouse/label"
)

// stir makes unlike numbers from like ones, the same in each run.
func stir(u uint64) uint64 {
	u = (u + 1) * 0x9e3779b97f4a7c15
	u = (u ^ u>>29) * 0xbf58476d1ce4e5b9
	return u ^ u>>32
}

// labels are made of names and values, one behind the other.
func labels(s ...string) []api.Label {
	var l []api.Label
	for i := 0; i < len(s); i += 2 {
		l = append(l, api.Label{Name: s[i], Value: s[i+1]})
	}
	return l
}

func match(kind int, name, value string) api.Match {
	return api.Match{Kind: kind, Name: name, Value: value}
}

func matches(m ...api.Match) []api.Match { return m }

// rising are as many labels as asked for, at most 26, with rising names.
func rising(n int) []api.Label {
	var l []api.Label
	for i := range n {
		l = append(l, api.Label{Name: string(rune('a' + i)), Value: "x"})
	}
	return l
}

// few are labels of which some have no name, some the empty value, and two are the same.
func few() [][]api.Label {
	return [][]api.Label{
		labels("a", "x"), labels("a", "xy", "b", "1"), labels("b", "1"), nil, labels("a", "x", "b", "2"), labels("a", ""), labels("a", "yx"), labels("a", "x"),
	}
}

// someValues are told apart by few bytes, so that many of them begin with, or have, others.
func someValues() []string {
	return []string{"", "a", "b", "ab", "ba", "aab", "aba", "\n", "\"", "\xff", "a\x00", "A", strings.Repeat("a", 40)}
}

// some are n elements of at most four labels each, out of someValues; some of them have no labels.
func some(seed, n int) [][]api.Label {
	var all [][]api.Label
	for i := range n {
		u := stir(uint64(1000*seed + i))
		var l []api.Label
		for k, name := range []string{"_", "a", "a_1", "b"} {
			if u>>k&1 == 1 {
				l = append(l, api.Label{Name: name, Value: someValues()[stir(u+uint64(k))>>20%uint64(len(someValues()))]})
			}
		}
		all = append(all, l)
	}
	return all
}

// modelFind looks through all.
func modelFind(all [][]api.Label, m []api.Match) []int {
	var found []int
	for i, l := range all {
		if ok, _ := label.Fits(l, m); ok {
			found = append(found, i)
		}
	}
	return found
}

// modelValues are made by putting each value at its place.
func modelValues(all [][]api.Label, name string) []string {
	var values []string
	for _, l := range all {
		for _, x := range l {
			at := 0
			for at < len(values) && values[at] < x.Value {
				at++
			}
			if x.Name == name && (at == len(values) || values[at] != x.Value) {
				values = slices.Insert(values, at, x.Value)
			}
		}
	}
	return values
}

// modelSet asks of each number of both lists, by steps from the least one on.
func modelSet(a, b []int, both bool) []int {
	var l []int
	for _, n := range slices.Concat(a, b) {
		in, too := slices.Contains(a, n), slices.Contains(b, n)
		if (in && too || !both) && !slices.Contains(l, n) {
			at := 0
			for at < len(l) && l[at] < n {
				at++
			}
			l = slices.Insert(l, at, n)
		}
	}
	return l
}

func modelNot(n int, a []int) []int {
	var l []int
	for i := 0; i < n; i++ {
		if !slices.Contains(a, i) {
			l = append(l, i)
		}
	}
	return l
}

func newIndex(t *testing.T, all [][]api.Label) *Index {
	t.Helper()
	x, e := New(all)
	if x == nil || e != api.OK {
		t.Fatalf("New of %d: %v, %d", len(all), x, e)
	}
	return x
}

func checkFind(t *testing.T, x *Index, m []api.Match, want []int) {
	t.Helper()
	if found, e := x.Find(m); !slices.Equal(found, want) || e != api.OK {
		t.Errorf("Find(%v) = %v, %d, want %v", m, found, e, want)
	}
}

func checkNewFails(t *testing.T, all [][]api.Label, want api.Errno) {
	t.Helper()
	if x, e := New(all); x != nil || e != want {
		t.Errorf("New of %d: %v, %d, want %d", len(all), x, e, want)
	}
}

func checkSets(t *testing.T, a, b []int) {
	t.Helper()
	if l, want := And(a, b), modelSet(a, b, true); !slices.Equal(l, want) {
		t.Errorf("And(%v, %v) = %v, want %v", a, b, l, want)
	}
	if l, want := Or(a, b), modelSet(a, b, false); !slices.Equal(l, want) {
		t.Errorf("Or(%v, %v) = %v, want %v", a, b, l, want)
	}
}

func checkNot(t *testing.T, n int, a []int) {
	t.Helper()
	if l, e := Not(n, a); !slices.Equal(l, modelNot(n, a)) || e != api.OK {
		t.Errorf("Not(%d, %v) = %v, %d", n, a, l, e)
	}
}

// sharesTexts tells whether two texts have a byte of memory together.
func sharesTexts(a, b string) bool {
	if a == "" || b == "" {
		return false
	}
	p, q := uintptr(unsafe.Pointer(unsafe.StringData(a))), uintptr(unsafe.Pointer(unsafe.StringData(b)))
	return p < q+uintptr(len(b)) && q < p+uintptr(len(a))
}

// shortLists are all lists of at most n numbers out of some, in any order, with some of them twice.
func shortLists(n int) [][]int {
	all := [][]int{nil}
	for from := 0; n > 0; n-- {
		end := len(all)
		for ; from < end; from++ {
			for _, number := range []int{-1, 0, 1, 2, 3} {
				all = append(all, append(slices.Clone(all[from]), number))
			}
		}
	}
	return all
}

// longList has n numbers, about half of them more than once.
func longList(seed, n int) []int {
	var l []int
	for i := range n {
		l = append(l, int(stir(uint64(seed+i))>>20)%n-n/4)
	}
	return l
}

func TestP70NewTakesLabelsUpToItsBound(t *testing.T) {
	for _, all := range [][][]api.Label{nil, {}, {nil}, {{}}, make([][]api.Label, 200), some(1, 200), few(), {rising(10)}, slices.Repeat([][]api.Label{rising(10)}, 200)} {
		x := newIndex(t, all)
		want := []int{}
		for i := range all {
			want = append(want, i)
		}
		checkFind(t, x, nil, want)
		checkFind(t, x, []api.Match{}, want)
	}
	checkNewFails(t, make([][]api.Label, 201), api.ErrLarge)
	checkNewFails(t, make([][]api.Label, 100000), api.ErrLarge)
}

func TestP70NewTellsTheFirstError(t *testing.T) {
	long := strings.Repeat("v", 41)
	form, order, large := labels("A", ""), labels("b", "", "a", ""), labels("a", long)
	for _, c := range []struct {
		all  [][]api.Label
		want api.Errno
	}{
		{[][]api.Label{form}, api.ErrForm}, {[][]api.Label{order}, api.ErrOrder}, {[][]api.Label{large}, api.ErrLarge}, {[][]api.Label{rising(11)}, api.ErrLarge},
		{[][]api.Label{labels("a", "", "a", "")}, api.ErrOrder}, {[][]api.Label{labels("", "x")}, api.ErrForm}, {[][]api.Label{labels("a", "x", "0", "")}, api.ErrForm},
		{[][]api.Label{form, order, large}, api.ErrForm}, {[][]api.Label{order, form, large}, api.ErrOrder}, {[][]api.Label{large, order, form}, api.ErrLarge},
		{[][]api.Label{nil, labels("a", "x"), order, form}, api.ErrOrder}, {[][]api.Label{rising(11), form}, api.ErrLarge}, {[][]api.Label{form, rising(11)}, api.ErrForm},
		{append(some(2, 199), form), api.ErrForm}, {append(some(2, 199), order), api.ErrOrder},
		// that there are too many comes ahead of all
		{append(some(2, 200), order), api.ErrLarge}, {slices.Concat([][]api.Label{form}, some(2, 200)), api.ErrLarge}, {slices.Repeat([][]api.Label{order}, 201), api.ErrLarge},
	} {
		checkNewFails(t, c.all, c.want)
	}
}

func TestP70FindByTheKindOfOneMatch(t *testing.T) {
	x := newIndex(t, few())
	for _, c := range []struct {
		m    api.Match
		want []int
	}{
		{match(api.MIs, "a", "x"), []int{0, 4, 7}}, {match(api.MIs, "a", "xy"), []int{1}}, {match(api.MIs, "a", "y"), nil}, {match(api.MIs, "a", ""), []int{2, 3, 5}},
		{match(api.MIs, "b", "1"), []int{1, 2}}, {match(api.MIs, "q", "x"), nil}, {match(api.MIs, "q", ""), []int{0, 1, 2, 3, 4, 5, 6, 7}},
		{match(api.MNot, "a", "x"), []int{1, 2, 3, 5, 6}}, {match(api.MNot, "a", "y"), []int{0, 1, 2, 3, 4, 5, 6, 7}}, {match(api.MNot, "a", ""), []int{0, 1, 4, 6, 7}},
		{match(api.MNot, "q", "x"), []int{0, 1, 2, 3, 4, 5, 6, 7}}, {match(api.MNot, "q", ""), nil},
		{match(api.MFront, "a", "x"), []int{0, 1, 4, 7}}, {match(api.MFront, "a", "y"), []int{6}}, {match(api.MFront, "a", "xyz"), nil},
		{match(api.MFront, "a", ""), []int{0, 1, 2, 3, 4, 5, 6, 7}}, {match(api.MFront, "q", ""), []int{0, 1, 2, 3, 4, 5, 6, 7}}, {match(api.MFront, "q", "x"), nil},
		{match(api.MHas, "a", "x"), []int{0, 1, 4, 6, 7}}, {match(api.MHas, "a", "y"), []int{1, 6}}, {match(api.MHas, "a", "z"), nil},
		{match(api.MHas, "a", ""), []int{0, 1, 2, 3, 4, 5, 6, 7}}, {match(api.MHas, "q", ""), []int{0, 1, 2, 3, 4, 5, 6, 7}}, {match(api.MHas, "q", "x"), nil},
	} {
		checkFind(t, x, matches(c.m), c.want)
	}
}

func TestP70FindFitsAllMatches(t *testing.T) {
	x := newIndex(t, few())
	isX, notX := match(api.MIs, "a", "x"), match(api.MNot, "a", "x")
	for _, c := range []struct {
		m    []api.Match
		want []int
	}{
		{matches(isX, match(api.MIs, "b", "2")), []int{4}}, {matches(isX, match(api.MIs, "b", "")), []int{0, 7}}, {matches(isX, notX), nil}, {matches(notX, isX), nil},
		{matches(isX, match(api.MIs, "a", "xy")), nil}, {matches(match(api.MFront, "a", "x"), match(api.MHas, "a", "y")), []int{1}},
		{matches(notX, match(api.MNot, "b", "1")), []int{3, 5, 6}}, {slices.Repeat(matches(isX), 10), []int{0, 4, 7}}, {append(slices.Repeat(matches(isX), 9), notX), nil},
		{matches(match(api.MHas, "b", ""), match(api.MIs, "q", ""), notX), []int{1, 2, 3, 5, 6}},
	} {
		checkFind(t, x, c.m, c.want)
	}
}

func TestP70FindIsWhatFitsOneByOne(t *testing.T) {
	for seed := range 4 {
		all := some(seed, []int{200, 37, 1, 0}[seed])
		x := newIndex(t, all)
		last := match(api.MHas, "a", "b")
		for kind := api.MIs; kind <= api.MHas; kind++ {
			for _, name := range []string{"_", "a", "a_1", "b", "q"} {
				for _, value := range someValues() {
					m := match(kind, name, value)
					checkFind(t, x, matches(m), modelFind(all, matches(m)))
					checkFind(t, x, matches(m, last), modelFind(all, matches(m, last)))
					checkFind(t, x, matches(last, m, m), modelFind(all, matches(last, m, m)))
					last = m
				}
			}
		}
	}
}

func TestP70FindTellsTheFirstError(t *testing.T) {
	long := strings.Repeat("v", 41)
	fit, unfit := match(api.MIs, "q", ""), match(api.MNot, "q", "")
	for _, all := range [][][]api.Label{nil, {nil}, few(), some(3, 200)} {
		x := newIndex(t, all)
		for i, c := range []struct {
			m    []api.Match
			want api.Errno
		}{
			{slices.Repeat(matches(fit), 11), api.ErrLarge}, {make([]api.Match, 11), api.ErrLarge}, {make([]api.Match, 10), api.ErrArg},
			{matches(match(0, "a", "x")), api.ErrArg}, {matches(match(5, "a", "x")), api.ErrArg}, {matches(match(-1, "a", "x")), api.ErrArg},
			{matches(match(api.MIs, "A", "x")), api.ErrForm}, {matches(match(api.MNot, "", "x")), api.ErrForm}, {matches(match(api.MHas, strings.Repeat("a", 21), "")), api.ErrForm},
			{matches(match(api.MIs, "a", long)), api.ErrLarge}, {matches(match(api.MFront, "q", long)), api.ErrLarge},
			{matches(match(0, "A", long)), api.ErrArg}, {matches(match(api.MIs, "A", long)), api.ErrForm},
			{matches(match(api.MIs, "a", long), match(0, "a", "")), api.ErrLarge}, {matches(match(api.MIs, "A", ""), match(0, "a", "")), api.ErrForm},
			// a match that nothing fits hides no error behind it
			{matches(unfit, match(0, "a", "")), api.ErrArg}, {matches(unfit, fit, match(api.MIs, "0", "")), api.ErrForm}, {matches(unfit, match(api.MIs, "a", long)), api.ErrLarge},
		} {
			if found, e := x.Find(c.m); found != nil || e != c.want {
				t.Errorf("%d: Find = %v, %d, want %d", i, found, e, c.want)
			}
		}
		// an error leaves the index as it was
		checkFind(t, x, matches(fit), modelFind(all, nil))
	}
}

func TestP70ValuesAreEachOnceRising(t *testing.T) {
	x := newIndex(t, append(few(), labels("a", "X", "b", "10"), labels("a", "\xff", "b", "é"), labels("a", "\x00")))
	for name, want := range map[string][]string{
		"a": {"", "\x00", "X", "x", "xy", "yx", "\xff"}, "b": {"1", "10", "2", "é"}, "q": nil, "": nil, "A": nil, "x": nil, "aa": nil,
		strings.Repeat("a", 1<<20): nil,
	} {
		if values := x.Values(name); !slices.Equal(values, want) {
			t.Errorf("Values(%.20q) = %q, want %q", name, values, want)
		}
	}
	for seed := range 5 {
		all := some(10+seed, 50*seed)
		x := newIndex(t, all)
		for _, name := range []string{"_", "a", "a_1", "b", "q"} {
			if values, want := x.Values(name), modelValues(all, name); !slices.Equal(values, want) {
				t.Errorf("Values(%q) = %q, want %q", name, values, want)
			}
		}
	}
}

func TestP70ValuesOfNoLabelsAreNone(t *testing.T) {
	for _, all := range [][][]api.Label{nil, {nil}, {labels("b", "x")}} {
		if values := newIndex(t, all).Values("a"); len(values) > 0 {
			t.Errorf("%q", values)
		}
	}
	// who has the name with the empty value has one
	if values := newIndex(t, [][]api.Label{labels("a", ""), nil}).Values("a"); !slices.Equal(values, []string{""}) {
		t.Errorf("%q", values)
	}
}

func TestP71AndOrOfFew(t *testing.T) {
	for i, c := range []struct{ a, b, and, or []int }{
		{nil, nil, nil, nil}, {nil, []int{}, nil, nil}, {[]int{1}, nil, nil, []int{1}}, {nil, []int{2, 1, 2}, nil, []int{1, 2}}, {[]int{1}, []int{1}, []int{1}, []int{1}},
		{[]int{5, 1, 3, 1}, []int{3, 9, 1, -2}, []int{1, 3}, []int{-2, 1, 3, 5, 9}}, {[]int{2, 2, 2}, []int{2, 2}, []int{2}, []int{2}}, {[]int{1, 2}, []int{3, 4}, nil, []int{1, 2, 3, 4}},
		{[]int{math.MaxInt, math.MinInt, 0}, []int{math.MinInt, -1, math.MaxInt}, []int{math.MinInt, math.MaxInt}, []int{math.MinInt, -1, 0, math.MaxInt}},
	} {
		if l := And(c.a, c.b); !slices.Equal(l, c.and) {
			t.Errorf("%d: And = %v", i, l)
		}
		if l := Or(c.a, c.b); !slices.Equal(l, c.or) {
			t.Errorf("%d: Or = %v", i, l)
		}
	}
}

func TestP71SetsAreTheModel(t *testing.T) {
	lists := shortLists(3)
	for _, a := range lists {
		for _, b := range lists {
			checkSets(t, a, b)
		}
		for n := range 5 {
			checkNot(t, n, a)
		}
	}
	for seed := range 20 {
		a, b := longList(100*seed, 10*seed), longList(100*seed+50, 7*seed)
		checkSets(t, a, b)
		checkNot(t, 10*seed, a)
	}
}

func TestP71NotHasItsBounds(t *testing.T) {
	for _, n := range []int{-1, 1001, 1002, math.MaxInt, math.MinInt} {
		for _, a := range [][]int{nil, {0}, {n}} {
			if l, e := Not(n, a); l != nil || e != api.ErrArg {
				t.Errorf("Not(%d) = %d numbers, %d", n, len(l), e)
			}
		}
	}
	for _, n := range []int{0, 1, 2, 999, 1000} {
		for _, a := range [][]int{nil, {}, {0}, {n - 1}, {n}, {n + 1}, {-1}, {math.MaxInt, math.MinInt, 0, 0}, longList(n, 2000)} {
			checkNot(t, n, a)
		}
	}
}

func TestP71InNoneOfTwoIsInNeither(t *testing.T) {
	for seed := range 20 {
		a, b := longList(seed, 60), longList(seed+500, 60)
		neither, e := Not(50, Or(a, b))
		x, _ := Not(50, a)
		y, _ := Not(50, b)
		if e != api.OK || !slices.Equal(neither, And(x, y)) {
			t.Errorf("%d: %v and %v", seed, neither, And(x, y))
		}
		notBoth, _ := Not(50, And(a, b))
		if !slices.Equal(notBoth, Or(x, y)) {
			t.Errorf("%d: %v and %v", seed, notBoth, Or(x, y))
		}
	}
}

func TestP1LongListsHaveAnAnswer(t *testing.T) {
	const long = 1 << 20
	down := make([]int, long)
	for i := range down {
		down[i] = long - i
	}
	same := make([]int, long)
	if l := And(down, same); len(l) > 0 {
		t.Errorf("And: %d numbers", len(l))
	}
	if l := Or(down, same); len(l) != long+1 || !slices.IsSorted(l) {
		t.Errorf("Or: %d numbers", len(l))
	}
	if l, e := Not(1000, down); !slices.Equal(l, []int{0}) || e != api.OK {
		t.Errorf("Not: %v, %d", l, e)
	}
}

func TestP2NothingHandedInIsChanged(t *testing.T) {
	room := [][]api.Label{labels("b", "y", "c", "z", "room", "behind"), nil, labels("a", "x"), labels("room", "behind")}
	before := [][]api.Label{slices.Clone(room[0]), nil, slices.Clone(room[2]), slices.Clone(room[3])}
	room[0] = room[0][:2]
	x := newIndex(t, room[:3])
	m := matches(match(api.MNot, "b", "x"), match(api.MFront, "a", "x"), match(7, "room", "behind"))
	matchesBefore := slices.Clone(m)
	x.Find(m[:2])
	x.Find(m)
	if !slices.Equal(m, matchesBefore) {
		t.Errorf("%v", m)
	}
	room[0] = room[0][:3]
	for i := range before {
		if !slices.Equal(room[i], before[i]) {
			t.Errorf("%q was changed to %q", before[i], room[i])
		}
	}
	a, b := []int{5, 1, 3, 1, 90, 80}, []int{3, 9, 1, -2, 70, 60}
	And(a[:4], b[:4])
	Or(a[:4], b[:4])
	Or(a[:4], nil)
	And(a[:4], a[:4])
	Not(7, a[:4])
	if !slices.Equal(a, []int{5, 1, 3, 1, 90, 80}) || !slices.Equal(b, []int{3, 9, 1, -2, 70, 60}) {
		t.Errorf("%v, %v", a, b)
	}
}

func TestP2ALaterChangeDoesNotShow(t *testing.T) {
	all := few()
	x := newIndex(t, all)
	for _, l := range all {
		for i := range l {
			l[i] = api.Label{Name: "other", Value: "value"}
		}
	}
	clear(all)
	checkFind(t, x, matches(match(api.MIs, "a", "x")), []int{0, 4, 7})
	checkFind(t, x, matches(match(api.MIs, "other", "value")), nil)
	if values := x.Values("b"); !slices.Equal(values, []string{"1", "2"}) || len(x.Values("other")) > 0 {
		t.Errorf("%q", values)
	}
	// nor does an index that is made later
	newIndex(t, [][]api.Label{labels("a", "x")})
	checkFind(t, x, nil, []int{0, 1, 2, 3, 4, 5, 6, 7})
}

func TestP2AnswersAreTheCallersOwn(t *testing.T) {
	x := newIndex(t, few())
	for range 3 {
		for _, m := range [][]api.Match{
			nil, matches(match(api.MIs, "a", "x")), matches(match(api.MNot, "a", "x")), matches(match(api.MHas, "a", "x")), matches(match(api.MFront, "a", "x")), matches(match(api.MIs, "a", "")),
		} {
			checkFind(t, x, m, modelFind(few(), m))
			found, _ := x.Find(m)
			found = append(found[:cap(found)], -1)
			for i := range found {
				found[i] = -9
			}
		}
		values := x.Values("a")
		if !slices.Equal(values, []string{"", "x", "xy", "yx"}) {
			t.Errorf("%q", values)
		}
		clear(values[:cap(values)])
	}
	a := []int{1, 2, 3}
	for i, l := range [][]int{And(a, a), Or(a, nil), Or(nil, a), And(a, []int{3, 2, 1})} {
		if !slices.Equal(l, []int{1, 2, 3}) {
			t.Errorf("%d: %v", i, l)
		}
		clear(l[:cap(l)])
		if !slices.Equal(a, []int{1, 2, 3}) {
			t.Errorf("%d: %v", i, a)
		}
	}
}

func TestP2TextsShareNoMemory(t *testing.T) {
	whole := strings.Repeat("some value", 2)
	name, value := whole[:4], whole[5:15]
	all := [][]api.Label{labels(name, value), labels(name, "other value")}
	x := newIndex(t, all)
	first, again := x.Values(name), x.Values(name)
	if len(first) != 2 || len(again) != 2 {
		t.Fatal(first, again)
	}
	for i, v := range first {
		for _, w := range []string{whole, all[1][0].Value, again[0], again[1], first[1-i]} {
			if sharesTexts(v, w) {
				t.Errorf("%q shares its memory with %q", v, w)
			}
		}
	}
	for kept, values := range x.who {
		for v := range values {
			if sharesTexts(kept, whole) || sharesTexts(v, whole) || sharesTexts(v, first[0]) || sharesTexts(v, first[1]) {
				t.Errorf("%q or %q is kept, and is another's", kept, v)
			}
		}
	}
}

// A map is gone through in another order each time.
func TestP2TheSameIsAnsweredEachTime(t *testing.T) {
	all := some(7, 200)
	for range 30 {
		x := newIndex(t, all)
		m := matches(match(api.MHas, "a", "a"))
		checkFind(t, x, m, modelFind(all, m))
		if values := x.Values("b"); !slices.Equal(values, modelValues(all, "b")) {
			t.Errorf("%q", values)
		}
	}
}
