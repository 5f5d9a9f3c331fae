package rank

import (
	"math"
	"slices"
	"sort"
	"testing"

	"gaugehouse/api"
)

// stir makes unlike numbers from like ones, the same in each run.
func stir(u uint64) uint64 {
	u = (u + 1) * 0x9e3779b97f4a7c15
	u = (u ^ u>>29) * 0xbf58476d1ce4e5b9
	return u ^ u>>32
}

// model tells of a rank in another way: of each number by itself at which level it is, -1 for the Tail.
type model struct {
	k     int
	slack int64
	all   []place
}

type place struct {
	level int
	v     int64
}

// at are the numbers of one level, in order.
func (m *model) at(level int) []int64 {
	var l []int64
	for _, p := range m.all {
		if p.level == level {
			l = append(l, p.v)
		}
	}
	sort.Slice(l, func(i, j int) bool { return l[i] < l[j] })
	return l
}

func (m *model) put(level int, l []int64) {
	for _, v := range l {
		m.all = append(m.all, place{level, v})
	}
}

func (m *model) clear(level int) {
	m.all = slices.DeleteFunc(m.all, func(p place) bool { return p.level == level })
}

func (m *model) carry(level int, l []int64) {
	there := m.at(level)
	if there == nil {
		m.put(level, l)
		return
	}
	m.put(level, l)
	together := m.at(level)
	m.clear(level)
	var second []int64
	for nth, v := range together {
		if (nth+1)%2 == 0 {
			second = append(second, v)
		}
	}
	m.slack += 1 << level
	m.carry(level+1, second)
}

func (m *model) add(v int64) {
	m.put(-1, []int64{v})
	if tail := m.at(-1); len(tail) == m.k {
		m.clear(-1)
		m.carry(0, tail)
	}
}

func (m *model) merge(other *model) {
	m.slack += other.slack
	for level := range 64 {
		if l := other.at(level); l != nil {
			m.carry(level, l)
		}
	}
	for _, v := range other.at(-1) {
		m.add(v)
	}
}

// rank is the model as it is to be told.
func (m *model) rank() api.Rank {
	s := api.Rank{K: m.k, Tail: m.at(-1), Slack: m.slack}
	for _, p := range m.all {
		for len(s.Levels) <= p.level {
			s.Levels = append(s.Levels, nil)
		}
		if p.level < 0 {
			s.N++
		} else {
			s.N += int64(1) << p.level
		}
	}
	for level := range s.Levels {
		s.Levels[level] = m.at(level)
	}
	return s
}

// modelWeight adds up number by number.
func modelWeight(s api.Rank, x int64) int64 {
	w := int64(0)
	for _, v := range s.Tail {
		if v <= x {
			w++
		}
	}
	worth := int64(1)
	for _, l := range s.Levels {
		for _, v := range l {
			if v <= x {
				w += worth
			}
		}
		worth *= 2
	}
	return w
}

// modelQuery looks at each number that s has; r is from 1 to N.
func modelQuery(s api.Rank, r int64) int64 {
	least := int64(math.MaxInt64)
	for _, l := range append(slices.Clone(s.Levels), s.Tail) {
		for _, v := range l {
			if modelWeight(s, v) >= r {
				least = min(least, v)
			}
		}
	}
	return least
}

func same(a, b api.Rank) bool {
	return a.K == b.K && a.N == b.N && a.Slack == b.Slack && slices.Equal(a.Tail, b.Tail) && slices.EqualFunc(a.Levels, b.Levels, slices.Equal)
}

// none tells whether s is what an error leaves.
func none(s api.Rank) bool {
	return s.K == 0 && s.N == 0 && s.Slack == 0 && s.Tail == nil && s.Levels == nil
}

// copied is s in memory of its own.
func copied(s api.Rank) api.Rank {
	s.Tail = slices.Clone(s.Tail)
	s.Levels = slices.Clone(s.Levels)
	for i, l := range s.Levels {
		s.Levels[i] = slices.Clone(l)
	}
	return s
}

func merged(t *testing.T, a, b api.Rank) api.Rank {
	t.Helper()
	s, e := Merge(a, b)
	if e != api.OK || Check(s) != api.OK {
		t.Fatalf("Merge(%v, %v) = %v, %d", a, b, s, e)
	}
	return s
}

// of is the rank of these numbers, added one by one.
func of(t *testing.T, k int, numbers ...int64) api.Rank {
	t.Helper()
	s, e := Empty(k)
	for _, v := range numbers {
		if e != api.OK || Check(s) != api.OK {
			t.Fatal(k, v, s, e)
		}
		s, e = Add(s, v)
	}
	if e != api.OK || Check(s) != api.OK {
		t.Fatal(k, s, e)
	}
	return s
}

// full is a rank with a list at each of so many levels, with the numbers v, v + 1 and so on, and no Tail.
func full(k, levels int, v int64) api.Rank {
	s := api.Rank{K: k}
	for level := range levels {
		var l []int64
		for i := range k {
			l = append(l, v+int64(i))
		}
		s.Levels = append(s.Levels, l)
		s.N += int64(k) << level
	}
	return s
}

// only is a rank with one list, of twos, at this level.
func only(k, level int) api.Rank {
	s := api.Rank{K: k, Levels: make([][]int64, level+1), N: int64(k) << level}
	for range k {
		s.Levels[level] = append(s.Levels[level], 2)
	}
	return s
}

// tailed is s with this Tail.
func tailed(s api.Rank, tail ...int64) api.Rank {
	s.N += int64(len(tail) - len(s.Tail))
	s.Tail = tail
	return s
}

func slacked(s api.Rank, slack int64) api.Rank {
	s.Slack = slack
	return s
}

func counted(s api.Rank, n int64) api.Rank {
	s.N = n
	return s
}

// numbers are n numbers of some kind.
func numbers(seed, n int) []int64 {
	var l []int64
	for i := range n {
		u := stir(uint64(100000*seed + i))
		switch seed % 7 {
		case 0:
			l = append(l, int64(i))
		case 1:
			l = append(l, int64(-i))
		case 2:
			l = append(l, int64(u>>20%5))
		case 3:
			l = append(l, int64(u))
		case 4:
			l = append(l, int64(u>>30%1000)-500)
		case 5:
			l = append(l, []int64{math.MinInt64, math.MinInt64 + 1, -1, 0, 1, math.MaxInt64 - 1, math.MaxInt64}[u>>20%7])
		default:
			l = append(l, int64(u)>>(u>>8%64))
		}
	}
	return l
}

func ks() []int { return []int{2, 3, 4, 7, 8, 16, 33, 63, 64} }

// told is a rank, the model of it, and all the numbers that came.
type told struct {
	s   api.Rank
	m   *model
	all []int64
}

func added(t *testing.T, k int, l []int64) told {
	t.Helper()
	m := &model{k: k}
	for _, v := range l {
		m.add(v)
	}
	return told{of(t, k, l...), m, slices.Clone(l)}
}

// trees are ranks of K of which numbers were added and others merged, one into another.
func trees(t *testing.T, k int) []told {
	t.Helper()
	var out []told
	for seed := range 21 {
		one := added(t, k, numbers(seed, int(stir(uint64(seed))>>20)%(7*k)))
		for i := range seed % 5 {
			two := added(t, k, numbers(seed+3*i+1, int(stir(uint64(50*seed+i))>>20)%(11*k)))
			if i%2 == 1 {
				one, two = two, one
			}
			one.s = merged(t, one.s, two.s)
			one.m.merge(two.m)
			one.all = append(one.all, two.all...)
			// and on with single ones
			for _, v := range numbers(seed+i, i*k/2) {
				one.s, _ = Add(one.s, v)
				one.m.add(v)
				one.all = append(one.all, v)
			}
		}
		out = append(out, one)
	}
	return out
}

// forms are ranks that Check takes, also such as no numbers would have made.
func forms() []api.Rank {
	const low, high = math.MinInt64, math.MaxInt64
	return []api.Rank{
		{K: 2}, {K: 64}, {K: 2, Tail: []int64{}, Levels: [][]int64{}}, {K: 2, Slack: 1}, {K: 64, Slack: api.MaxTime},
		{K: 2, Tail: []int64{5}, N: 1}, {K: 3, Tail: []int64{4, 4}, N: 2}, {K: 3, Tail: []int64{low, high}, N: 2},
		tailed(api.Rank{K: 64}, numbers(0, 63)...), tailed(api.Rank{K: 64}, make([]int64, 63)...),
		{K: 2, Levels: [][]int64{{1, 1}}, N: 2}, {K: 2, Levels: [][]int64{{low, high}}, N: 2}, {K: 2, Levels: [][]int64{nil, {1, 2}}, N: 4},
		{K: 2, Levels: [][]int64{{}, {1, 2}}, N: 4}, {K: 2, Levels: [][]int64{{8, 9}, nil, {}, {1, 2}}, N: 18}, {K: 3, Tail: []int64{7}, Levels: [][]int64{{1, 9, 9}}, N: 4},
		full(2, 20, 0), full(64, 20, -30), tailed(full(64, 20, 5), numbers(0, 63)...), only(2, 0), only(2, 19), only(64, 19), only(37, 11),
		slacked(only(5, 3), api.MaxTime), slacked(tailed(only(2, 19), -6), 77), slacked(tailed(full(3, 20, 1), 4, 5), api.MaxTime),
	}
}

// faults are ranks that Check refuses.
func faults() []api.Rank {
	unordered := full(64, 20, 0)
	unordered.Levels[19][63] = 0
	short, long := full(3, 4, 0), full(3, 4, 0)
	short.Levels[2] = short.Levels[2][:2]
	long.Levels[2] = append(long.Levels[2], 9)
	loose, bare, late := full(2, 3, 0), full(2, 3, 0), full(2, 4, 0)
	loose.Levels, bare.Levels = append(loose.Levels, nil), append(bare.Levels, []int64{})
	late.Levels[0] = []int64{1, 0}
	far := only(2, 20)
	far.N = 2 << 20
	all := []api.Rank{
		{}, {K: 1}, {K: 0, Tail: nil, N: 0}, {K: -1}, {K: -2}, {K: 65}, {K: 128}, {K: math.MinInt}, {K: math.MaxInt}, {K: 1 << 32}, {K: 1<<32 + 2},
		tailed(api.Rank{K: 65}, 1, 2), tailed(api.Rank{K: 1}), {K: 1, Levels: [][]int64{{5}}, N: 1},
		tailed(api.Rank{K: 2}, 1, 2), tailed(api.Rank{K: 2}, 1, 2, 3), tailed(api.Rank{K: 64}, numbers(0, 64)...), tailed(api.Rank{K: 64}, numbers(0, 5000)...),
		tailed(api.Rank{K: 3}, 2, 1), tailed(api.Rank{K: 9}, 1, 2, 3, 2), tailed(api.Rank{K: 3}, math.MaxInt64, math.MinInt64), tailed(api.Rank{K: 64}, numbers(1, 63)...),
		{K: 2, Levels: [][]int64{nil}}, {K: 2, Levels: [][]int64{{}}}, loose, bare, {K: 2, Levels: make([][]int64, 20)}, {K: 2, Levels: make([][]int64, 21)},
		{K: 2, Levels: [][]int64{{1}}, N: 1}, {K: 2, Levels: [][]int64{{1}}, N: 2}, {K: 2, Levels: [][]int64{{1, 2, 3}}, N: 3}, {K: 2, Levels: [][]int64{{1, 2, 3}}, N: 2},
		short, long, counted(short, short.N-4), counted(long, long.N+4), unordered, late, {K: 2, Levels: [][]int64{{2, 1}}, N: 2}, {K: 2, Levels: [][]int64{{math.MaxInt64, math.MinInt64}}, N: 2},
		full(2, 21, 0), full(2, 40, 0), full(2, 70, 0), far, only(2, 62), only(64, 63), counted(only(2, 63), 0), counted(only(2, 64), 0), counted(full(2, 100, 0), -2),
		slacked(full(2, 3, 0), -1), slacked(full(2, 3, 0), math.MinInt64), slacked(full(2, 3, 0), api.MaxTime+1), slacked(full(2, 3, 0), math.MaxInt64), {K: 2, Slack: -1}, {K: 2, Slack: api.MaxTime + 1},
	}
	for _, s := range forms() {
		all = append(all, counted(s, s.N+1), counted(s, s.N-1), counted(s, -1-s.N), counted(s, s.N+1<<32), counted(s, math.MaxInt64), counted(s, math.MinInt64))
	}
	return all
}

func checkAddFails(t *testing.T, s api.Rank, v int64, want api.Errno) {
	t.Helper()
	if a, e := Add(s, v); !none(a) || e != want {
		t.Errorf("Add(%v, %d) = %v, %d, want %d", s, v, a, e, want)
	}
}

func checkMergeFails(t *testing.T, a, b api.Rank, want api.Errno) {
	t.Helper()
	if s, e := Merge(a, b); !none(s) || e != want {
		t.Errorf("Merge(%v, %v) = %v, %d, want %d", a, b, s, e, want)
	}
}

func checkWeight(t *testing.T, s api.Rank, x, want int64) {
	t.Helper()
	if w, e := Weight(s, x); w != want || e != api.OK {
		t.Errorf("Weight(%v, %d) = %d, %d, want %d", s, x, w, e, want)
	}
}

func checkQuery(t *testing.T, s api.Rank, r, want int64) {
	t.Helper()
	if v, e := Query(s, r); v != want || e != api.OK {
		t.Errorf("Query(%v, %d) = %d, %d, want %d", s, r, v, e, want)
	}
}

func checkQueryFails(t *testing.T, s api.Rank, r int64, want api.Errno) {
	t.Helper()
	if v, e := Query(s, r); v != 0 || e != want {
		t.Errorf("Query(%v, %d) = %d, %d, want %d", s, r, v, e, want)
	}
}

func checkSame(t *testing.T, s, want api.Rank) {
	t.Helper()
	if !same(s, want) {
		t.Errorf("%v, want %v", s, want)
	}
}

func TestP100EmptyTellsOfNoNumbers(t *testing.T) {
	for k := range 200 {
		s, e := Empty(k)
		if 2 <= k && k <= 64 {
			if e != api.OK || !same(s, api.Rank{K: k}) || Check(s) != api.OK {
				t.Error(k, s, e)
			}
		} else if e != api.ErrArg || !none(s) {
			t.Error(k, s, e)
		}
	}
	for _, k := range []int{math.MinInt, -64, -2, -1, 1 << 32, 1<<32 + 2, math.MaxInt} {
		if s, e := Empty(k); e != api.ErrArg || !none(s) {
			t.Error(k, s, e)
		}
	}
}

func TestP100CheckTakesRanks(t *testing.T) {
	for i, s := range forms() {
		if e := Check(s); e != api.OK {
			t.Errorf("%d: %v: %d", i, s, e)
		}
	}
}

func TestP100CheckRefusesWhatIsNone(t *testing.T) {
	for i, s := range faults() {
		if e := Check(s); e != api.ErrForm {
			t.Errorf("%d: %v: %d", i, s, e)
		}
	}
}

// What is no rank is told ahead of all else.
func TestP100WhatIsNoRankIsRefusedByAll(t *testing.T) {
	for _, s := range faults() {
		for _, v := range []int64{math.MinInt64, 0, math.MaxInt64} {
			checkAddFails(t, s, v, api.ErrForm)
			if w, e := Weight(s, v); w != 0 || e != api.ErrForm {
				t.Errorf("Weight(%v, %d) = %d, %d", s, v, w, e)
			}
			for _, r := range []int64{v, 1, s.N, s.N + 1} {
				checkQueryFails(t, s, r, api.ErrForm)
			}
		}
		for _, other := range []api.Rank{{K: 2}, {K: 3}, {K: 64}, s, slacked(full(2, 20, 0), api.MaxTime)} {
			checkMergeFails(t, s, other, api.ErrForm)
			checkMergeFails(t, other, s, api.ErrForm)
		}
	}
}

func TestP101AddOfFew(t *testing.T) {
	for _, c := range []struct {
		k    int
		l    []int64
		want api.Rank
	}{
		{3, nil, api.Rank{K: 3}},
		{3, []int64{7}, api.Rank{K: 3, Tail: []int64{7}, N: 1}},
		{3, []int64{7, 5}, api.Rank{K: 3, Tail: []int64{5, 7}, N: 2}},
		{3, []int64{7, 7}, api.Rank{K: 3, Tail: []int64{7, 7}, N: 2}},
		{3, []int64{7, 5, 6}, api.Rank{K: 3, Levels: [][]int64{{5, 6, 7}}, N: 3}},
		{3, []int64{7, 5, 6, 1}, api.Rank{K: 3, Tail: []int64{1}, Levels: [][]int64{{5, 6, 7}}, N: 4}},
		// 1, 3, 5, 6, 7, 9: the second, the fourth and the last
		{3, []int64{7, 5, 6, 1, 9, 3}, api.Rank{K: 3, Levels: [][]int64{nil, {3, 6, 9}}, N: 6, Slack: 1}},
		{2, []int64{4, 3, 2, 1}, api.Rank{K: 2, Levels: [][]int64{nil, {2, 4}}, N: 4, Slack: 1}},
		{2, []int64{4, 3, 2, 1, 0, 9}, api.Rank{K: 2, Levels: [][]int64{{0, 9}, {2, 4}}, N: 6, Slack: 1}},
		// at level 0 0, 5, 8, 9 are 5 and 9; at level 1 2, 4, 5, 9 are 4 and 9
		{2, []int64{4, 3, 2, 1, 0, 9, 8, 5}, api.Rank{K: 2, Levels: [][]int64{nil, nil, {4, 9}}, N: 8, Slack: 4}},
		{2, []int64{4, 3, 2, 1, 0, 9, 8, 5, 6}, api.Rank{K: 2, Tail: []int64{6}, Levels: [][]int64{nil, nil, {4, 9}}, N: 9, Slack: 4}},
		{2, []int64{math.MaxInt64, math.MinInt64, math.MaxInt64, math.MinInt64}, api.Rank{K: 2, Levels: [][]int64{nil, {math.MinInt64, math.MaxInt64}}, N: 4, Slack: 1}},
	} {
		checkSame(t, of(t, c.k, c.l...), c.want)
	}
}

func TestP101AddIsTheModel(t *testing.T) {
	for _, k := range ks() {
		for seed := range 7 {
			m, s := &model{k: k}, api.Rank{K: k}
			for _, v := range numbers(seed, min(33*k, 400)) {
				m.add(v)
				more, e := Add(s, v)
				if e != api.OK || !same(more, m.rank()) {
					t.Fatalf("Add(%v, %d) = %v, %d, want %v", s, v, more, e, m.rank())
				}
				s = more
			}
		}
	}
}

func TestP101MergeOfFew(t *testing.T) {
	a := api.Rank{K: 2, Tail: []int64{5}, Levels: [][]int64{{1, 9}}, N: 3, Slack: 10}
	for _, c := range []struct{ a, b, want api.Rank }{
		{a, api.Rank{K: 2}, a},
		{a, api.Rank{K: 2, Slack: 7}, slacked(a, 17)},
		{a, api.Rank{K: 2, Levels: [][]int64{nil, {3, 4}}, N: 4}, api.Rank{K: 2, Tail: []int64{5}, Levels: [][]int64{{1, 9}, {3, 4}}, N: 7, Slack: 10}},
		{a, api.Rank{K: 2, Levels: [][]int64{nil, nil, {3, 4}}, N: 8}, api.Rank{K: 2, Tail: []int64{5}, Levels: [][]int64{{1, 9}, nil, {3, 4}}, N: 11, Slack: 10}},
		{a, api.Rank{K: 2, Levels: [][]int64{{3, 4}}, N: 2, Slack: 5}, api.Rank{K: 2, Tail: []int64{5}, Levels: [][]int64{nil, {3, 9}}, N: 5, Slack: 16}},
		// 5 and 2 are full, and are carried on top of 1 and 9
		{a, api.Rank{K: 2, Tail: []int64{2}, N: 1}, api.Rank{K: 2, Levels: [][]int64{nil, {2, 9}}, N: 4, Slack: 11}},
		{api.Rank{K: 3, Tail: []int64{5}, N: 1}, api.Rank{K: 3, Tail: []int64{2}, N: 1}, api.Rank{K: 3, Tail: []int64{2, 5}, N: 2}},
		// the levels of b are carried ahead of its Tail: 3 and 4 to 1 and 9, and then 2 and 5 stand alone
		{a, api.Rank{K: 2, Tail: []int64{2}, Levels: [][]int64{{3, 4}}, N: 3}, api.Rank{K: 2, Levels: [][]int64{{2, 5}, {3, 9}}, N: 6, Slack: 11}},
		// the numbers of b's Tail come in order: the least one fills a's
		{api.Rank{K: 3, Tail: []int64{5, 9}, N: 2}, api.Rank{K: 3, Tail: []int64{1, 7}, N: 2}, api.Rank{K: 3, Tail: []int64{7}, Levels: [][]int64{{1, 5, 9}}, N: 4}},
		// the lower levels first: at level 0 1, 2, 3, 4 are 2 and 4, at level 1 2, 4, 5, 6 are 4 and 6, and 7 and 8 stand alone
		{
			api.Rank{K: 2, Levels: [][]int64{{1, 2}, {5, 6}}, N: 6}, api.Rank{K: 2, Levels: [][]int64{{3, 4}, {7, 8}}, N: 6},
			api.Rank{K: 2, Levels: [][]int64{nil, {7, 8}, {4, 6}}, N: 12, Slack: 3},
		},
	} {
		checkSame(t, merged(t, c.a, c.b), c.want)
	}
}

func TestP101MergeIsTheModel(t *testing.T) {
	for _, k := range ks() {
		for _, one := range trees(t, k) {
			checkSame(t, one.s, one.m.rank())
		}
	}
}

// Also of ranks that numbers would not have made.
func TestP101MergeOfFormsIsTheModel(t *testing.T) {
	asModel := func(s api.Rank) *model {
		m := &model{k: s.K, slack: s.Slack}
		m.put(-1, s.Tail)
		for level, l := range s.Levels {
			m.put(level, l)
		}
		return m
	}
	for _, a := range forms() {
		for _, b := range forms() {
			if a.K != b.K {
				checkMergeFails(t, a, b, api.ErrArg)
				continue
			}
			m := asModel(a)
			m.merge(asModel(b))
			want := m.rank()
			if len(want.Levels) > api.MaxLevels || want.Slack > api.MaxTime {
				checkMergeFails(t, a, b, api.ErrLarge)
			} else {
				checkSame(t, merged(t, a, b), want)
			}
		}
	}
}

func TestP101MergeWithNoneIsTheSame(t *testing.T) {
	for _, k := range ks() {
		for _, one := range trees(t, k) {
			checkSame(t, merged(t, one.s, api.Rank{K: k}), one.s)
			checkSame(t, merged(t, api.Rank{K: k}, one.s), one.s)
		}
	}
}

// In whatever way numbers came together, N tells which levels have lists, and Slack: of n lists of K numbers that
// came to be full, half of n (its whole part) were carried to level 1, and so on.
func TestP101ShapeHangsOnHowManyCame(t *testing.T) {
	for _, k := range ks() {
		for _, one := range trees(t, k) {
			n := len(one.all)
			if one.s.N != int64(n) || len(one.s.Tail) != n%k {
				t.Fatalf("%v of %d", one.s, n)
			}
			slack, lists := 0, n/k
			for level := 0; lists>>level > 0 || level < len(one.s.Levels); level++ {
				slack += lists >> (level + 1) << level
				there := level < len(one.s.Levels) && len(one.s.Levels[level]) > 0
				if there != (lists>>level%2 == 1) {
					t.Fatalf("level %d of %v of %d", level, one.s, n)
				}
			}
			if one.s.Slack != int64(slack) {
				t.Fatalf("Slack %d of %d with K %d, want %d", one.s.Slack, n, k, slack)
			}
		}
	}
}

func TestP101MergeAsksForOneK(t *testing.T) {
	for _, k := range ks() {
		for _, other := range ks() {
			for _, b := range []api.Rank{{K: other}, full(other, 3, 0), slacked(full(other, 20, 0), api.MaxTime)} {
				if other != k {
					// ahead of what would be too large
					checkMergeFails(t, slacked(full(k, 20, 0), api.MaxTime), b, api.ErrArg)
					checkMergeFails(t, api.Rank{K: k}, b, api.ErrArg)
				}
			}
		}
	}
}

func TestP101LevelsHaveABound(t *testing.T) {
	for _, k := range ks() {
		tail := make([]int64, k-1)
		for _, v := range []int64{math.MinInt64, 0, math.MaxInt64} {
			checkAddFails(t, tailed(full(k, 20, 0), tail...), v, api.ErrLarge)
			// the last number that has room
			if s, e := Add(tailed(full(k, 20, 0), tail[1:]...), v); e != api.OK || s.N != int64(k)<<20-1 || len(s.Tail) != k-1 || Check(s) != api.OK {
				t.Error(k, s, e)
			}
			if s, e := Add(tailed(full(k, 19, 0), tail...), v); e != api.OK || s.N != int64(k)<<19 || len(s.Levels) != 20 || s.Slack != 1<<19-1 || Check(s) != api.OK {
				t.Error(k, s, e)
			}
		}
		for level := range 20 {
			checkMergeFails(t, full(k, 20, 0), only(k, level), api.ErrLarge)
			checkMergeFails(t, only(k, level), full(k, 20, 0), api.ErrLarge)
			if s := merged(t, full(k, 19, 0), only(k, level)); s.N != int64(k)<<19+int64(k)<<level-int64(k) {
				t.Error(k, level, s)
			}
		}
		checkMergeFails(t, only(k, 19), only(k, 19), api.ErrLarge)
		checkMergeFails(t, full(k, 20, 0), full(k, 20, 0), api.ErrLarge)
		checkMergeFails(t, tailed(full(k, 20, 0), tail...), tailed(full(k, 20, 0), tail...), api.ErrLarge)
		// it is the Tails that are too many
		checkMergeFails(t, tailed(full(k, 20, 0), tail...), tailed(api.Rank{K: k}, 3), api.ErrLarge)
		checkMergeFails(t, tailed(api.Rank{K: k}, 3), tailed(full(k, 20, 0), tail...), api.ErrLarge)
		checkSame(t, merged(t, full(k, 20, 0), tailed(api.Rank{K: k}, tail...)), tailed(full(k, 20, 0), tail...))
		if s := merged(t, only(k, 18), only(k, 18)); s.Slack != 1<<18 || len(s.Levels) != 20 {
			t.Error(k, s)
		}
	}
}

func TestP101SlackHasABound(t *testing.T) {
	for _, k := range ks() {
		tail := make([]int64, k-1)
		for levels := range 20 {
			s := tailed(full(k, levels, 0), tail...)
			more := int64(1)<<levels - 1
			if a, e := Add(slacked(s, api.MaxTime-more), 5); e != api.OK || a.Slack != api.MaxTime || Check(a) != api.OK {
				t.Error(k, levels, a, e)
			}
			if levels > 0 {
				checkAddFails(t, slacked(s, api.MaxTime-more+1), 5, api.ErrLarge)
				checkAddFails(t, slacked(s, api.MaxTime), 5, api.ErrLarge)
			}
			// with room in the Tail nothing is carried
			if a, e := Add(slacked(full(k, levels, 0), api.MaxTime), 5); e != api.OK || a.Slack != api.MaxTime || k == 2 && len(a.Tail) != 1 {
				t.Error(k, levels, a, e)
			}
		}
		for _, slack := range []int64{0, 1, 2, api.MaxTime / 2, api.MaxTime - 1, api.MaxTime} {
			b := api.Rank{K: k, Slack: slack}
			if s := merged(t, slacked(full(k, 3, 0), api.MaxTime-slack), b); s.Slack != api.MaxTime {
				t.Error(k, s)
			}
			checkMergeFails(t, slacked(full(k, 3, 0), api.MaxTime), slacked(b, max(slack, 1)), api.ErrLarge)
			checkMergeFails(t, slacked(b, max(slack, 1)), slacked(full(k, 3, 0), api.MaxTime), api.ErrLarge)
			// what is carried counts too
			if slack >= 4 {
				less := slacked(only(k, 2), slack-4)
				if s := merged(t, slacked(only(k, 2), api.MaxTime-slack), less); s.Slack != api.MaxTime {
					t.Error(k, s)
				}
				checkMergeFails(t, slacked(only(k, 2), api.MaxTime-slack+1), less, api.ErrLarge)
				// and so does what the Tail carries
				less = slacked(tailed(api.Rank{K: k}, tail...), slack-1)
				one := slacked(tailed(only(k, 0), 1), api.MaxTime-slack)
				if s := merged(t, one, less); s.Slack != api.MaxTime {
					t.Error(k, s)
				}
				checkMergeFails(t, one, slacked(less, slack), api.ErrLarge)
			}
		}
	}
}

func TestP102WeightOfFew(t *testing.T) {
	s := api.Rank{K: 3, Tail: []int64{2, 6}, Levels: [][]int64{{1, 2, 2}, nil, {-5, 2, 9}}, N: 17, Slack: 3}
	for x, want := range map[int64]int64{math.MinInt64: 0, -6: 0, -5: 4, 0: 4, 1: 5, 2: 12, 3: 12, 5: 12, 6: 13, 8: 13, 9: 17, 10: 17, math.MaxInt64: 17} {
		checkWeight(t, s, x, want)
	}
	for _, x := range []int64{math.MinInt64, -1, 0, math.MaxInt64} {
		checkWeight(t, api.Rank{K: 5}, x, 0)
	}
	edges := api.Rank{K: 2, Tail: []int64{math.MinInt64}, Levels: [][]int64{nil, {math.MinInt64, math.MaxInt64}}, N: 5}
	for x, want := range map[int64]int64{math.MinInt64: 3, 0: 3, math.MaxInt64 - 1: 3, math.MaxInt64: 5} {
		checkWeight(t, edges, x, want)
	}
	most := tailed(full(64, 20, 0), numbers(0, 63)...)
	checkWeight(t, most, 63, 64<<20-1)
	checkWeight(t, most, 62, 63<<20)
	checkWeight(t, most, 0, 1<<20)
	checkWeight(t, most, -1, 0)
}

func TestP102QueryOfFew(t *testing.T) {
	s := api.Rank{K: 3, Tail: []int64{2, 6}, Levels: [][]int64{{1, 2, 2}, nil, {-5, 2, 9}}, N: 17, Slack: 3}
	for i, want := range []int64{-5, -5, -5, -5, 1, 2, 2, 2, 2, 2, 2, 2, 6, 9, 9, 9, 9} {
		checkQuery(t, s, int64(i+1), want)
	}
	edges := api.Rank{K: 2, Tail: []int64{math.MinInt64}, Levels: [][]int64{nil, {math.MinInt64, math.MaxInt64}}, N: 5}
	for i, want := range []int64{math.MinInt64, math.MinInt64, math.MinInt64, math.MaxInt64, math.MaxInt64} {
		checkQuery(t, edges, int64(i+1), want)
	}
	most := tailed(full(64, 20, 0), numbers(0, 63)...)
	for r, want := range map[int64]int64{1: 0, 1 << 20: 0, 1<<20 + 1: 1, 63 << 20: 62, 63<<20 + 1: 63, 64<<20 - 1: 63} {
		checkQuery(t, most, r, want)
	}
}

func TestP102QueryHasItsBounds(t *testing.T) {
	for _, r := range []int64{math.MinInt64, -1, 0, 1, 2, math.MaxInt64} {
		checkQueryFails(t, api.Rank{K: 2}, r, api.ErrNone)
		checkQueryFails(t, api.Rank{K: 64, Tail: []int64{}, Levels: [][]int64{}, Slack: 9}, r, api.ErrNone)
	}
	for _, s := range forms() {
		if s.N == 0 {
			continue
		}
		for _, r := range []int64{math.MinInt64, -s.N, -1, 0, s.N + 1, s.N + s.Slack + 1, 1 << 32, 1<<32 + 1, math.MaxInt64} {
			checkQueryFails(t, s, r, api.ErrRange)
		}
		checkQuery(t, s, 1, modelQuery(s, 1))
		checkQuery(t, s, s.N, modelQuery(s, s.N))
	}
}

func TestP102WeightAndQueryAreTheModel(t *testing.T) {
	for _, k := range ks() {
		for seed, one := range trees(t, k) {
			s := one.s
			for i := range 60 {
				u := stir(uint64(1000*seed + i))
				x := int64(u) >> (u >> 8 % 64)
				if len(one.all) > 0 && i%3 > 0 {
					x = one.all[u>>20%uint64(len(one.all))] + int64(i%3) - 1
				}
				checkWeight(t, s, x, modelWeight(s, x))
			}
			for i := int64(0); i < 40 && i < s.N; i++ {
				checkQuery(t, s, 1+i*s.N/40, modelQuery(s, 1+i*s.N/40))
			}
		}
	}
}

func TestP102OfFewEachStandsWhereItStands(t *testing.T) {
	for _, k := range ks() {
		for seed := range 14 {
			for _, n := range []int{1, k / 2, k - 1} {
				l := numbers(seed, n)
				s := of(t, k, l...)
				slices.Sort(l)
				for i, v := range l {
					checkQuery(t, s, int64(i+1), v)
					checkWeight(t, s, v, int64(sort.Search(n, func(j int) bool { return l[j] > v })))
				}
			}
		}
	}
}

// The Weight of x is not above how many came that are not above x, and not below that by more than Slack; so what a
// Query tells stands at the rank that was asked for, or no more than Slack from it.
func TestP102WhatIsToldIsWithinItsBound(t *testing.T) {
	for _, k := range ks() {
		for _, one := range trees(t, k) {
			l, s := one.all, one.s
			slices.Sort(l)
			came := func(x int64) int64 { return int64(sort.Search(len(l), func(i int) bool { return l[i] > x })) }
			for i, x := range l {
				if w, e := Weight(s, x); e != api.OK || w > came(x) || w < came(x)-s.Slack {
					t.Fatalf("Weight(%v, %d) = %d, %d, %d came", s, x, w, e, came(x))
				}
				r := int64(i + 1)
				v, e := Query(s, r)
				if below := int64(sort.Search(len(l), func(i int) bool { return l[i] >= v })); e != api.OK || came(v) < r || below >= r+s.Slack {
					t.Fatalf("Query(%v, %d) = %d, %d", s, r, v, e)
				}
			}
		}
	}
}

func TestP1AllAnswerWhateverTheyAreGiven(t *testing.T) {
	edges := []int64{math.MinInt64, -api.MaxTime - 1, -1, 0, 1, 2, 3, 4, 6, 7, 64, api.MaxTime - 1, api.MaxTime, api.MaxTime + 1, math.MaxInt64}
	pick := func(u uint64) int64 { return edges[stir(u)>>9%uint64(len(edges))] }
	list := func(u uint64) []int64 {
		l := make([]int64, stir(u)>>9%4)
		for i := range l {
			l[i] = pick(10*u + uint64(i))
		}
		// so that more of them are a rank's
		if u>>3%8 > 0 {
			slices.Sort(l)
		}
		return l
	}
	some := func(u uint64) api.Rank {
		s := api.Rank{K: int(pick(u)), Tail: list(u + 1), N: pick(u + 2), Slack: pick(u + 3)}
		for i := range u % 4 {
			s.Levels = append(s.Levels, list(u+4+i))
		}
		if u>>4%4 > 0 {
			s.K, s.N = 2+int(u>>9%2), modelWeight(s, math.MaxInt64)
		}
		return s
	}
	taken := 0
	for seed := range uint64(60000) {
		a, b := some(20*seed), some(20*seed+10)
		more, e := Add(a, pick(seed))
		if (e == api.OK) != (Check(more) == api.OK) || e != api.OK && !none(more) {
			t.Fatal(a, more, e)
		}
		both, e := Merge(a, b)
		if (e == api.OK) != (Check(both) == api.OK) || e != api.OK && !none(both) {
			t.Fatal(a, b, both, e)
		}
		if w, e := Weight(a, pick(seed)); e != Check(a) || e != api.OK && w != 0 || w < 0 || w > max(a.N, 0) {
			t.Fatal(a, w, e)
		}
		if v, e := Query(a, pick(seed)); e == api.OK && Check(a) != api.OK || e != api.OK && v != 0 {
			t.Fatal(a, v, e)
		}
		if Check(a) == api.OK {
			taken++
		}
	}
	if taken < 1000 {
		t.Error("only", taken, "of them were ranks")
	}
}

// roomy is s with room behind each list, in which numbers stand.
func roomy(s api.Rank) api.Rank {
	room := func(l []int64) []int64 { return slices.Concat(l, []int64{-71, -72, -73, -74, -75, -76})[:len(l)] }
	s.Tail = room(s.Tail)
	levels := make([][]int64, len(s.Levels), len(s.Levels)+3)
	for i, l := range s.Levels {
		levels[i] = room(l)
	}
	_ = append(levels, []int64{-81, -82}, []int64{-83})
	s.Levels = levels
	return s
}

// whole is s with the room behind each list.
func whole(s api.Rank) api.Rank {
	s.Tail = s.Tail[:cap(s.Tail)]
	s.Levels = slices.Clone(s.Levels[:cap(s.Levels)])
	for i, l := range s.Levels {
		s.Levels[i] = l[:cap(l)]
	}
	return s
}

// spoil writes over all memory of s, and answers whether one part of it shows in another.
func spoil(s api.Rank) bool {
	parts := whole(s)
	lists := append(parts.Levels, parts.Tail)
	for i, l := range lists {
		for j := range l {
			l[j] = int64(-1000 - i)
		}
	}
	for i, l := range lists {
		for _, v := range l {
			if v != int64(-1000-i) {
				return true
			}
		}
	}
	levels := s.Levels[:cap(s.Levels)]
	for i := range levels {
		levels[i] = nil
	}
	return false
}

func TestP2NothingIsChangedOrShared(t *testing.T) {
	plain := []api.Rank{
		{K: 2}, of(t, 2, 5), of(t, 2, 5, 3, 9), of(t, 2, 5, 3, 9, 1), of(t, 2, numbers(4, 21)...), of(t, 2, numbers(3, 31)...), full(2, 5, 3), only(2, 4), tailed(full(2, 4, 1), 2),
	}
	for _, a := range plain {
		for _, b := range plain {
			x, y := roomy(a), roomy(b)
			keptX, keptY := copied(whole(x)), copied(whole(y))
			answers := func() []api.Rank {
				more, _ := Add(x, 4)
				return []api.Rank{more, merged(t, x, y), merged(t, y, x), merged(t, x, x)}
			}
			var first []api.Rank
			for _, s := range answers() {
				first = append(first, copied(s))
				if spoil(s) {
					t.Fatal("two parts of an answer share memory", a, b)
				}
			}
			Weight(x, 4)
			Query(x, 2)
			if !same(whole(x), keptX) || !same(whole(y), keptY) {
				t.Fatalf("what was handed in is changed: %v, %v, want %v, %v", whole(x), whole(y), keptX, keptY)
			}
			second := answers()
			spoil(x)
			spoil(y)
			for i, s := range second {
				if !same(s, first[i]) {
					t.Fatalf("%d: %v, want %v", i, s, first[i])
				}
			}
		}
	}
}
