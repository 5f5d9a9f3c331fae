package heavy

import (
	"maps"
	"math"
	"slices"
	"strings"
	"testing"

	"gaugehouse/api"
)

// stir makes unlike numbers from like ones, the same in each run.
func stir(u uint64) uint64 {
	u = (u + 1) * 0x9e3779b97f4a7c15
	u = (u ^ u>>29) * 0xbf58476d1ce4e5b9
	return u ^ u>>32
}

// model tells of a tally in another way: its keys stand in a map.
type model struct {
	k      int
	n, off int64
	has    map[string]int64
}

func modelOf(s api.Heavy) *model {
	m := &model{k: s.K, n: s.N, off: s.Off, has: map[string]int64{}}
	for _, c := range s.L {
		m.has[c.Key] = c.N
	}
	return m
}

func (m *model) add(key string) {
	m.n++
	if m.has[key] > 0 || len(m.has) < m.k {
		m.has[key]++
		return
	}
	m.less(1)
}

func (m *model) merge(other *model) {
	m.n += other.n
	m.off += other.off
	for key, n := range other.has {
		m.has[key] += n
	}
	if len(m.has) > m.k {
		m.less(m.common())
	}
}

// common is the greatest number that at least K + 1 have not less than: it is what one of them has.
func (m *model) common() int64 {
	greatest := int64(0)
	for _, n := range m.has {
		many := 0
		for _, other := range m.has {
			if other >= n {
				many++
			}
		}
		if many >= m.k+1 {
			greatest = max(greatest, n)
		}
	}
	return greatest
}

func (m *model) less(n int64) {
	m.off += n
	for key := range m.has {
		m.has[key] -= n
	}
	maps.DeleteFunc(m.has, func(_ string, left int64) bool { return left <= 0 })
}

// heavy is the model as it is to be told.
func (m *model) heavy() api.Heavy {
	s := api.Heavy{K: m.k, N: m.n, Off: m.off}
	for _, key := range slices.Sorted(maps.Keys(m.has)) {
		s.L = append(s.L, api.Count{Key: key, N: m.has[key]})
	}
	return s
}

func same(a, b api.Heavy) bool {
	return a.K == b.K && a.N == b.N && a.Off == b.Off && slices.Equal(a.L, b.L)
}

// none tells whether s is what an error leaves.
func none(s api.Heavy) bool { return s.K == 0 && s.N == 0 && s.Off == 0 && s.L == nil }

// copied is s in memory of its own.
func copied(s api.Heavy) api.Heavy {
	s.L = slices.Clone(s.L)
	return s
}

func added(t *testing.T, s api.Heavy, keys ...string) api.Heavy {
	t.Helper()
	for _, key := range keys {
		more, e := Add(s, key)
		if e != api.OK || Check(more) != api.OK {
			t.Fatalf("Add(%v, %q) = %v, %d", s, key, more, e)
		}
		s = more
	}
	return s
}

func merged(t *testing.T, a, b api.Heavy) api.Heavy {
	t.Helper()
	s, e := Merge(a, b)
	if e != api.OK || Check(s) != api.OK {
		t.Fatalf("Merge(%v, %v) = %v, %d", a, b, s, e)
	}
	return s
}

// letters are keys of one letter each.
func letters(text string) []string { return strings.Split(text, "") }

// counts are the letters of a text that stands in order, each with how often it stands there.
func counts(text string) []api.Count {
	var l []api.Count
	for _, key := range slices.Compact(letters(text)) {
		l = append(l, api.Count{Key: key, N: int64(strings.Count(text, key))})
	}
	return l
}

// tally is one of these letters, of which so much came off.
func tally(k int, text string, off int64) api.Heavy {
	return api.Heavy{K: k, L: counts(text), N: int64(len(text)) + int64(k+1)*off, Off: off}
}

func one(key string, n int64) []api.Count { return []api.Count{{Key: key, N: n}} }

func long(n int) string { return strings.Repeat("k", n) }

// many are n keys in order, each with this number.
func many(n int, number int64) []api.Count {
	var l []api.Count
	for i := range n {
		l = append(l, api.Count{Key: string([]byte{byte(i)}), N: number})
	}
	return l
}

// keys are n keys of some kind.
func keys(seed, n int) []string {
	var l []string
	for i := range n {
		u := stir(uint64(100000*seed + i))
		switch seed % 6 {
		case 0:
			l = append(l, string([]byte{byte(i)}))
		case 1:
			l = append(l, letters("abcde")[u>>20%5])
		case 2:
			// the first ones come often
			l = append(l, string(rune('a'+(u>>20%40)*(u>>40%40)/40)))
		case 3:
			l = append(l, []string{"", "\x00", "\x00\x00", "a", "a\x00", "ab", "b", "\x7f", "\x80", "\xff", "\xff\xff", long(40), long(39)}[u>>20%13])
		case 4:
			l = append(l, long(int(u>>20%41)))
		default:
			// half of them are one
			l = append(l, string([]byte{'x', byte(u >> 20 % 2 * (u >> 30 % 256))}))
		}
	}
	return l
}

func ks() []int { return []int{1, 2, 3, 4, 7, 16, 63, 64} }

// told is a tally, the model of it, and how often each key came.
type told struct {
	s    api.Heavy
	m    *model
	came map[string]int64
}

func (a *told) add(t *testing.T, l []string) {
	t.Helper()
	a.s = added(t, a.s, l...)
	for _, key := range l {
		a.m.add(key)
		a.came[key]++
	}
}

func (a *told) merge(t *testing.T, b told) {
	t.Helper()
	a.s = merged(t, a.s, b.s)
	a.m.merge(b.m)
	for key, n := range b.came {
		a.came[key] += n
	}
}

func fresh(k int) told { return told{api.Heavy{K: k}, modelOf(api.Heavy{K: k}), map[string]int64{}} }

// trees are tallies of K to which keys were added and others merged, one into another.
func trees(t *testing.T, k int) []told {
	t.Helper()
	var out []told
	for seed := range 30 {
		a := fresh(k)
		a.add(t, keys(seed, int(stir(uint64(seed))>>20)%(5*k+20)))
		for i := range seed % 6 {
			b := fresh(k)
			b.add(t, keys(seed+3*i, int(stir(uint64(50*seed+i))>>20)%(6*k+30)))
			if i%2 == 1 {
				a, b = b, a
			}
			a.merge(t, b)
			// and on with single ones
			a.add(t, keys(seed+i, i*k))
		}
		out = append(out, a)
	}
	return out
}

// forms are tallies that Check takes, also such as no keys would have made.
func forms() []api.Heavy {
	return []api.Heavy{
		{K: 1}, {K: 2}, {K: 64}, {K: 1, L: []api.Count{}}, {K: 1, N: 1}, {K: 64, N: api.MaxCount}, {K: 1, N: api.MaxCount, L: one("a", api.MaxCount)},
		{K: 1, N: 2, Off: 1}, {K: 1, N: api.MaxCount, Off: api.MaxCount / 2}, {K: 2, N: api.MaxCount, Off: api.MaxCount / 3}, {K: 3, N: api.MaxCount, Off: api.MaxCount / 4}, {K: 64, N: 65, Off: 1},
		tally(1, "aaa", 0), tally(1, "a", 5), tally(2, "ab", 0), tally(2, "abbb", 1), tally(2, "cccd", 2), tally(3, "abc", 7), tally(3, "def", 0), tally(3, "aaaacccccg", 3), tally(64, "abcdefg", 100),
		{K: 2, N: 900, L: counts("ab"), Off: 9}, {K: 3, N: 1000, L: counts("bcd")}, {K: 3, N: api.MaxCount, L: counts("xyz"), Off: 1},
		{K: 1, N: 1, L: one("", 1)}, {K: 1, N: 9, L: one(long(40), 9)}, {K: 2, N: 5, L: []api.Count{{Key: "", N: 3}, {Key: "\x00", N: 2}}},
		{K: 4, N: 8, L: []api.Count{{Key: "a", N: 1}, {Key: "a\x00", N: 2}, {Key: "ab", N: 3}, {Key: "b", N: 2}}},
		{K: 3, N: 6, L: []api.Count{{Key: "\x7f", N: 1}, {Key: "\x80", N: 2}, {Key: "\xff\xff", N: 3}}},
		{K: 2, N: api.MaxCount, L: []api.Count{{Key: "a", N: 1}, {Key: "b", N: api.MaxCount - 1}}}, {K: 2, N: api.MaxCount - 2, L: []api.Count{{Key: "a", N: api.MaxCount - 5}, {Key: "b", N: 3}}},
		{K: 64, N: 64, L: many(64, 1)}, {K: 63, N: 63 * 5, L: many(63, 5)}, {K: 64, N: 64*3 + 65*7, L: many(64, 3), Off: 7}, {K: 64, N: api.MaxCount, L: many(64, api.MaxCount/64)},
	}
}

// faults are tallies that Check refuses.
func faults() []api.Heavy {
	all := []api.Heavy{
		{}, {K: -1}, {K: 65}, {K: 128}, {K: math.MinInt}, {K: math.MaxInt}, {K: 1 << 32}, {K: 1<<32 + 1}, {K: math.MaxInt, Off: 1, N: 1}, {K: -1, Off: 1, N: 5}, {N: 1, L: one("a", 1)},
		{K: 65, N: 2, L: counts("ab")}, {K: 65, N: 65, L: many(65, 1)},
		// too many
		{K: 1, N: 2, L: counts("ab")}, {K: 2, N: 9, L: counts("abc")}, {K: 63, N: 99, L: many(64, 1)}, {K: 64, N: 99, L: many(65, 1)}, {K: 64, N: 5000, L: many(256, 1)},
		// a number that is not above 0
		{K: 1, N: 2, L: one("a", 0)}, {K: 1, N: 2, L: one("a", -1)}, {K: 1, N: 2, L: one("a", math.MinInt64)}, {K: 3, N: 9, L: []api.Count{{Key: "a", N: 2}, {Key: "b"}, {Key: "c", N: 2}}},
		{K: 2, N: 5, L: []api.Count{{Key: "a", N: 6}, {Key: "b", N: -1}}}, {K: 2, N: 5, L: []api.Count{{Key: "a", N: -2}, {Key: "b", N: 3}}}, {K: 1, N: 5, L: []api.Count{{}}},
		// keys out of order, or twice
		{K: 2, N: 2, L: []api.Count{{Key: "b", N: 1}, {Key: "a", N: 1}}}, {K: 2, N: 2, L: []api.Count{{Key: "a", N: 1}, {Key: "a", N: 1}}}, {K: 2, N: 2, L: []api.Count{{N: 1}, {N: 1}}},
		{K: 3, N: 9, L: []api.Count{{Key: "a", N: 1}, {Key: "c", N: 1}, {Key: "b", N: 1}}}, {K: 3, N: 9, L: []api.Count{{Key: "a", N: 1}, {Key: "b", N: 1}, {Key: "a", N: 1}}},
		{K: 2, N: 2, L: []api.Count{{Key: "ab", N: 1}, {Key: "a", N: 1}}}, {K: 2, N: 2, L: []api.Count{{Key: "\x80", N: 1}, {Key: "\x7f", N: 1}}}, {K: 2, N: 2, L: []api.Count{{Key: "a", N: 1}, {N: 1}}},
		{K: 2, N: 2, L: []api.Count{{Key: "b", N: 1}, {Key: "aa", N: 1}}}, {K: 2, N: 2, L: []api.Count{{Key: "a", N: 1}, {Key: "B", N: 1}}},
		// keys too long
		{K: 1, N: 1, L: one(long(41), 1)}, {K: 1, N: 1, L: one(long(5000), 1)}, {K: 2, N: 9, L: []api.Count{{Key: "a", N: 1}, {Key: long(41), N: 1}}}, {K: 2, N: 9, L: []api.Count{{Key: long(41), N: 1}, {Key: "l", N: 1}}},
		{K: 1, N: 1, L: one(strings.Repeat("ä", 21), 1)},
		// N and Off
		{K: 1, N: api.MaxCount + 1}, {K: 1, N: math.MaxInt64}, {K: 1, N: -1}, {K: 1, N: math.MinInt64}, {K: 64, N: 1<<32 + 5}, {K: 1, N: api.MaxCount + 1, L: one("a", api.MaxCount)}, {K: 1, N: api.MaxCount + 2, Off: api.MaxCount/2 + 1},
		{K: 1, Off: -1}, {K: 1, N: 5, Off: -1}, {K: 1, N: 5, Off: math.MinInt64}, {K: 1, N: 5, L: one("a", 6), Off: -1}, {K: 1, N: 1, Off: 1}, {K: 2, N: 2, Off: 1}, {K: 64, N: 64, Off: 1},
		// what goes round
		{K: 1, N: 5, Off: 1 << 63 >> 1}, {K: 1, N: 5, Off: math.MaxInt64}, {K: 3, N: 5, Off: 1 << 62}, {K: 3, N: 5, Off: 1<<62 + 1}, {K: 63, N: 99, Off: 1 << 58}, {K: 63, N: 99, Off: 1<<58 + 1}, {K: 63, N: 99, Off: math.MaxInt64 / 64},
		{K: 2, N: 5, L: []api.Count{{Key: "a", N: math.MaxInt64}, {Key: "b", N: math.MaxInt64}}}, {K: 3, N: 5, L: []api.Count{{Key: "a", N: math.MaxInt64}, {Key: "b", N: math.MaxInt64}, {Key: "c", N: 4}}},
		{K: 1, N: 5, L: one("a", math.MaxInt64), Off: math.MaxInt64}, {K: 1, N: 5, L: one("a", math.MaxInt64)}, {K: 4, N: 9, L: many(4, 1<<62)}, {K: 64, N: 9, L: many(64, 1<<58)}, {K: 1, N: 5, L: one("a", 1<<32)},
		{K: 1, N: api.MaxCount, L: one("a", api.MaxCount+1)},
	}
	for _, s := range forms() {
		less, off, more := s, s, copied(s)
		// those that all stand for something are one too few
		less.N = int64(s.K+1)*s.Off - 1
		for _, c := range s.L {
			less.N += c.N
		}
		off.Off = s.N/int64(s.K+1) + 1
		all = append(all, less, off)
		if len(more.L) > 0 {
			more.L[0].N += s.N - less.N
			all = append(all, more)
		}
	}
	return all
}

func checkAdd(t *testing.T, s api.Heavy, key string, want api.Heavy) {
	t.Helper()
	if a, e := Add(s, key); e != api.OK || !same(a, want) || Check(a) != api.OK {
		t.Errorf("Add(%v, %q) = %v, %d, want %v", s, key, a, e, want)
	}
}

func checkAddFails(t *testing.T, s api.Heavy, key string, want api.Errno) {
	t.Helper()
	if a, e := Add(s, key); !none(a) || e != want {
		t.Errorf("Add(%v, %q) = %v, %d, want %d", s, key, a, e, want)
	}
}

func checkMergeFails(t *testing.T, a, b api.Heavy, want api.Errno) {
	t.Helper()
	if s, e := Merge(a, b); !none(s) || e != want {
		t.Errorf("Merge(%v, %v) = %v, %d, want %d", a, b, s, e, want)
	}
}

func checkCount(t *testing.T, s api.Heavy, key string, want int64) {
	t.Helper()
	if n, e := Count(s, key); n != want || e != api.OK {
		t.Errorf("Count(%v, %q) = %d, %d, want %d", s, key, n, e, want)
	}
}

func checkCountFails(t *testing.T, s api.Heavy, key string, want api.Errno) {
	t.Helper()
	if n, e := Count(s, key); n != 0 || e != want {
		t.Errorf("Count(%v, %q) = %d, %d, want %d", s, key, n, e, want)
	}
}

func checkSame(t *testing.T, s, want api.Heavy) {
	t.Helper()
	if !same(s, want) {
		t.Errorf("%v, want %v", s, want)
	}
}

func TestP110EmptyIsOfNoKeys(t *testing.T) {
	for k := range 200 {
		s, e := Empty(k)
		if 1 <= k && k <= 64 {
			if e != api.OK || !same(s, api.Heavy{K: k}) || Check(s) != api.OK {
				t.Error(k, s, e)
			}
		} else if e != api.ErrArg || !none(s) {
			t.Error(k, s, e)
		}
	}
	for _, k := range []int{math.MinInt, -64, -2, -1, 1 << 32, 1<<32 + 1, math.MaxInt} {
		if s, e := Empty(k); e != api.ErrArg || !none(s) {
			t.Error(k, s, e)
		}
	}
}

func TestP110CheckTakesTallies(t *testing.T) {
	for i, s := range forms() {
		if e := Check(s); e != api.OK {
			t.Errorf("%d: %v: %d", i, s, e)
		}
	}
}

func TestP110CheckRefusesWhatIsNone(t *testing.T) {
	for i, s := range faults() {
		if e := Check(s); e != api.ErrForm {
			t.Errorf("%d: %v: %d", i, s, e)
		}
	}
}

// What is no tally is told ahead of all else.
func TestP110WhatIsNoTallyIsRefusedByAll(t *testing.T) {
	for _, s := range faults() {
		for _, key := range []string{"", "a", "b", long(40), long(41)} {
			checkAddFails(t, s, key, api.ErrForm)
			checkCountFails(t, s, key, api.ErrForm)
		}
		for _, other := range []api.Heavy{{K: 1}, {K: 2}, {K: 64, N: api.MaxCount}, s, tally(3, "abc", 2)} {
			checkMergeFails(t, s, other, api.ErrForm)
			checkMergeFails(t, other, s, api.ErrForm)
		}
	}
}

func TestP111AddOfFew(t *testing.T) {
	for _, c := range []struct {
		k    int
		keys string
		want api.Heavy
	}{
		{1, "a", tally(1, "a", 0)}, {1, "aaa", tally(1, "aaa", 0)}, {1, "ab", tally(1, "", 1)}, {1, "aab", tally(1, "a", 1)}, {1, "aabbc", tally(1, "c", 2)}, {1, "aabbb", tally(1, "b", 2)},
		{2, "ba", tally(2, "ab", 0)}, {2, "bab", tally(2, "abb", 0)}, {2, "babc", tally(2, "b", 1)}, {2, "babcc", tally(2, "bc", 1)}, {2, "baabcd", tally(2, "", 2)}, {2, "cabc", tally(2, "c", 1)},
		{3, "cba", tally(3, "abc", 0)}, {3, "cbad", tally(3, "", 1)}, {3, "ccbbad", tally(3, "bc", 1)}, {3, "ccbbadd", tally(3, "bcd", 1)}, {3, "ccbbadde", tally(3, "", 2)},
		{64, "abcabca", tally(64, "aaabbcc", 0)},
	} {
		checkSame(t, added(t, api.Heavy{K: c.k}, letters(c.keys)...), c.want)
	}
	checkSame(t, added(t, api.Heavy{K: 1}), api.Heavy{K: 1})
	checkSame(t, added(t, api.Heavy{K: 1}, "", ""), api.Heavy{K: 1, N: 2, L: one("", 2)})
	checkAdd(t, api.Heavy{K: 2, N: 2, L: one("a", 2)}, "", api.Heavy{K: 2, N: 3, L: []api.Count{{N: 1}, {Key: "a", N: 2}}})
}

func TestP111AddKeepsTheOrderOfBytes(t *testing.T) {
	want := []string{"", "\x00", "\x00\x00", "B", "a", "a\x00", "aa", "ab", "b", "\x7f", "ä", "\xff", "\xff\x00"}
	for seed := range 20 {
		s := api.Heavy{K: len(want)}
		came := slices.Clone(want)
		slices.SortFunc(came, func(x, y string) int {
			rank := func(key string) uint64 { return stir(uint64(100*seed + slices.Index(want, key))) }
			if rank(x) < rank(y) {
				return -1
			}
			return 1
		})
		s = added(t, s, came...)
		for i, c := range s.L {
			if c != (api.Count{Key: want[i], N: 1}) {
				t.Errorf("%v is kept as number %d, want %q", c, i, want[i])
			}
		}
		if len(s.L) != len(want) {
			t.Error(s)
		}
	}
}

func TestP111AddIsTheModel(t *testing.T) {
	for _, k := range ks() {
		for seed := range 12 {
			m, s := modelOf(api.Heavy{K: k}), api.Heavy{K: k}
			for _, key := range keys(seed, 6*k+40) {
				m.add(key)
				more, e := Add(s, key)
				if e != api.OK || !same(more, m.heavy()) {
					t.Fatalf("Add(%v, %q) = %v, %d, want %v", s, key, more, e, m.heavy())
				}
				s = more
			}
		}
	}
}

// Also to tallies that no keys would have made.
func TestP111AddToFormsIsTheModel(t *testing.T) {
	for _, s := range forms() {
		for _, key := range []string{"", "\x00", "\x01", "a", "a\x00", "b", "c", "cc", "z", "\xff", "\xff\xff\xff", long(40)} {
			if s.N == api.MaxCount {
				checkAddFails(t, s, key, api.ErrLarge)
				continue
			}
			m := modelOf(s)
			m.add(key)
			checkAdd(t, s, key, m.heavy())
		}
	}
}

func TestP111AddHasItsBounds(t *testing.T) {
	for _, s := range forms() {
		for _, key := range []string{long(41), long(80), long(5000), strings.Repeat("\x00", 41), strings.Repeat("ä", 21)} {
			checkAddFails(t, s, key, api.ErrLarge)
		}
	}
	most := api.Heavy{K: 2, N: api.MaxCount, L: counts("ab"), Off: 7}
	for _, key := range []string{"", "a", "c", long(40), long(41)} {
		checkAddFails(t, most, key, api.ErrLarge)
	}
	// the last one that has room
	near := api.Heavy{K: 2, N: api.MaxCount - 1, L: counts("ab"), Off: 7}
	checkAdd(t, near, "a", api.Heavy{K: 2, N: api.MaxCount, L: counts("aab"), Off: 7})
	checkAdd(t, near, long(40), api.Heavy{K: 2, N: api.MaxCount, Off: 8})
	checkAdd(t, near, strings.Repeat("ä", 20), api.Heavy{K: 2, N: api.MaxCount, Off: 8})
	checkAdd(t, api.Heavy{K: 1, N: api.MaxCount - 1, L: one("a", api.MaxCount-1)}, "a", api.Heavy{K: 1, N: api.MaxCount, L: one("a", api.MaxCount)})
	checkAdd(t, api.Heavy{K: 1, N: api.MaxCount - 1, L: one("a", api.MaxCount-1)}, "b", api.Heavy{K: 1, N: api.MaxCount, L: one("a", api.MaxCount-2), Off: 1})
}

func TestP111MergeOfFew(t *testing.T) {
	for _, c := range []struct{ a, b, want api.Heavy }{
		{tally(2, "", 0), tally(2, "", 0), tally(2, "", 0)},
		{tally(2, "aab", 3), tally(2, "", 4), tally(2, "aab", 7)},
		{tally(2, "aab", 0), tally(2, "abb", 0), tally(2, "aaabbb", 0)},
		{tally(2, "a", 1), tally(2, "b", 0), tally(2, "ab", 1)},
		{tally(2, "b", 1), tally(2, "a", 0), tally(2, "ab", 1)},
		// 3 of them, of which 3 have not less than 1: a 2 and c 2
		{tally(2, "aaab", 0), tally(2, "ccc", 0), tally(2, "aacc", 1)},
		// the third one has 2: only a, with 3, is above it
		{tally(2, "aaabb", 0), tally(2, "cccd", 0), tally(2, "ac", 2)},
		{tally(2, "aaabb", 1), tally(2, "ccd", 5), tally(2, "a", 8)},
		{tally(2, "abbb", 0), tally(2, "accc", 0), tally(2, "bc", 2)},
		// a has 2 and 2, more than any other one
		{tally(2, "aabb", 0), tally(2, "aacc", 0), tally(2, "aa", 2)},
		{tally(1, "aaaaa", 0), tally(1, "bb", 0), tally(1, "aaa", 2)},
		{tally(1, "aa", 0), tally(1, "bb", 0), tally(1, "", 2)},
		{tally(1, "aa", 2), tally(1, "aaa", 3), tally(1, "aaaaa", 5)},
		// all six have the same
		{tally(3, "abc", 0), tally(3, "def", 0), tally(3, "", 1)},
		// four of six are kept no more: the fourth one has 2
		{tally(3, "abbcccc", 0), tally(3, "dddeeffff", 0), tally(3, "ccdff", 2)},
		{tally(3, "abc", 0), tally(3, "abd", 0), tally(3, "ab", 1)},
	} {
		want := c.want
		want.N = c.a.N + c.b.N
		checkSame(t, merged(t, c.a, c.b), want)
		checkSame(t, merged(t, c.b, c.a), want)
	}
}

func TestP111MergeIsTheModel(t *testing.T) {
	for _, k := range ks() {
		for _, a := range trees(t, k) {
			checkSame(t, a.s, a.m.heavy())
		}
	}
}

// Also of tallies that no keys would have made.
func TestP111MergeOfFormsIsTheModel(t *testing.T) {
	for _, a := range forms() {
		for _, b := range forms() {
			if a.K != b.K {
				checkMergeFails(t, a, b, api.ErrArg)
				continue
			}
			if a.N+b.N > api.MaxCount {
				checkMergeFails(t, a, b, api.ErrLarge)
				continue
			}
			m := modelOf(a)
			m.merge(modelOf(b))
			checkSame(t, merged(t, a, b), m.heavy())
		}
	}
}

func TestP111MergeHasNoFirst(t *testing.T) {
	for _, k := range ks() {
		all := trees(t, k)
		for i, a := range all {
			b := all[(7*i+3)%len(all)]
			checkSame(t, merged(t, b.s, a.s), merged(t, a.s, b.s))
			checkSame(t, merged(t, a.s, api.Heavy{K: k}), a.s)
			checkSame(t, merged(t, api.Heavy{K: k}, a.s), a.s)
		}
	}
}

// With a tally of one key it is as if that key were added.
func TestP111MergeOfOneIsAdd(t *testing.T) {
	for _, k := range ks() {
		for _, a := range trees(t, k) {
			for _, key := range []string{"", "a", "b", "x\x00", "\xff", long(40), "new"} {
				checkAdd(t, a.s, key, merged(t, a.s, api.Heavy{K: k, N: 1, L: one(key, 1)}))
			}
		}
	}
}

func TestP111MergeHasItsBounds(t *testing.T) {
	for _, k := range ks() {
		for _, other := range ks() {
			if other != k {
				checkMergeFails(t, api.Heavy{K: k}, api.Heavy{K: other}, api.ErrArg)
				// ahead of what would be too large
				checkMergeFails(t, api.Heavy{K: k, N: api.MaxCount}, api.Heavy{K: other, N: api.MaxCount}, api.ErrArg)
			}
		}
		for _, n := range []int64{0, 1, 2, api.MaxCount / 2, api.MaxCount - 1, api.MaxCount} {
			a, b := api.Heavy{K: k, N: n, L: one("a", max(n, 1))}, api.Heavy{K: k, N: api.MaxCount - n, Off: (api.MaxCount - n) / int64(k+1)}
			if n == 0 {
				a.L = nil
			}
			checkSame(t, merged(t, a, b), api.Heavy{K: k, L: a.L, N: api.MaxCount, Off: b.Off})
			b.N++
			if n > 0 {
				checkMergeFails(t, a, b, api.ErrLarge)
				checkMergeFails(t, b, a, api.ErrLarge)
			}
		}
		checkMergeFails(t, api.Heavy{K: k, N: api.MaxCount}, api.Heavy{K: k, N: api.MaxCount}, api.ErrLarge)
		checkMergeFails(t, api.Heavy{K: k, N: api.MaxCount}, api.Heavy{K: k, N: 1}, api.ErrLarge)
	}
	// what a key has in both may be all that came
	half := api.Heavy{K: 1, N: api.MaxCount / 2, L: one("a", api.MaxCount/2)}
	checkSame(t, merged(t, half, half), api.Heavy{K: 1, N: api.MaxCount, L: one("a", api.MaxCount)})
	checkSame(t, merged(t, half, api.Heavy{K: 1, N: api.MaxCount / 2, L: one("b", api.MaxCount/2)}), api.Heavy{K: 1, N: api.MaxCount, Off: api.MaxCount / 2})
}

func TestP111CountOfFew(t *testing.T) {
	s := api.Heavy{K: 6, N: 50, L: []api.Count{{Key: "", N: 4}, {Key: "a", N: 1}, {Key: "a\x00", N: 7}, {Key: long(40), N: 2}, {Key: "\xff", N: 3}}, Off: 4}
	for key, want := range map[string]int64{"": 4, "a": 1, "a\x00": 7, long(40): 2, "\xff": 3, "A": 0, "b": 0, "aa": 0, "\x00": 0, long(39): 0, "\xff\x00": 0, "\xfe": 0} {
		checkCount(t, s, key, want)
	}
	for _, key := range []string{long(41), long(80), long(5000), strings.Repeat("\x00", 41), strings.Repeat("ä", 21)} {
		for _, s := range forms() {
			checkCountFails(t, s, key, api.ErrLarge)
		}
	}
	checkCount(t, api.Heavy{K: 1}, "", 0)
	checkCount(t, api.Heavy{K: 1, N: 9, Off: 3}, strings.Repeat("ä", 20), 0)
	for _, s := range forms() {
		for _, c := range s.L {
			checkCount(t, s, c.Key, c.N)
			if len(c.Key) < 40 {
				checkCount(t, s, c.Key+"\xfe", 0)
			}
		}
	}
}

// A key has no more than came of it, and no more than Off less than that; so what came more often than Off is kept,
// and with it each that makes more than one in K + 1 of all.
func TestP111WhatIsToldIsWithinItsBound(t *testing.T) {
	for _, k := range ks() {
		for _, a := range trees(t, k) {
			all := int64(0)
			for key, came := range a.came {
				n, e := Count(a.s, key)
				if e != api.OK || n > came || n < came-a.s.Off {
					t.Fatalf("Count(%v, %q) = %d, %d, %d came", a.s, key, n, e, came)
				}
				all += came
			}
			if a.s.N != all || int64(k+1)*a.s.Off > all {
				t.Fatalf("%v of %d", a.s, all)
			}
			for key, came := range a.came {
				if n, _ := Count(a.s, key); int64(k+1)*came > all && n == 0 {
					t.Fatalf("%q came %d times of %d: %v", key, came, all, a.s)
				}
			}
		}
	}
}

func TestP1AllAnswerWhateverTheyAreGiven(t *testing.T) {
	edges := []int64{math.MinInt64, -1, 0, 1, 1, 2, 3, 5, 64, 65, api.MaxCount - 1, api.MaxCount, api.MaxCount + 1, math.MaxInt64}
	texts := []string{"", "\x00", "a", "a", "b", "bb", "c", "\xff", long(40), long(41)}
	pick := func(u uint64) int64 { return edges[stir(u)>>9%uint64(len(edges))] }
	text := func(u uint64) string { return texts[stir(u)>>9%uint64(len(texts))] }
	some := func(u uint64) api.Heavy {
		s := api.Heavy{K: int(pick(u)), N: pick(u + 1), Off: pick(u + 2)}
		for i := range u % 5 {
			s.L = append(s.L, api.Count{Key: text(u + 3 + i), N: pick(u + 10 + i)})
		}
		// so that more of them are tallies
		if u>>3%8 > 0 {
			slices.SortFunc(s.L, func(x, y api.Count) int { return strings.Compare(x.Key, y.Key) })
			s.K, s.Off = 2+int(u>>7%3), int64(u>>11%3)
			for i := range s.L {
				s.L[i].N = 1 + int64(stir(u+20+uint64(i))%4)
			}
			if u>>6%4 > 0 {
				s.N = 40
			}
		}
		return s
	}
	taken := 0
	for seed := range uint64(60000) {
		a, b := some(30*seed+seed>>4), some(31*seed+10)
		more, e := Add(a, text(seed))
		if (e == api.OK) != (Check(more) == api.OK) || e != api.OK && !none(more) {
			t.Fatal(a, more, e)
		}
		both, e := Merge(a, b)
		if (e == api.OK) != (Check(both) == api.OK) || e != api.OK && !none(both) {
			t.Fatal(a, b, both, e)
		}
		if n, e := Count(a, text(seed)); n < 0 || n > max(a.N, 0) || e != api.OK && n != 0 {
			t.Fatal(a, n, e)
		}
		if Check(a) == api.OK && Check(b) == api.OK {
			taken++
		}
	}
	if taken < 1000 {
		t.Error("only", taken, "pairs of them were tallies")
	}
}

// roomy is s with room behind its list, in which something stands.
func roomy(s api.Heavy) api.Heavy {
	s.L = slices.Concat(s.L, many(9, -71))[:len(s.L)]
	return s
}

// whole is s with the room behind its list.
func whole(s api.Heavy) api.Heavy {
	s.L = s.L[:cap(s.L)]
	return s
}

// spoil writes over all memory of s.
func spoil(s api.Heavy) {
	for i := range whole(s).L {
		whole(s).L[i] = api.Count{Key: "spoilt", N: -1000}
	}
}

func TestP2NothingIsChangedOrShared(t *testing.T) {
	plain := []api.Heavy{tally(2, "", 0), tally(2, "", 3), tally(2, "a", 0), tally(2, "ab", 0), tally(2, "aab", 1), tally(2, "ccccd", 2), tally(2, "eef", 0), tally(2, "bbbcc", 0)}
	for _, a := range plain {
		for _, b := range plain {
			x, y := roomy(a), roomy(b)
			keptX, keptY := copied(whole(x)), copied(whole(y))
			answers := func() []api.Heavy {
				here, _ := Add(x, "a")
				there, _ := Add(x, "z")
				return []api.Heavy{here, there, merged(t, x, y), merged(t, y, x), merged(t, x, x)}
			}
			var first []api.Heavy
			for _, s := range answers() {
				first = append(first, copied(s))
				spoil(s)
			}
			Count(x, "a")
			Check(x)
			if !same(whole(x), keptX) || !same(whole(y), keptY) {
				t.Fatalf("what was handed in is changed: %v, %v, want %v, %v", whole(x), whole(y), keptX, keptY)
			}
			second := answers()
			spoil(x)
			spoil(y)
			for i, s := range second {
				if !same(s, first[i]) {
					t.Fatalf("%d: %v, want %v", i, s, first[i])
				}
			}
		}
	}
}
