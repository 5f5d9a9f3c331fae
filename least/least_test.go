package least

import (
	"maps"
	"math"
	"math/big"
	"slices"
	"strconv"
	"strings"
	"testing"

	"gaugehouse/api"
	"gaugehouse/hash"
)

const most = math.MaxUint64

// stir makes unlike numbers from like ones, the same in each run.
func stir(u uint64) uint64 {
	u = (u + 1) * 0x9e3779b97f4a7c15
	u = (u ^ u>>29) * 0xbf58476d1ce4e5b9
	return u ^ u>>32
}

// told is a sieve, and the texts that it tells of.
type told struct {
	s    api.Least
	came map[string]bool
}

// model is the sieve in another way: the least number of all that came, again and again, from behind the one ahead of it.
func (a *told) model() api.Least {
	numbers := map[uint64]bool{}
	for text := range a.came {
		numbers[hash.Of(0, []byte(text))] = true
	}
	s := api.Least{K: a.s.K}
	for len(numbers) > 0 && len(s.H) < s.K {
		next := uint64(most)
		for h := range numbers {
			next = min(next, h)
		}
		delete(numbers, next)
		s.H = append(s.H, next)
	}
	return s
}

func (a *told) add(t *testing.T, text string) {
	t.Helper()
	a.s = added(t, a.s, text)
	a.came[text] = true
}

func (a *told) merge(t *testing.T, b told) {
	t.Helper()
	a.s = merged(t, a.s, b.s)
	maps.Copy(a.came, b.came)
}

func fresh(t *testing.T, k int) told {
	t.Helper()
	s, e := Empty(k)
	if e != api.OK {
		t.Fatal(k, e)
	}
	return told{s, map[string]bool{}}
}

func ks() []int { return []int{2, 3, 4, 5, 7, 16, 33, 63, 64} }

func texts() []string {
	all := []string{"", "\x00", "\x00\x00", "a", "b", "ab", "ba", "a\x00", "ä", "\x7f", "\x80", "\xff", "\xff\xfe", "gauge", long(39), long(1000)}
	for i := range 100 {
		all = append(all, "text "+strconv.Itoa(i))
	}
	return all
}

func long(n int) string { return strings.Repeat("k", n) }

// trees are sieves of one K to which texts were added and others merged, one into another.
func trees(t *testing.T, k int) []told {
	t.Helper()
	var out []told
	all := texts()
	for seed := range uint64(14) {
		a := fresh(t, k)
		// of few texts and of many, so that there are sieves with room and sieves without
		few := 1 + stir(seed)>>20%uint64(len(all))
		for i := range stir(seed+50) >> 20 % uint64(3*k) {
			u := stir(100*seed + i)
			a.add(t, all[u>>20%few])
			if i%7 == 6 {
				b := fresh(t, k)
				b.add(t, all[u>>30%few])
				b.add(t, all[u>>10%uint64(len(all))])
				if i%2 == 1 {
					a, b = b, a
				}
				a.merge(t, b)
			}
		}
		out = append(out, a)
	}
	return out
}

// of is a sieve that keeps these numbers.
func of(k int, h ...uint64) api.Least { return api.Least{K: k, H: h} }

// run is so many numbers in a row.
func run(from uint64, n int) []uint64 {
	var h []uint64
	for i := range n {
		h = append(h, from+uint64(i))
	}
	return h
}

func same(a, b api.Least) bool { return a.K == b.K && slices.Equal(a.H, b.H) }

// none tells whether s is what an error leaves.
func none(s api.Least) bool { return s.K == 0 && s.H == nil }

// copied is s in memory of its own.
func copied(s api.Least) api.Least {
	s.H = slices.Clone(s.H)
	return s
}

func added(t *testing.T, s api.Least, text string) api.Least {
	t.Helper()
	more, e := Add(s, []byte(text))
	if e != api.OK || Check(more) != api.OK {
		t.Fatalf("Add(%v, %q) = %v, %d", s, text, more, e)
	}
	return more
}

func merged(t *testing.T, a, b api.Least) api.Least {
	t.Helper()
	s, e := Merge(a, b)
	if e != api.OK || Check(s) != api.OK {
		t.Fatalf("Merge(%v, %v) = %v, %d", a, b, s, e)
	}
	return s
}

// forms are sieves that Check takes, also such as no bytes would have made.
func forms() []api.Least {
	all := []api.Least{
		of(2), {K: 2, H: []uint64{}}, of(64), of(2, 0), of(2, most), of(2, 0, 1), of(2, 0, most), of(2, most-1, most), of(3, 0, 1), of(3, 5, 6, 7), of(3, 1<<63-1, 1<<63, 1<<63+1), of(3, 1, 1<<32, 1<<63),
		of(64, run(0, 63)...), of(64, run(0, 64)...), of(64, run(most-63, 64)...), of(64, run(1<<63-32, 64)...), of(63, run(7, 63)...), of(63, run(7, 62)...), of(64, 9),
	}
	for _, k := range ks() {
		all = append(all, of(k, run(stir(uint64(k))>>1, k)...), of(k, run(stir(uint64(k))>>1, k-1)...), of(k, run(stir(uint64(k))>>1, k/2)...))
	}
	return all
}

// faults are sieves that Check refuses.
func faults() []api.Least {
	all := []api.Least{
		{}, of(1), of(1, 5), of(0, 5), of(-1), of(-2, 1, 2), of(65), of(65, run(0, 64)...), of(65, run(0, 65)...), of(66, 1), of(128, 1, 2), of(math.MinInt), of(math.MaxInt), of(math.MaxInt, 1, 2, 3), of(math.MinInt, 1),
		of(1<<32 + 2), of(1<<32+2, 1, 2), of(1<<32+64, 1), of(256+2, 1), of(2-1<<32, 1), of(-64, 1),
		// more than K
		of(2, 1, 2, 3), of(2, 0, 1, most), of(3, 1, 2, 3, 4), of(64, run(0, 65)...), of(63, run(0, 64)...), of(2, run(0, 64)...), of(64, run(0, 1000)...),
		// not each above the one ahead of it
		of(2, 0, 0), of(2, 1, 0), of(2, 2, 1), of(2, 7, 7), of(2, most, 0), of(2, most, most), of(2, most, most-1), of(3, 1, 2, 2), of(3, 1, 1, 2), of(3, 2, 1, 3), of(3, 1, 3, 2), of(3, 3, 2, 1), of(3, 2, 1), of(3, 1, 2, 1),
		// in order only if they stood for numbers below 0
		of(2, 1<<63, 0), of(2, 1<<63, 1), of(2, most, 1), of(3, 1<<63, most, 0), of(3, 5, 1<<63, 6),
		// more than K, and all the same
		of(2, 0, 0, 0), of(2, 5, 5, 5),
	}
	for _, s := range forms() {
		for i := range s.H {
			twice := copied(s)
			twice.H = slices.Insert(twice.H, i, s.H[i])
			all = append(all, twice)
			if i > 0 {
				like, turned := copied(s), copied(s)
				like.H[i] = like.H[i-1]
				turned.H[i], turned.H[i-1] = turned.H[i-1], turned.H[i]
				all = append(all, like, turned)
			}
		}
	}
	return all
}

func checkMerge(t *testing.T, a, b, want api.Least) {
	t.Helper()
	if s, e := Merge(a, b); e != api.OK || !same(s, want) || Check(s) != api.OK {
		t.Errorf("Merge(%v, %v) = %v, %d, want %v", a, b, s, e, want)
	}
}

func checkMergeFails(t *testing.T, a, b api.Least, want api.Errno) {
	t.Helper()
	if s, e := Merge(a, b); !none(s) || e != want {
		t.Errorf("Merge(%v, %v) = %v, %d, want %d", a, b, s, e, want)
	}
}

func checkGuess(t *testing.T, s api.Least, want uint64) {
	t.Helper()
	if n, e := Guess(s); n != want || e != api.OK {
		t.Errorf("Guess(%v) = %d, %d, want %d", s, n, e, want)
	}
}

func checkSame(t *testing.T, s, want api.Least) {
	t.Helper()
	if !same(s, want) {
		t.Errorf("%v, want %v", s, want)
	}
}

func TestP130EmptyKeepsNothing(t *testing.T) {
	all := []int{math.MinInt, math.MinInt + 2, -1 << 32, 2 - 1<<32, 1 << 32, 1<<32 + 2, 1<<32 + 64, math.MaxInt - 1, math.MaxInt}
	for k := -200; k < 300; k++ {
		all = append(all, k)
	}
	for _, k := range all {
		s, e := Empty(k)
		if 2 <= k && k <= 64 {
			if e != api.OK || s.K != k || len(s.H) != 0 || Check(s) != api.OK {
				t.Error(k, s, e)
			}
			checkGuess(t, s, 0)
		} else if e != api.ErrArg || !none(s) {
			t.Error(k, s, e)
		}
	}
}

func TestP130CheckTakesSieves(t *testing.T) {
	for i, s := range forms() {
		if e := Check(s); e != api.OK {
			t.Errorf("%d: %v: %d", i, s, e)
		}
	}
}

func TestP130CheckRefusesWhatIsNone(t *testing.T) {
	for i, s := range faults() {
		if e := Check(s); e != api.ErrForm {
			t.Errorf("%d: %v: %d", i, s, e)
		}
	}
}

func TestP130CheckHoldsKAgainstTheKept(t *testing.T) {
	for k := -3; k < 80; k++ {
		for n := range 80 {
			want := api.OK
			if k < 2 || k > 64 || n > k {
				want = api.ErrForm
			}
			if e := Check(of(k, run(1<<40, n)...)); e != want {
				t.Error(k, n, e)
			}
		}
	}
}

// What is no sieve is told ahead of all else.
func TestP130WhatIsNoSieveIsRefusedByAll(t *testing.T) {
	for _, s := range faults() {
		for _, text := range []string{"", "a", long(41)} {
			if a, e := Add(s, []byte(text)); !none(a) || e != api.ErrForm {
				t.Errorf("Add(%v, %q) = %v, %d", s, text, a, e)
			}
		}
		if n, e := Guess(s); n != 0 || e != api.ErrForm {
			t.Errorf("Guess(%v) = %d, %d", s, n, e)
		}
		for _, other := range []api.Least{of(2), of(2, 1, 2), of(3, 1, 2), of(64, run(0, 64)...), s} {
			checkMergeFails(t, s, other, api.ErrForm)
			checkMergeFails(t, other, s, api.ErrForm)
		}
	}
}

// The numbers are worked out outside of the program.
func TestP130BytesHaveTheirNumber(t *testing.T) {
	for _, c := range []struct {
		text string
		h    uint64
	}{
		{"", 0}, {"\x00", 0}, {"\x00\x00", 0xb13910d23b5f63cb}, {"a", 0x973e4d9e937b1851}, {"b", 0x95daab61800ebdba}, {"c", 0x61cdd1b4af25c339}, {"d", 0x3c26b784a2274cc2}, {"e", 0x6f780bacc49b1619},
		{"ab", 0x5173988396cb8873}, {"ba", 0x8437a3d5ebc79bbf}, {"gauge", 0xff7d46d26dedb4da}, {"\xff\xfe", 0x4656b578897485a3}, {long(100), 0x8fa984d238773ffe},
	} {
		for _, k := range ks() {
			checkSame(t, added(t, of(k), c.text), of(k, c.h))
		}
		// it stands in its place, and the greatest one makes room
		for _, s := range []api.Least{of(2, 1, most), of(3, 1, 1<<63, most), of(4, 1, most)} {
			want := append(slices.Clone(s.H), c.h)
			slices.Sort(want)
			checkSame(t, added(t, s, c.text), of(s.K, want[:min(s.K, len(want))]...))
		}
	}
}

func TestP130AddKeepsTheLeast(t *testing.T) {
	const a, b, c, d, g = 0x973e4d9e937b1851, 0x95daab61800ebdba, 0x61cdd1b4af25c339, 0x3c26b784a2274cc2, 0xff7d46d26dedb4da
	s := of(3)
	for _, step := range []struct {
		text string
		want []uint64
	}{
		{"gauge", []uint64{g}}, {"gauge", []uint64{g}}, {"a", []uint64{a, g}}, {"b", []uint64{b, a, g}}, {"a", []uint64{b, a, g}}, {"gauge", []uint64{b, a, g}}, {"c", []uint64{c, b, a}}, {"gauge", []uint64{c, b, a}},
		{"a", []uint64{c, b, a}}, {"c", []uint64{c, b, a}}, {"d", []uint64{d, c, b}}, {"a", []uint64{d, c, b}}, {"", []uint64{0, d, c}}, {"\x00", []uint64{0, d, c}}, {"d", []uint64{0, d, c}}, {"", []uint64{0, d, c}},
	} {
		s = added(t, s, step.text)
		checkSame(t, s, of(3, step.want...))
	}
	// one above all that are kept is kept, too, where there is room
	checkSame(t, added(t, of(3, 1, 2), "gauge"), of(3, 1, 2, g))
	checkSame(t, added(t, of(3, 1, 2, 3), "gauge"), of(3, 1, 2, 3))
	checkSame(t, added(t, of(3, 1, 2, g), "gauge"), of(3, 1, 2, g))
	checkSame(t, added(t, of(3, 1, 2, g-1), "gauge"), of(3, 1, 2, g-1))
	checkSame(t, added(t, of(3, 1, 2, g+1), "gauge"), of(3, 1, 2, g))
	checkSame(t, added(t, of(3, g+1, g+2, g+3), "gauge"), of(3, g, g+1, g+2))
	checkSame(t, added(t, of(2, most-1, most), ""), of(2, 0, most-1))
	checkSame(t, added(t, of(64, run(1, 64)...), ""), of(64, run(0, 64)...))
	checkSame(t, added(t, of(64, run(1, 63)...), ""), of(64, run(0, 64)...))
	checkSame(t, added(t, of(64, run(0, 64)...), "\x00"), of(64, run(0, 64)...))
}

// It is as the model tells, after each text.
func TestP130AddIsTheModel(t *testing.T) {
	all := texts()
	for _, k := range ks() {
		for seed := range uint64(5) {
			a := fresh(t, k)
			for i := range uint64(150) {
				a.add(t, all[stir(1000*seed+i)>>20%(seed*25+5)])
				checkSame(t, a.s, a.model())
			}
		}
	}
}

// No bytes are as an empty list, and what was there is there.
func TestP130AddOfNothing(t *testing.T) {
	for _, b := range [][]byte{nil, {}} {
		if s, e := Add(of(2, 5), b); e != api.OK || !same(s, of(2, 0, 5)) {
			t.Error(s, e)
		}
	}
}

func TestP130AddHasNoOrder(t *testing.T) {
	for _, k := range ks() {
		up, down, twice := of(k), of(k), of(k)
		all := texts()
		for i := range all {
			up = added(t, up, all[i])
			down = added(t, down, all[len(all)-1-i])
			twice = added(t, added(t, twice, all[(31*i+5)%len(all)]), all[i])
		}
		checkSame(t, down, up)
		checkSame(t, twice, up)
		if len(up.H) != k {
			t.Error(k, up)
		}
	}
}

func TestP130MergeOfFew(t *testing.T) {
	for _, c := range []struct{ a, b, want api.Least }{
		{of(2), of(2), of(2)}, {of(2, 5), of(2), of(2, 5)}, {of(2, 5), of(2, 5), of(2, 5)}, {of(2, 5), of(2, 6), of(2, 5, 6)}, {of(2, 5, 7), of(2, 6), of(2, 5, 6)}, {of(2, 5, 7), of(2, 8), of(2, 5, 7)},
		{of(2, 5, 7), of(2, 1, 2), of(2, 1, 2)}, {of(2, 5, 7), of(2, 5, 6), of(2, 5, 6)}, {of(2, 5, 7), of(2, 5, 7), of(2, 5, 7)}, {of(2, 0, most), of(2, 1<<63), of(2, 0, 1<<63)}, {of(2, most), of(2, 0), of(2, 0, most)},
		{of(3, 1, 5, 9), of(3, 0, 5), of(3, 0, 1, 5)}, {of(3, 1, 5), of(3, 1, 5, 9), of(3, 1, 5, 9)}, {of(3, 1, 5, 9), of(3, 2, 5, 8), of(3, 1, 2, 5)}, {of(4, 1, 5, 9), of(4, 2, 5), of(4, 1, 2, 5, 9)},
		{of(64, run(0, 64)...), of(64, run(32, 64)...), of(64, run(0, 64)...)}, {of(64, run(0, 32)...), of(64, run(32, 32)...), of(64, run(0, 64)...)}, {of(64, run(0, 33)...), of(64, run(32, 32)...), of(64, run(0, 64)...)},
		{of(64, run(0, 32)...), of(64, run(33, 64)...), of(64, append(run(0, 32), run(33, 32)...)...)}, {of(64, run(most-63, 64)...), of(64), of(64, run(most-63, 64)...)},
	} {
		checkMerge(t, c.a, c.b, c.want)
		checkMerge(t, c.b, c.a, c.want)
	}
}

func TestP130MergeIsTheModel(t *testing.T) {
	for _, k := range ks() {
		all := trees(t, k)
		for i, a := range all {
			checkSame(t, a.s, a.model())
			b := all[(5*i+2)%len(all)]
			both := told{a.s, maps.Clone(a.came)}
			both.merge(t, b)
			checkSame(t, both.s, both.model())
		}
	}
}

// It is no matter who comes first, how often, nor what was merged ahead of it.
func TestP130MergeHasNoFirst(t *testing.T) {
	for _, k := range ks() {
		all := trees(t, k)
		for i, a := range all {
			b, c := all[(5*i+2)%len(all)], all[(7*i+3)%len(all)]
			checkSame(t, merged(t, b.s, a.s), merged(t, a.s, b.s))
			checkSame(t, merged(t, merged(t, a.s, b.s), c.s), merged(t, a.s, merged(t, b.s, c.s)))
			checkSame(t, merged(t, merged(t, a.s, b.s), b.s), merged(t, a.s, b.s))
			checkMerge(t, a.s, a.s, a.s)
			checkMerge(t, a.s, of(k), a.s)
			checkMerge(t, of(k), a.s, a.s)
			// with a sieve of one text it is as if that text were added
			for _, text := range []string{"", "a", "new"} {
				checkSame(t, added(t, a.s, text), merged(t, a.s, added(t, of(k), text)))
			}
		}
	}
}

func TestP130MergeIsOfOneK(t *testing.T) {
	for _, a := range forms() {
		for _, b := range forms() {
			if a.K != b.K {
				checkMergeFails(t, a, b, api.ErrArg)
				continue
			}
			want := slices.Concat(a.H, b.H)
			slices.Sort(want)
			want = slices.Compact(want)
			checkMerge(t, a, b, of(a.K, want[:min(a.K, len(want))]...))
		}
	}
	checkMergeFails(t, of(2), of(3), api.ErrArg)
	checkMergeFails(t, of(64), of(63), api.ErrArg)
	checkMergeFails(t, of(2, 1), of(3, 1), api.ErrArg)
}

// guess is what is to be told, in numbers without bound.
func guess(s api.Least) uint64 {
	if len(s.H) < s.K {
		return uint64(len(s.H))
	}
	n := new(big.Int).Lsh(big.NewInt(int64(s.K-1)), 64)
	behind := new(big.Int).SetUint64(s.H[len(s.H)-1])
	n.Div(n, behind.Add(behind, big.NewInt(1)))
	if !n.IsUint64() {
		return most
	}
	return n.Uint64()
}

func TestP131GuessOfFewerThanKIsHowMany(t *testing.T) {
	for k := 2; k <= 64; k++ {
		for n := range k {
			for _, from := range []uint64{0, 1, 1 << 63, most - 62} {
				checkGuess(t, of(k, run(from, n)...), uint64(n))
			}
		}
	}
	// a text that comes twice counts once
	for _, k := range ks() {
		s := of(k)
		for i := range k - 1 {
			for range 3 {
				s = added(t, s, "text "+strconv.Itoa(i))
				checkGuess(t, s, uint64(i+1))
			}
		}
	}
}

// The numbers are worked out outside of the program.
func TestP131GuessOfK(t *testing.T) {
	for _, c := range []struct {
		k           int
		greatest, n uint64
	}{
		{2, 1, 9223372036854775808}, {2, 2, 6148914691236517205}, {2, 3, 4611686018427387904}, {2, 4, 3689348814741910323}, {2, most, 1}, {2, most - 1, 1}, {2, 1 << 63, 1}, {2, 1<<63 - 1, 2}, {2, 1<<63 - 2, 2},
		{3, 2, 12297829382473034410}, {3, 3, 9223372036854775808}, {3, most, 2}, {3, most - 1, 2}, {3, 1 << 63, 3}, {17, 1 << 60, 255}, {17, 1<<60 - 1, 256}, {7, 123456789, 896511762878}, {10, 10000000000000000000, 16},
		{64, 63, 18158513697557839872}, {64, 64, 17879151948364642335}, {64, 99, 11621448766437017518}, {64, most, 63}, {64, most - 1, 63}, {64, most / 2, 126}, {64, 1000000000000000000, 1162},
	} {
		for _, ahead := range [][]uint64{run(0, c.k-1), run(c.greatest-uint64(c.k-1), c.k-1)} {
			checkGuess(t, of(c.k, append(ahead, c.greatest)...), c.n)
		}
	}
}

func TestP131GuessIsTheWholePart(t *testing.T) {
	for k := 2; k <= 64; k++ {
		checkGuess(t, of(k, run(0, k)...), guess(of(k, run(0, k)...)))
		for seed := range uint64(300) {
			// greatest ones of all lengths
			u := stir(uint64(k)*1000+seed) >> (seed % 58)
			greatest := max(u, uint64(k))
			s := of(k, append(run(0, k-1), greatest)...)
			checkGuess(t, s, guess(s))
			// where what is told goes from one number to the next
			edge, e := Guess(s)
			if e != api.OK {
				t.Fatal(s, e)
			}
			for _, near := range []uint64{1, 0} {
				at := new(big.Int).Lsh(big.NewInt(int64(k-1)), 64)
				at.Div(at, new(big.Int).SetUint64(max(edge-near, 1)))
				for by := range uint64(4) {
					if g := at.Uint64() - by; at.IsUint64() && g >= uint64(k-1) {
						s := of(k, append(run(0, k-1), g)...)
						checkGuess(t, s, guess(s))
					}
				}
			}
		}
	}
}

// Of what a sieve keeps the greatest number counts, and how many there are, not the others.
func TestP131GuessLooksAtTheGreatest(t *testing.T) {
	for _, k := range ks() {
		for seed := range uint64(40) {
			s := of(k)
			for i := range uint64(200) {
				s.H = append(s.H, stir(seed*777+i)>>(seed%40))
			}
			slices.Sort(s.H)
			s.H = slices.Compact(s.H)
			low := of(k, append(run(0, k-1), s.H[k-1])...)
			s.H = s.H[:k]
			checkGuess(t, s, guess(low))
		}
	}
}

// Guess is of what was added, in whatever pieces, and with K of 64 it is about so many.
func TestP131GuessIsAboutHowManyCame(t *testing.T) {
	for _, n := range []int{64, 65, 200, 1000, 5000} {
		whole, pieces := of(64), []api.Least{of(64), of(64), of(64)}
		for i := range n {
			text := "series " + strconv.Itoa(i)
			whole = added(t, whole, text)
			pieces[i%3] = added(t, pieces[i%3], text)
			pieces[i%7%3] = added(t, pieces[i%7%3], text)
		}
		both := merged(t, pieces[2], merged(t, pieces[0], pieces[1]))
		checkSame(t, both, whole)
		checkGuess(t, whole, guess(whole))
		if g, e := Guess(both); e != api.OK || g < uint64(n/2) || g > uint64(2*n) {
			t.Error(n, g, e)
		}
	}
}

func TestP1AllAnswerWhateverTheyAreGiven(t *testing.T) {
	edges := []uint64{0, 1, 2, 3, 62, 63, 64, 65, 1 << 31, 1 << 32, 1<<63 - 1, 1 << 63, 1<<63 + 1, most - 1, most}
	pick := func(u uint64) uint64 { return edges[stir(u)>>9%uint64(len(edges))] }
	some := func(u uint64) api.Least {
		s := of(int(pick(u)))
		if u>>3%8 > 0 {
			s.K = 2 + int(u>>7%3)
		}
		for i := range stir(u) >> 30 % 6 {
			s.H = append(s.H, pick(u+3+i))
		}
		// so that more of them are sieves
		if u>>5%4 > 0 {
			slices.Sort(s.H)
			s.H = slices.Compact(s.H)
		}
		return s
	}
	taken := 0
	for seed := range uint64(60000) {
		a, b := some(30*seed+seed>>4), some(31*seed+10)
		more, e := Add(a, []byte(texts()[seed%13]))
		if (e == api.OK) != (Check(more) == api.OK) || e != Check(a) || e != api.OK && !none(more) {
			t.Fatal(a, more, e)
		}
		both, e := Merge(a, b)
		if (e == api.OK) != (Check(both) == api.OK) || e != api.OK && !none(both) {
			t.Fatal(a, b, both, e)
		}
		if n, e := Guess(a); e != Check(a) || e == api.OK && n != guess(a) || e != api.OK && n != 0 {
			t.Fatal(a, n, e)
		}
		if s, e := Empty(a.K); (e == api.OK) != (Check(s) == api.OK) {
			t.Fatal(s, e)
		}
		if e == api.OK {
			taken++
		}
	}
	if taken < 1000 {
		t.Error("only", taken, "pairs of them were merged")
	}
}

// roomy is s with room behind its list, in which something stands.
func roomy(s api.Least) api.Least {
	s.H = slices.Concat(s.H, []uint64{71, 72, 73})[:len(s.H)]
	return s
}

// whole is s with the room behind its list.
func whole(s api.Least) api.Least {
	s.H = s.H[:cap(s.H)]
	return s
}

// spoil writes over all memory of s.
func spoil(s api.Least) {
	for i := range whole(s).H {
		whole(s).H[i] = 1000
	}
}

func TestP2NothingIsChangedOrShared(t *testing.T) {
	plain := []api.Least{of(3), of(3, 0), of(3, 5, most), of(3, 1, 5, 9), of(3, 0, 5, 9), of(3, most-2, most-1, most)}
	for _, a := range plain {
		for _, b := range plain {
			x, y, text := roomy(a), roomy(b), []byte("some text")[:4]
			keptX, keptY := copied(whole(x)), copied(whole(y))
			answers := func() []api.Least {
				old, _ := Add(x, nil)
				more, _ := Add(x, text)
				empty, _ := Empty(3)
				return []api.Least{old, more, empty, merged(t, x, y), merged(t, y, x), merged(t, x, x), merged(t, x, of(3)), merged(t, of(3), x)}
			}
			var first []api.Least
			for _, s := range answers() {
				first = append(first, copied(s))
				spoil(s)
			}
			Guess(x)
			Check(x)
			if !same(whole(x), keptX) || !same(whole(y), keptY) || string(text[:9]) != "some text" {
				t.Fatalf("what was handed in is changed: %v, %v, %q, want %v, %v", whole(x), whole(y), text[:9], keptX, keptY)
			}
			second := answers()
			spoil(x)
			spoil(y)
			clear(text)
			for i, s := range second {
				if !same(s, first[i]) {
					t.Fatalf("%d: %v, want %v", i, s, first[i])
				}
			}
		}
	}
}
