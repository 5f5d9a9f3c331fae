package sketch

import (
	"maps"
	"math"
	"slices"
	"strings"
	"testing"

	"gaugehouse/api"
	"gaugehouse/hash"
)

// stir makes unlike numbers from like ones, the same in each run.
func stir(u uint64) uint64 {
	u = (u + 1) * 0x9e3779b97f4a7c15
	u = (u ^ u>>29) * 0xbf58476d1ce4e5b9
	return u ^ u>>32
}

// shape is D and W of a sketch.
type shape struct{ d, w int }

// told is a sketch, and how much of each key it tells.
type told struct {
	s    api.Sketch
	came map[string]int64
}

// inCell is how much came of those keys that have this cell of this row.
func (a *told) inCell(row, cell int) int64 {
	sum := int64(0)
	for key, n := range a.came {
		if hash.Of(uint64(row), []byte(key))%uint64(a.s.W) == uint64(cell) {
			sum += n
		}
	}
	return sum
}

// model is the sketch in another way: cell by cell, out of all that came.
func (a *told) model() api.Sketch {
	s := api.Sketch{D: a.s.D, W: a.s.W}
	for row := range a.s.D {
		for cell := range a.s.W {
			s.C = append(s.C, a.inCell(row, cell))
		}
	}
	for _, n := range a.came {
		s.N += n
	}
	return s
}

// count is what is to be told of a key: the least that came in one of its cells.
func (a *told) count(key string) int64 {
	var all []int64
	for row := range a.s.D {
		all = append(all, a.inCell(row, int(hash.Of(uint64(row), []byte(key))%uint64(a.s.W))))
	}
	return slices.Min(all)
}

func (a *told) add(t *testing.T, key string, n int64) {
	t.Helper()
	a.s = added(t, a.s, key, n)
	a.came[key] += n
}

func (a *told) merge(t *testing.T, b told) {
	t.Helper()
	a.s = merged(t, a.s, b.s)
	for key, n := range b.came {
		a.came[key] += n
	}
}

func fresh(t *testing.T, f shape) told {
	t.Helper()
	s, e := Empty(f.d, f.w)
	if e != api.OK {
		t.Fatal(f, e)
	}
	return told{s, map[string]int64{}}
}

func shapes() []shape {
	return []shape{{1, 1}, {1, 2}, {2, 1}, {3, 3}, {2, 5}, {5, 2}, {8, 1}, {8, 3}, {1, 200}, {4, 64}, {7, 31}, {8, 200}}
}

func keys() []string {
	return []string{"", "\x00", "\x00\x00", "a", "b", "ab", "ba", "a\x00", "ä", "\x7f", "\x80", "\xff", "\xff\xfe", "gauge", long(39), long(40), long(41), long(1000)}
}

func long(n int) string { return strings.Repeat("k", n) }

// trees are sketches of one shape to which keys were added and others merged, one into another.
func trees(t *testing.T, f shape) []told {
	t.Helper()
	var out []told
	for seed := range uint64(12) {
		a := fresh(t, f)
		for i := range stir(seed) >> 20 % 30 {
			u := stir(100*seed + i)
			a.add(t, keys()[u>>20%uint64(len(keys()))], int64(u>>40%100))
			if i%7 == 6 {
				b := fresh(t, f)
				b.add(t, keys()[u>>30%uint64(len(keys()))], int64(u>>50))
				b.add(t, keys()[u>>10%uint64(len(keys()))], int64(u>>14%1000000007))
				if i%2 == 1 {
					a, b = b, a
				}
				a.merge(t, b)
			}
		}
		out = append(out, a)
	}
	return out
}

func same(a, b api.Sketch) bool {
	return a.D == b.D && a.W == b.W && a.N == b.N && slices.Equal(a.C, b.C)
}

// none tells whether s is what an error leaves.
func none(s api.Sketch) bool { return s.D == 0 && s.W == 0 && s.N == 0 && s.C == nil }

// copied is s in memory of its own.
func copied(s api.Sketch) api.Sketch {
	s.C = slices.Clone(s.C)
	return s
}

func added(t *testing.T, s api.Sketch, key string, n int64) api.Sketch {
	t.Helper()
	more, e := Add(s, key, n)
	if e != api.OK || Check(more) != api.OK {
		t.Fatalf("Add(%v, %q, %d) = %v, %d", s, key, n, more, e)
	}
	return more
}

func merged(t *testing.T, a, b api.Sketch) api.Sketch {
	t.Helper()
	s, e := Merge(a, b)
	if e != api.OK || Check(s) != api.OK {
		t.Fatalf("Merge(%v, %v) = %v, %d", a, b, s, e)
	}
	return s
}

// rows is a sketch of these rows, each as long as the first one and as great.
func rows(all ...[]int64) api.Sketch {
	s := api.Sketch{D: len(all), W: len(all[0]), C: slices.Concat(all...)}
	for _, n := range all[0] {
		s.N += n
	}
	return s
}

func row(cells ...int64) []int64 { return cells }

// flat is a sketch of which all cells are this number.
func flat(d, w int, number int64) api.Sketch {
	return api.Sketch{D: d, W: w, C: slices.Repeat(row(number), d*w), N: int64(w) * number}
}

// forms are sketches that Check takes, also such as no keys would have made.
func forms() []api.Sketch {
	return []api.Sketch{
		flat(1, 1, 0), flat(1, 1, 1), flat(1, 1, api.MaxTime), flat(8, 200, 0), flat(8, 200, 7), flat(8, 1, api.MaxTime), flat(1, 200, api.MaxTime/200/200*200), flat(8, 128, api.MaxTime/128),
		flat(2, 3, 0), flat(2, 3, 5), flat(3, 2, 5), flat(1, 2, api.MaxTime/2), flat(2, 2, api.MaxTime/2), flat(1, 6, 5), flat(6, 1, 5),
		rows(row(0, 9), row(9, 0)), rows(row(1, 2, 3), row(3, 3, 0)), rows(row(6, 0, 0)), rows(row(0, 0, 6), row(0, 6, 0), row(2, 2, 2)), rows(row(5), row(5), row(5)),
		rows(row(api.MaxTime, 0)), rows(row(0, api.MaxTime), row(1, api.MaxTime-1)), rows(row(api.MaxTime-1, 0), row(1, api.MaxTime-2)), rows(row(1, 0), row(0, 1)),
	}
}

// faults are sketches that Check refuses.
func faults() []api.Sketch {
	all := []api.Sketch{
		{}, {D: 1}, {W: 1}, {D: -1, W: -1, C: row(0)}, {D: -1, W: 1}, {D: 1, W: -1}, {W: 5}, {D: 5}, {C: row(0)}, {D: 1, W: 1}, {D: 8, W: 200},
		flat(9, 1, 0), flat(9, 200, 3), flat(1, 201, 0), flat(8, 201, 2), flat(16, 100, 0), flat(200, 8, 0), flat(4, 256, 0),
		// a product that goes round
		{D: math.MinInt, W: 2}, {D: 2, W: math.MinInt}, {D: 1 << 32, W: 1 << 32}, {D: 8, W: 1 << 61}, {D: 1 << 61, W: 8}, {D: math.MaxInt, W: math.MaxInt, C: row(0)}, {D: 1<<32 + 1, W: 1, C: row(0)},
		{D: 1, W: 1<<32 + 1, C: row(0)}, {D: 1 << 62, W: 4}, {D: math.MinInt, W: math.MinInt},
		// not as many cells
		{D: 1, W: 2, C: row(1), N: 1}, {D: 2, W: 1, C: row(1), N: 1}, {D: 1, W: 1, C: row(1, 0), N: 1}, {D: 1, W: 1, C: row(1, 1), N: 1}, {D: 2, W: 2, C: row(1, 1, 2), N: 2}, {D: 2, W: 2, C: row(1, 1, 2, 0, 0), N: 2},
		{D: 2, W: 2, C: row(1, 1, 2, 0, 0, 2), N: 2}, {D: 2, W: 3, C: row(1, 1), N: 2}, {D: 2, W: 2, C: row(1, 1), N: 2},
		// a number that is not one
		{D: 1, W: 1, C: row(-1), N: -1}, {D: 1, W: 1, C: row(api.MaxTime + 1), N: api.MaxTime + 1}, {D: 1, W: 1, C: row(math.MaxInt64), N: math.MaxInt64}, {D: 1, W: 1, C: row(math.MinInt64), N: math.MinInt64},
		{D: 1, W: 2, C: row(2, -1), N: 1}, {D: 1, W: 2, C: row(-1, 2), N: 1}, {D: 1, W: 3, C: row(1, -1, 0)}, {D: 1, W: 2, C: row(api.MaxTime+1, -1), N: api.MaxTime}, {D: 2, W: 2, C: row(1, 0, 2, -1), N: 1},
		{D: 1, W: 2, C: row(api.MaxTime, 1), N: api.MaxTime + 1}, {D: 1, W: 2, C: row(math.MinInt64, math.MinInt64)}, {D: 1, W: 1, C: row(-5), N: 0}, {D: 1, W: 2, C: row(0, 0), N: -1},
		// rows that are not N
		{D: 1, W: 1, C: row(0), N: 1}, {D: 1, W: 1, C: row(1)}, {D: 1, W: 2, C: row(1, 1), N: 1}, {D: 1, W: 2, C: row(1, 1), N: 3}, {D: 2, W: 1, C: row(1, 0), N: 1}, {D: 2, W: 1, C: row(0, 1), N: 1},
		{D: 2, W: 2, C: row(1, 2, 2, 2), N: 3}, {D: 2, W: 2, C: row(2, 2, 1, 2), N: 3}, {D: 2, W: 2, C: row(3, 3, 0, 0), N: 3}, {D: 2, W: 2, C: row(0, 0, 3, 3), N: 3}, {D: 3, W: 2, C: row(1, 2, 3, 1, 2, 1), N: 3},
		{D: 8, W: 1, C: row(4, 4, 4, 4, 4, 4, 4, 5), N: 4}, {D: 8, W: 1, C: row(5, 4, 4, 4, 4, 4, 4, 4), N: 4},
		// a row that goes round
		{D: 1, W: 2, C: row(1<<62, 1<<62), N: math.MinInt64}, {D: 1, W: 4, C: row(1<<62, 1<<62, 1<<62, 1<<62)}, {D: 1, W: 5, C: row(1<<62, 1<<62, 1<<62, 1<<62, 5), N: 5},
	}
	round := flat(1, 16, api.MaxTime)
	round.N = 0
	all = append(all, round)
	for _, s := range forms() {
		less, more, first, last := s, s, copied(s), copied(s)
		less.N--
		more.N++
		first.C[0]++
		last.C[len(last.C)-1]++
		short, roomy := copied(s), copied(s)
		short.C = short.C[:len(short.C)-1]
		roomy.C = append(roomy.C, 0)
		all = append(all, less, more, first, last, short, roomy)
	}
	return all
}

func checkAdd(t *testing.T, s api.Sketch, key string, n int64, want api.Sketch) {
	t.Helper()
	if a, e := Add(s, key, n); e != api.OK || !same(a, want) || Check(a) != api.OK {
		t.Errorf("Add(%v, %q, %d) = %v, %d, want %v", s, key, n, a, e, want)
	}
}

func checkAddFails(t *testing.T, s api.Sketch, key string, n int64, want api.Errno) {
	t.Helper()
	if a, e := Add(s, key, n); !none(a) || e != want {
		t.Errorf("Add(%v, %q, %d) = %v, %d, want %d", s, key, n, a, e, want)
	}
}

func checkMergeFails(t *testing.T, a, b api.Sketch, want api.Errno) {
	t.Helper()
	if s, e := Merge(a, b); !none(s) || e != want {
		t.Errorf("Merge(%v, %v) = %v, %d, want %d", a, b, s, e, want)
	}
}

func checkCount(t *testing.T, s api.Sketch, key string, want int64) {
	t.Helper()
	if n, e := Count(s, key); n != want || e != api.OK {
		t.Errorf("Count(%v, %q) = %d, %d, want %d", s, key, n, e, want)
	}
}

func checkSame(t *testing.T, s, want api.Sketch) {
	t.Helper()
	if !same(s, want) {
		t.Errorf("%v, want %v", s, want)
	}
}

func TestP120EmptyIsOfNoKeys(t *testing.T) {
	for d := -3; d < 20; d++ {
		for w := -3; w < 300; w++ {
			s, e := Empty(d, w)
			if 1 <= d && d <= 8 && 1 <= w && w <= 200 {
				if e != api.OK || !same(s, flat(d, w, 0)) || Check(s) != api.OK {
					t.Error(d, w, s, e)
				}
			} else if e != api.ErrArg || !none(s) {
				t.Error(d, w, s, e)
			}
		}
	}
	for _, far := range []int{math.MinInt, -200, -8, 201, 1 << 32, 1<<32 + 1, 1 << 61, 1 << 62, math.MaxInt} {
		for _, other := range []int{math.MinInt, -1, 0, 1, 2, 8, 200, 1 << 32, math.MaxInt} {
			for _, c := range []shape{{far, other}, {other, far}} {
				if s, e := Empty(c.d, c.w); e != api.ErrArg || !none(s) {
					t.Error(c, s, e)
				}
			}
		}
	}
}

func TestP120CheckTakesSketches(t *testing.T) {
	for i, s := range forms() {
		if e := Check(s); e != api.OK {
			t.Errorf("%d: %v: %d", i, s, e)
		}
	}
}

func TestP120CheckRefusesWhatIsNone(t *testing.T) {
	for i, s := range faults() {
		if e := Check(s); e != api.ErrForm {
			t.Errorf("%d: %v: %d", i, s, e)
		}
	}
}

// Each cell of a sound sketch that becomes one more or one less makes it none, and so does each that takes from another row.
func TestP120CheckLooksAtEachCell(t *testing.T) {
	for _, f := range shapes() {
		s := flat(f.d, f.w, 3)
		for cell := range s.C {
			for _, by := range []int64{-4, -1, 1, math.MinInt64, math.MaxInt64 - 2, 1 << 62} {
				bad := copied(s)
				bad.C[cell] += by
				if e := Check(bad); e != api.ErrForm {
					t.Errorf("%v: %d", bad, e)
				}
			}
			bad := copied(s)
			bad.C[cell]++
			bad.C[(cell+f.w)%len(bad.C)]--
			if e := Check(bad); f.d > 1 && e != api.ErrForm {
				t.Errorf("%v: %d", bad, e)
			}
		}
	}
}

// What is no sketch is told ahead of all else.
func TestP120WhatIsNoSketchIsRefusedByAll(t *testing.T) {
	for _, s := range faults() {
		for _, key := range []string{"", "a", long(41)} {
			for _, n := range []int64{math.MinInt64, -1, 0, 1, api.MaxTime, math.MaxInt64} {
				checkAddFails(t, s, key, n, api.ErrForm)
			}
			if n, e := Count(s, key); n != 0 || e != api.ErrForm {
				t.Errorf("Count(%v, %q) = %d, %d", s, key, n, e)
			}
		}
		for _, other := range []api.Sketch{flat(1, 1, 0), flat(2, 3, 4), flat(8, 1, api.MaxTime), s} {
			checkMergeFails(t, s, other, api.ErrForm)
			checkMergeFails(t, other, s, api.ErrForm)
		}
	}
}

// The cells are worked out outside of the program.
func TestP120AKeyHasItsCells(t *testing.T) {
	for _, c := range []struct {
		w     int
		key   string
		cells [8]int
	}{
		{7, "", [8]int{0, 4, 1, 4, 6, 4, 4, 3}}, {7, "x", [8]int{1, 5, 2, 2, 4, 6, 4, 1}}, {7, "gauge", [8]int{6, 4, 1, 2, 2, 6, 1, 1}},
		{200, "", [8]int{0, 11, 166, 60, 3, 125, 81, 84}}, {200, "x", [8]int{44, 163, 195, 161, 75, 128, 169, 120}}, {200, "\x00", [8]int{0, 130, 178, 134, 115, 135, 182, 23}},
		{200, "\xff\xfe", [8]int{91, 37, 5, 100, 163, 2, 67, 18}}, {200, long(100), [8]int{166, 25, 181, 78, 46, 20, 173, 73}}, {1, "x", [8]int{}}, {2, "x", [8]int{0, 1, 1, 1, 1, 0, 1, 0}},
		{199, "gauge", [8]int{126, 177, 115, 177, 42, 20, 166, 97}}, {199, "\xff\xfe", [8]int{93, 180, 144, 164, 113, 122, 127, 54}},
	} {
		for d := 1; d <= 8; d++ {
			want := flat(d, c.w, 0)
			for i := range d {
				want.C[i*c.w+c.cells[i]] = 9
			}
			want.N = 9
			checkAdd(t, flat(d, c.w, 0), c.key, 9, want)
			// the cells are told apart by what stands in them
			for i := range d {
				s := flat(d, c.w, 0)
				s.N = 9
				for j := range d {
					s.C[j*c.w+c.cells[j]] = 9
				}
				s.C[i*c.w+c.cells[i]] -= 2
				s.C[i*c.w+(c.cells[i]+1)%c.w] += 2
				if c.w > 1 {
					checkCount(t, s, c.key, 7)
				}
			}
		}
	}
}

// With two rows of four cells a has 1 and 0, b has 2 and 3, c has 1 and 3, d has 2 and 1.
func TestP121AddAndCountOfFew(t *testing.T) {
	s := flat(2, 4, 0)
	s = added(t, s, "a", 5)
	checkSame(t, s, rows(row(0, 5, 0, 0), row(5, 0, 0, 0)))
	s = added(t, s, "b", 2)
	checkSame(t, s, rows(row(0, 5, 2, 0), row(5, 0, 0, 2)))
	checkCount(t, s, "a", 5)
	checkCount(t, s, "b", 2)
	// it never came, but a has its one cell and b its other one
	checkCount(t, s, "c", 2)
	checkCount(t, s, "d", 0)
	s = added(t, s, "c", 1)
	checkSame(t, s, rows(row(0, 6, 2, 0), row(5, 0, 0, 3)))
	checkCount(t, s, "a", 5)
	checkCount(t, s, "b", 2)
	checkCount(t, s, "c", 3)
	s = added(t, s, "c", 0)
	checkSame(t, s, rows(row(0, 6, 2, 0), row(5, 0, 0, 3)))
	s = added(t, s, "a", 10)
	checkSame(t, s, rows(row(0, 16, 2, 0), row(15, 0, 0, 3)))
	checkCount(t, s, "a", 15)
	checkCount(t, s, "c", 3)
}

func TestP121CountIsTheLeastOfTheKeysCells(t *testing.T) {
	for _, f := range shapes() {
		for _, key := range keys() {
			for least := range f.d {
				s := flat(f.d, f.w, 50)
				for i := range f.d {
					cell := int(hash.Of(uint64(i), []byte(key)) % uint64(f.w))
					by := int64(10 + i)
					if i == least {
						by = -10
					}
					s.C[i*f.w+cell] += by
					s.C[i*f.w+(cell+1)%f.w] -= by
				}
				if f.w > 1 {
					checkCount(t, s, key, 40)
				} else {
					checkCount(t, s, key, 50)
				}
			}
		}
	}
	checkCount(t, flat(8, 1, api.MaxTime), "", api.MaxTime)
	checkCount(t, flat(8, 200, 0), "never", 0)
}

func TestP121AddIsTheModel(t *testing.T) {
	for _, f := range shapes() {
		a := fresh(t, f)
		for i, key := range slices.Concat(keys(), keys()) {
			a.add(t, key, int64(stir(uint64(i))>>20%1000))
			checkSame(t, a.s, a.model())
		}
	}
}

// Also to sketches that no keys would have made.
func TestP121AddToForms(t *testing.T) {
	for _, s := range forms() {
		for _, key := range keys() {
			for _, n := range []int64{0, 1, 2, 1000, api.MaxTime - s.N - 1, api.MaxTime - s.N, api.MaxTime} {
				if n < 0 || s.N+n > api.MaxTime {
					continue
				}
				want := copied(s)
				want.N += n
				for i := range s.D {
					want.C[i*s.W+int(hash.Of(uint64(i), []byte(key))%uint64(s.W))] += n
				}
				checkAdd(t, s, key, n, want)
			}
		}
	}
}

func TestP121AddHasItsBounds(t *testing.T) {
	for _, s := range forms() {
		for _, n := range []int64{-1, -2, -s.N, -s.N - 1, -api.MaxTime, math.MinInt64, math.MinInt64 + s.N} {
			if n < 0 {
				checkAddFails(t, s, "a", n, api.ErrArg)
			}
		}
		for _, n := range []int64{api.MaxTime - s.N + 1, api.MaxTime + 1, math.MaxInt64, math.MaxInt64 - s.N, math.MaxInt64 - s.N + 1} {
			if n > 0 {
				checkAddFails(t, s, "a", n, api.ErrLarge)
			}
		}
		most := added(t, s, "a", api.MaxTime-s.N)
		checkAdd(t, most, "b", 0, most)
		checkAddFails(t, most, "b", 1, api.ErrLarge)
	}
	checkAdd(t, flat(1, 1, 0), "", api.MaxTime, flat(1, 1, api.MaxTime))
	checkAdd(t, flat(1, 1, api.MaxTime), "", 0, flat(1, 1, api.MaxTime))
}

func TestP121MergeOfFew(t *testing.T) {
	for _, c := range []struct{ a, b, want api.Sketch }{
		{flat(2, 2, 0), flat(2, 2, 0), flat(2, 2, 0)},
		{flat(1, 1, 3), flat(1, 1, 4), flat(1, 1, 7)},
		{flat(8, 200, 3), flat(8, 200, 4), flat(8, 200, 7)},
		{rows(row(1, 2), row(3, 0)), flat(2, 2, 0), rows(row(1, 2), row(3, 0))},
		{rows(row(1, 2), row(3, 0)), rows(row(10, 20), row(0, 30)), rows(row(11, 22), row(3, 30))},
		{rows(row(1, 0, 0)), rows(row(0, 0, 1)), rows(row(1, 0, 1))},
		{rows(row(9), row(9), row(9)), rows(row(1), row(1), row(1)), rows(row(10), row(10), row(10))},
		{flat(2, 2, api.MaxTime/4), flat(2, 2, api.MaxTime/4), flat(2, 2, api.MaxTime/2)},
		{rows(row(api.MaxTime-1, 0)), rows(row(1, 0)), rows(row(api.MaxTime, 0))},
	} {
		checkSame(t, merged(t, c.a, c.b), c.want)
		checkSame(t, merged(t, c.b, c.a), c.want)
	}
}

func TestP121MergeIsTheModel(t *testing.T) {
	for _, f := range shapes() {
		for _, a := range trees(t, f) {
			checkSame(t, a.s, a.model())
			for _, key := range slices.Concat(keys(), []string{"never", "c", "d", "e", "\x01"}) {
				checkCount(t, a.s, key, a.count(key))
			}
		}
	}
}

// It is no matter who comes first, nor what was merged ahead of it.
func TestP121MergeHasNoFirst(t *testing.T) {
	for _, f := range shapes() {
		all := trees(t, f)
		for i, a := range all {
			b, c := all[(5*i+2)%len(all)], all[(7*i+3)%len(all)]
			checkSame(t, merged(t, b.s, a.s), merged(t, a.s, b.s))
			checkSame(t, merged(t, merged(t, a.s, b.s), c.s), merged(t, a.s, merged(t, b.s, c.s)))
			checkSame(t, merged(t, a.s, flat(f.d, f.w, 0)), a.s)
			checkSame(t, merged(t, flat(f.d, f.w, 0), a.s), a.s)
			// with a sketch of one key it is as if that key were added
			for _, key := range []string{"", "a", "new"} {
				checkAdd(t, a.s, key, 4, merged(t, a.s, added(t, flat(f.d, f.w, 0), key, 4)))
			}
		}
	}
}

func TestP121MergeHasItsBounds(t *testing.T) {
	for _, a := range forms() {
		for _, b := range forms() {
			switch {
			case a.D != b.D || a.W != b.W:
				checkMergeFails(t, a, b, api.ErrArg)
			case a.N+b.N > api.MaxTime:
				checkMergeFails(t, a, b, api.ErrLarge)
			default:
				want := copied(a)
				want.N += b.N
				for i, n := range b.C {
					want.C[i] += n
				}
				checkSame(t, merged(t, a, b), want)
			}
		}
	}
	// as many cells, but not the same rows: ahead of what would be too large
	checkMergeFails(t, flat(2, 3, 0), flat(3, 2, 0), api.ErrArg)
	checkMergeFails(t, flat(1, 2, api.MaxTime/2), flat(2, 1, api.MaxTime), api.ErrArg)
	checkMergeFails(t, flat(2, 3, 1), flat(2, 4, 1), api.ErrArg)
	checkMergeFails(t, flat(2, 3, 1), flat(3, 3, 1), api.ErrArg)
	for _, n := range []int64{0, 1, 5, api.MaxTime / 2, api.MaxTime - 1, api.MaxTime} {
		checkSame(t, merged(t, flat(3, 1, n), flat(3, 1, api.MaxTime-n)), flat(3, 1, api.MaxTime))
		if n > 0 {
			checkMergeFails(t, flat(3, 1, n), flat(3, 1, api.MaxTime-n+1), api.ErrLarge)
			checkMergeFails(t, flat(3, 1, api.MaxTime-n+1), flat(3, 1, n), api.ErrLarge)
		}
	}
	checkMergeFails(t, flat(3, 1, api.MaxTime), flat(3, 1, api.MaxTime), api.ErrLarge)
}

// One that came is never told to have come less often, and none to have come more often than all together.
func TestP121WhatIsToldIsWithinItsBound(t *testing.T) {
	for _, f := range shapes() {
		for _, a := range trees(t, f) {
			all := int64(0)
			for _, n := range a.came {
				all += n
			}
			if a.s.N != all {
				t.Fatalf("%v of %d", a.s, all)
			}
			for _, key := range slices.Concat(slices.Collect(maps.Keys(a.came)), []string{"never", "nor this", "\x01"}) {
				if n, e := Count(a.s, key); e != api.OK || n < a.came[key] || n > all {
					t.Fatalf("Count(%v, %q) = %d, %d, %d came of %d", a.s, key, n, e, a.came[key], all)
				}
			}
		}
	}
}

func TestP1AllAnswerWhateverTheyAreGiven(t *testing.T) {
	edges := []int64{math.MinInt64, -api.MaxTime, -1, 0, 1, 2, 3, 8, 9, 200, 201, 1 << 32, api.MaxTime - 1, api.MaxTime, api.MaxTime + 1, 1 << 62, math.MaxInt64}
	pick := func(u uint64) int64 { return edges[stir(u)>>9%uint64(len(edges))] }
	some := func(u uint64) api.Sketch {
		s := api.Sketch{D: int(pick(u)), W: int(pick(u + 1)), N: pick(u + 2)}
		for i := range u % 7 {
			s.C = append(s.C, pick(u+3+i))
		}
		// so that more of them are sketches
		if u>>3%8 > 0 {
			s = flat(1+int(u>>7%2), 1+int(u>>9%2), int64(stir(u)>>20%5))
			s.C[0] += int64(u >> 11 % 8 / 7)
		}
		if u>>14%16 == 0 {
			s = flat(2, 1, api.MaxTime)
		}
		return s
	}
	taken := 0
	for seed := range uint64(60000) {
		a, b := some(30*seed+seed>>4), some(31*seed+10)
		more, e := Add(a, keys()[seed%uint64(len(keys()))], pick(seed))
		if (e == api.OK) != (Check(more) == api.OK) || e != api.OK && !none(more) {
			t.Fatal(a, more, e)
		}
		both, e := Merge(a, b)
		if (e == api.OK) != (Check(both) == api.OK) || e != api.OK && !none(both) {
			t.Fatal(a, b, both, e)
		}
		if n, e := Count(a, "a"); n < 0 || n > max(a.N, 0) || e != api.OK && n != 0 {
			t.Fatal(a, n, e)
		}
		if s, e := Empty(a.D, int(pick(seed))); (e == api.OK) != (Check(s) == api.OK) {
			t.Fatal(s, e)
		}
		if Check(a) == api.OK && Check(b) == api.OK {
			taken++
		}
	}
	if taken < 1000 {
		t.Error("only", taken, "pairs of them were sketches")
	}
}

// roomy is s with room behind its list, in which something stands.
func roomy(s api.Sketch) api.Sketch {
	s.C = slices.Concat(s.C, row(-71, -72, -73))[:len(s.C)]
	return s
}

// whole is s with the room behind its list.
func whole(s api.Sketch) api.Sketch {
	s.C = s.C[:cap(s.C)]
	return s
}

// spoil writes over all memory of s.
func spoil(s api.Sketch) {
	for i := range whole(s).C {
		whole(s).C[i] = -1000
	}
}

func TestP2NothingIsChangedOrShared(t *testing.T) {
	plain := []api.Sketch{flat(2, 2, 0), flat(2, 2, 7), rows(row(0, 9), row(9, 0)), rows(row(1, 2), row(2, 1)), rows(row(5, 0), row(0, 5))}
	for _, a := range plain {
		for _, b := range plain {
			x, y := roomy(a), roomy(b)
			keptX, keptY := copied(whole(x)), copied(whole(y))
			answers := func() []api.Sketch {
				none, _ := Add(x, "a", 0)
				some, _ := Add(x, "z", 3)
				empty, _ := Empty(2, 2)
				return []api.Sketch{none, some, empty, merged(t, x, y), merged(t, y, x), merged(t, x, x), merged(t, x, flat(2, 2, 0))}
			}
			var first []api.Sketch
			for _, s := range answers() {
				first = append(first, copied(s))
				spoil(s)
			}
			Count(x, "a")
			Check(x)
			if !same(whole(x), keptX) || !same(whole(y), keptY) {
				t.Fatalf("what was handed in is changed: %v, %v, want %v, %v", whole(x), whole(y), keptX, keptY)
			}
			second := answers()
			spoil(x)
			spoil(y)
			for i, s := range second {
				if !same(s, first[i]) {
					t.Fatalf("%d: %v, want %v", i, s, first[i])
				}
			}
		}
	}
}
