package rate

import (
	"math"
	"math/big"
	"slices"
	"testing"

	"gaugehouse/api"
)

// stir makes unlike numbers from like ones, the same in each run.
func stir(u uint64) uint64 {
	u = (u + 1) * 0x9e3779b97f4a7c15
	u = (u ^ u>>29) * 0xbf58476d1ce4e5b9
	return u ^ u>>32
}

// row are samples, told as T, V, T, V and so on.
func row(l ...int64) []api.Sample {
	var out []api.Sample
	for i := 0; i < len(l); i += 2 {
		out = append(out, api.Sample{T: l[i], V: l[i+1]})
	}
	return out
}

// counter are samples at the times 0, 1, 2 and so on.
func counter(values ...int64) []api.Sample {
	var out []api.Sample
	for i, v := range values {
		out = append(out, api.Sample{T: int64(i), V: v})
	}
	return out
}

// even are n samples from first on, step apart, that grow by one each.
func even(n int, first, step int64) []api.Sample {
	var l []api.Sample
	for i := range n {
		l = append(l, api.Sample{T: first + int64(i)*step, V: int64(i)})
	}
	return l
}

// some are samples with times from first to first + span - 1, about every third of them, that mostly grow, with
// measures of at most so many bits.
func some(seed int, first int64, span int, size uint) []api.Sample {
	var l []api.Sample
	was := int64(0)
	for i := range span {
		u := stir(uint64(1000*seed + i))
		if u%3 != 0 {
			continue
		}
		is := int64(stir(u) >> (64 - size))
		if u>>8%4 != 0 {
			is = max(is, was)
		}
		l = append(l, api.Sample{T: first + int64(i), V: is})
		was = is
	}
	return l
}

// rows are many lists of samples of counters.
func rows() [][]api.Sample {
	all := [][]api.Sample{
		nil, {}, counter(0), counter(7), counter(7, 9, 2), counter(5, 5, 5), counter(3, 2, 1, 0), counter(0, math.MaxInt64, 0, math.MaxInt64),
		row(-api.MaxTime, 3, api.MaxTime, 9), row(-api.MaxTime, 3, api.MaxTime-1, 9), row(math.MinInt64, 4, 0, 1, math.MaxInt64, 6),
		even(api.MaxRun, -500, 1), even(api.MaxRun, -api.MaxTime, 1<<51),
	}
	for seed := range 20 {
		for _, size := range []uint{1, 3, 10, 23, 40, 61, 63} {
			all = append(all, some(seed, int64(5*seed-60), 8*seed, size))
		}
		all = append(all, some(seed+50, -api.MaxTime, 60, 10), some(seed+80, api.MaxTime-59, 60, 10))
	}
	return all
}

// modelGrown adds up with numbers of any size, and only then takes them modulo 2^64.
func modelGrown(l []api.Sample) (*big.Int, int) {
	grown, anew := new(big.Int), 0
	for i, s := range l {
		if i == 0 {
			continue
		}
		grown.Add(grown, big.NewInt(s.V))
		if was := l[i-1].V; s.V < was {
			anew++
		} else {
			grown.Sub(grown, big.NewInt(was))
		}
	}
	return grown.Mod(grown, new(big.Int).Lsh(big.NewInt(1), 64)), anew
}

// modelPer takes arguments that are in their bounds.
func modelPer(l []api.Sample, from, to, unit int64) (int64, api.Errno) {
	var part []api.Sample
	for _, s := range l {
		if from <= s.T && s.T < to {
			part = append(part, s)
		}
	}
	if len(part) < 2 {
		return 0, api.ErrFew
	}
	grown, _ := modelGrown(part)
	grown.Mul(grown, big.NewInt(unit))
	if !grown.IsInt64() {
		return 0, api.ErrLarge
	}
	far := new(big.Int).Sub(big.NewInt(part[len(part)-1].T), big.NewInt(part[0].T))
	return grown.Div(grown, far).Int64(), api.OK
}

func checkGrown(t *testing.T, l []api.Sample, want uint64, anew int) {
	t.Helper()
	if n, k, e := Grown(l); n != want || k != anew || e != api.OK {
		t.Errorf("Grown(%v) = %d, %d, %d, want %d, %d", l, n, k, e, want, anew)
	}
}

func checkGrownFails(t *testing.T, l []api.Sample, want api.Errno) {
	t.Helper()
	if n, k, e := Grown(l); n != 0 || k != 0 || e != want {
		t.Errorf("Grown of %d: %d, %d, %d, want %d", len(l), n, k, e, want)
	}
}

func checkPer(t *testing.T, l []api.Sample, from, to, unit, want int64) {
	t.Helper()
	if n, e := Per(l, from, to, unit); n != want || e != api.OK {
		t.Errorf("Per(%v, %d, %d, %d) = %d, %d, want %d", l, from, to, unit, n, e, want)
	}
}

func checkPerFails(t *testing.T, l []api.Sample, from, to, unit int64, want api.Errno) {
	t.Helper()
	if n, e := Per(l, from, to, unit); n != 0 || e != want {
		t.Errorf("Per of %d from %d to %d, unit %d: %d, %d, want %d", len(l), from, to, unit, n, e, want)
	}
}

// faults are lists of samples that are no counter's, with what is told of them.
func faults() []struct {
	l    []api.Sample
	want api.Errno
} {
	below := even(api.MaxRun, 0, 1)
	below[api.MaxRun-1].V = -1
	late := even(api.MaxRun, 0, 1)
	late[api.MaxRun-1].T = late[api.MaxRun-2].T
	return []struct {
		l    []api.Sample
		want api.Errno
	}{
		{even(api.MaxRun+1, 0, 1), api.ErrLarge}, {even(5000, 0, 1), api.ErrLarge},
		{row(3, 0, 3, 0), api.ErrOrder}, {row(4, 0, 3, 0), api.ErrOrder}, {row(1, 1, 3, 3, 2, 5), api.ErrOrder}, {late, api.ErrOrder},
		{row(math.MaxInt64, 0, math.MinInt64, 0), api.ErrOrder},
		{counter(-1), api.ErrRange}, {counter(math.MinInt64), api.ErrRange}, {counter(-1, 5), api.ErrRange}, {counter(5, -1), api.ErrRange},
		{counter(5, -1, 9), api.ErrRange}, {counter(1, 2, 3, math.MinInt64), api.ErrRange}, {counter(-5, -4), api.ErrRange}, {below, api.ErrRange},
		// Check's error is first, wherever a V below 0 stands
		{row(2, -1, 1, 5), api.ErrOrder}, {row(1, -1, 2, 5, 2, 5), api.ErrOrder}, {row(2, 5, 1, -1), api.ErrOrder},
		{make([]api.Sample, api.MaxRun+1), api.ErrLarge}, {append(below, api.Sample{T: 5000, V: -1}), api.ErrLarge},
	}
}

func TestP90GrownOfFew(t *testing.T) {
	for _, c := range []struct {
		l    []api.Sample
		want uint64
		anew int
	}{
		{nil, 0, 0}, {[]api.Sample{}, 0, 0}, {counter(0), 0, 0}, {counter(9), 0, 0}, {counter(math.MaxInt64), 0, 0},
		{counter(7, 9, 2), 4, 1}, {counter(7, 9), 2, 0}, {counter(9, 2), 2, 1}, {counter(0, 1), 1, 0}, {counter(1, 0), 0, 1},
		// one that stays has not begun anew, also at 0
		{counter(5, 5), 0, 0}, {counter(0, 0), 0, 0}, {counter(5, 5, 5, 6, 6), 1, 0}, {counter(5, 0, 0, 0, 3), 3, 1},
		// one less is anew, and counts whole
		{counter(5, 4), 4, 1}, {counter(5, 4, 3, 2, 1, 0), 10, 5}, {counter(0, 5, 0, 5, 0, 5), 15, 2}, {counter(3, 8, 1, 4, 2), 5 + 1 + 3 + 2, 2},
		// the times are no matter
		{row(-100, 7, -50, 9, 1<<50, 2), 4, 1}, {row(math.MinInt64, 7, 0, 9, math.MaxInt64, 2), 4, 1},
		{row(-api.MaxTime-1, 0, api.MaxTime+1, 3), 3, 0},
	} {
		checkGrown(t, c.l, c.want, c.anew)
	}
}

func TestP90GrownGoesRound(t *testing.T) {
	const most = math.MaxInt64
	checkGrown(t, counter(0, most), most, 0)
	checkGrown(t, counter(0, most, most-1), 2*most-1, 1)
	checkGrown(t, counter(0, most, 0, most), 2*most, 1)
	checkGrown(t, counter(0, most, 0, most, 0, 1), math.MaxUint64, 2)
	checkGrown(t, counter(0, most, 0, most, 0, 2), 0, 2)
	checkGrown(t, counter(0, most, 0, most, 0, 7), 5, 2)
	checkGrown(t, counter(0, most, 0, most, 0, most), most-2, 2)
}

func TestP90GrownIsTheModel(t *testing.T) {
	for _, l := range rows() {
		want, anew := modelGrown(l)
		checkGrown(t, l, want.Uint64(), anew)
	}
}

// What is cut at a sample that both parts have has grown by what both have grown.
func TestP90GrownOfTwoPartsIsGrownAtOnce(t *testing.T) {
	for i, l := range rows() {
		if len(l) == 0 {
			continue
		}
		n, anew, _ := Grown(l)
		for k := range 5 {
			cut := int(stir(uint64(100*i+k))>>20) % len(l)
			a, x, _ := Grown(l[:cut+1])
			b, y, _ := Grown(l[cut:])
			if a+b != n || x+y != anew {
				t.Fatalf("%v at %d: %d and %d, %d and %d, want %d, %d", l, cut, a, b, x, y, n, anew)
			}
		}
	}
}

func TestP90GrownHasItsBounds(t *testing.T) {
	checkGrown(t, even(api.MaxRun, 0, 1), api.MaxRun-1, 0)
	down := even(api.MaxRun, 0, 1)
	for i := range down {
		down[i].V = int64(api.MaxRun - i)
	}
	checkGrown(t, down, 999*1000/2, api.MaxRun-1)
	for _, c := range faults() {
		checkGrownFails(t, c.l, c.want)
	}
}

func TestP91PerOfFew(t *testing.T) {
	l := row(0, 10, 10, 30, 20, 5, 30, 8) // grows by 20, by 5 and by 3
	for _, c := range [][4]int64{
		{0, 31, 1, 0}, {0, 31, 2, 1}, {0, 31, 10, 9}, {0, 31, 30, 28}, {0, 31, 60, 56}, {0, 31, 15, 14}, {0, 31, 14, 13}, {0, 31, 3, 2},
		// the first one counts from itself on, whatever stands ahead of it
		{0, 30, 20, 25}, {10, 31, 20, 8}, {20, 31, 10, 3}, {10, 21, 10, 5}, {0, 11, 1, 2}, {0, 20, 10, 20},
		// by how far the samples are apart, not from and to
		{-1000, 1000, 30, 28}, {-5, 15, 10, 20}, {1, 25, 10, 5}, {-api.MaxTime, api.MaxTime, 30, 28},
		{0, 31, api.MaxT, 28 * api.MaxT / 30},
	} {
		checkPer(t, l, c[0], c[1], c[2], c[3])
	}
	checkPer(t, counter(7, 9, 2), 0, 3, 1, 2)
	checkPer(t, counter(7, 9, 2), 0, 3, 60, 120)
	checkPer(t, counter(5, 5), 0, 2, api.MaxT, 0)
	checkPer(t, row(-3, 1, -1, 8), -3, 0, 1, 3)
	checkPer(t, row(-20, 0, -10, 7), -20, -9, 10, 7)
}

func TestP91FromIsInAndToIsNot(t *testing.T) {
	l := row(10, 0, 20, 100, 30, 300)
	checkPer(t, l, 10, 31, 10, 150)
	checkPer(t, l, 11, 31, 10, 200)
	checkPer(t, l, 20, 31, 10, 200)
	checkPer(t, l, 10, 30, 10, 100)
	checkPer(t, l, 10, 21, 10, 100)
	for _, c := range [][2]int64{{21, 31}, {20, 30}, {10, 20}, {11, 30}, {0, 10}, {30, 31}, {31, 99}, {12, 13}, {-9, 9}, {-api.MaxTime, 20}, {21, api.MaxTime}} {
		checkPerFails(t, l, c[0], c[1], 10, api.ErrFew)
	}
	for _, l := range [][]api.Sample{nil, {}, row(5, 5), row(api.MaxTime, 1), row(0, 3, api.MaxTime, 8), row(-api.MaxTime-1, 3, 0, 8)} {
		checkPerFails(t, l, -api.MaxTime, api.MaxTime, 1, api.ErrFew)
	}
}

func TestP91PerIsTheModel(t *testing.T) {
	ends := []int64{-api.MaxTime, -api.MaxTime + 20, -50, -10, 0, 1, 30, 70, 500, api.MaxTime - 20, api.MaxTime}
	for _, l := range rows() {
		for i, from := range ends {
			for _, to := range ends[i+1:] {
				for _, unit := range []int64{1, 2, 7, 60, 1000, 1 << 22, 1<<40 - 1, api.MaxT} {
					want, bad := modelPer(l, from, to, unit)
					if n, e := Per(l, from, to, unit); n != want || e != bad {
						t.Fatalf("Per(%v, %d, %d, %d) = %d, %d, want %d, %d", l, from, to, unit, n, e, want, bad)
					}
				}
			}
		}
	}
}

func TestP91PerHasItsBounds(t *testing.T) {
	far := int64(api.MaxTime + 1)
	for _, l := range [][]api.Sample{nil, row(5, 5), counter(7, 9, 2), counter(0, math.MaxInt64, 0, math.MaxInt64)} {
		for _, c := range [][3]int64{
			{5, 5, 1}, {6, 5, 1}, {0, 0, 1}, {-1, -2, 1}, {api.MaxTime, -api.MaxTime, 1}, {api.MaxTime, api.MaxTime, 1}, {math.MaxInt64, math.MinInt64, 1},
			{-far, 9, 1}, {0, far, 1}, {-far, far, 1}, {far, far + 1, 1}, {-far - 1, -far, 1}, {math.MinInt64, 9, 1}, {0, math.MaxInt64, 1}, {math.MinInt64, math.MaxInt64, 1},
			{0, 9, 0}, {0, 9, -1}, {0, 9, -60}, {0, 9, math.MinInt64}, {0, 9, api.MaxT + 1}, {0, 9, math.MaxInt64}, {0, 9, -api.MaxT},
		} {
			checkPerFails(t, l, c[0], c[1], c[2], api.ErrArg)
		}
	}
	checkPer(t, counter(7, 9, 2), -api.MaxTime, api.MaxTime, api.MaxT, 2*api.MaxT)
	checkPer(t, row(-api.MaxTime, 0, -api.MaxTime+1, 3), -api.MaxTime, -api.MaxTime+2, 1, 3)
	checkPer(t, row(api.MaxTime-2, 0, api.MaxTime-1, 3), api.MaxTime-2, api.MaxTime, 1, 3)
	// as far apart as two samples can be
	wide := row(-api.MaxTime, 0, api.MaxTime-1, math.MaxInt64)
	checkPer(t, wide, -api.MaxTime, api.MaxTime, 1, 4)
	wide[1].V = 1<<61 - 1
	checkPer(t, wide, -api.MaxTime, api.MaxTime, 1, 1)
	wide[1].V--
	checkPer(t, wide, -api.MaxTime, api.MaxTime, 1, 0)
	checkPer(t, even(api.MaxRun, 0, 1), 0, api.MaxRun, 7, 7)
}

func TestP91PerHasABound(t *testing.T) {
	for _, unit := range []int64{1, 2, 3, 7, 60, 3600, 1 << 20, 1<<40 - 1, api.MaxT} {
		most := math.MaxInt64 / unit
		checkPer(t, counter(0, most), 0, 2, unit, most*unit)
		checkPer(t, row(0, 0, 9, most), 0, 10, unit, most*unit/9)
		if unit > 1 {
			// also where what is told would be small
			checkPerFails(t, counter(0, most+1), 0, 2, unit, api.ErrLarge)
			checkPerFails(t, row(-api.MaxTime, 0, api.MaxTime-1, most+1), -api.MaxTime, api.MaxTime, unit, api.ErrLarge)
			checkPerFails(t, counter(0, math.MaxInt64), 0, 2, unit, api.ErrLarge)
		}
		checkPerFails(t, counter(0, math.MaxInt64, 1), 0, 3, unit, api.ErrLarge)
		checkPerFails(t, counter(0, math.MaxInt64, 0, math.MaxInt64), 0, 4, unit, api.ErrLarge)
	}
	// a product that goes round to a small number
	checkPerFails(t, counter(0, 1<<62), 0, 2, 4, api.ErrLarge)
	checkPerFails(t, counter(0, 1<<62+1), 0, 2, 4, api.ErrLarge)
	checkPerFails(t, counter(0, 1<<24), 0, 2, api.MaxT, api.ErrLarge)
	checkPer(t, counter(0, 1<<23-1), 0, 2, api.MaxT, 1<<63-api.MaxT)
	// Grown of these is modulo 2^64, and so is what it is told by here
	checkPer(t, counter(0, math.MaxInt64, 0, math.MaxInt64, 0, 2), 0, 6, 60, 0)
	checkPer(t, counter(0, math.MaxInt64, 0, math.MaxInt64, 0, 7), 0, 6, 60, 60)
	// only what is in the range is asked
	checkPer(t, counter(0, math.MaxInt64, 0, 5, 6), 2, 5, 2, 6)
}

func TestP91PerTellsTheFirstError(t *testing.T) {
	for _, c := range faults() {
		for _, a := range [][3]int64{
			{0, 5000, 1}, {5, 5, 1}, {9, 5, 0}, {0, 31, 0}, {0, 31, api.MaxT + 1}, {math.MinInt64, math.MaxInt64, 1},
			// of all samples, also of those that are not from from to to - 1
			{-20, -10, 1}, {1000000, 2000000, 1},
		} {
			checkPerFails(t, c.l, a[0], a[1], a[2], c.want)
		}
	}
	checkPerFails(t, counter(1, 2, 3, -1), 0, 2, 1, api.ErrRange)
	checkPerFails(t, counter(-1, 2, 3, 4), 2, 4, 1, api.ErrRange)
	checkPerFails(t, nil, 5, 5, 1, api.ErrArg)
	checkPerFails(t, nil, 5, 6, 0, api.ErrArg)
	checkPerFails(t, nil, 5, 6, 1, api.ErrFew)
	checkPerFails(t, counter(0, math.MaxInt64), 0, 2, api.MaxT+1, api.ErrArg)
	checkPerFails(t, counter(0, math.MaxInt64), 0, 1, api.MaxT, api.ErrFew)
	checkPerFails(t, counter(0, math.MaxInt64), 0, 2, api.MaxT, api.ErrLarge)
}

func TestP1AllAnswerWhateverTheyAreGiven(t *testing.T) {
	edges := []int64{math.MinInt64, math.MinInt64 + 1, -api.MaxTime - 1, -api.MaxTime, -1, 0, 1, 2, api.MaxT, api.MaxTime, api.MaxTime + 1, math.MaxInt64 - 1, math.MaxInt64}
	pick := func(u uint64) int64 { return edges[stir(u)>>9%uint64(len(edges))] }
	for seed := range uint64(50000) {
		var l []api.Sample
		for i := range seed % 4 {
			u := 20*seed + 2*i
			l = append(l, api.Sample{T: pick(u), V: pick(u + 1)})
		}
		// so that more of them are a counter's
		if seed>>3%2 == 0 {
			slices.SortFunc(l, func(a, b api.Sample) int { return big.NewInt(a.T).Cmp(big.NewInt(b.T)) })
		}
		n, anew, bad := Grown(l)
		if bad != api.OK && (n != 0 || anew != 0) || anew < 0 || anew > len(l) {
			t.Fatal(l, n, anew, bad)
		}
		per, e := Per(l, pick(20*seed+10), pick(20*seed+11), pick(20*seed+12))
		if bad != api.OK && e != bad || e != api.OK && per != 0 || per < 0 {
			t.Fatal(l, per, e, bad)
		}
	}
}

func TestP2NothingIsChangedOrKept(t *testing.T) {
	room := append(counter(7, 9, 2, 5), row(-1, -1, -2, -2)...)
	l, kept := room[:4], slices.Clone(room)
	for range 3 {
		checkGrown(t, l, 7, 1)
		checkPer(t, l, 0, 4, 3, 7)
		checkPer(t, l, 1, 3, 3, 6)
		checkPerFails(t, l, 0, 1, 3, api.ErrFew)
		checkPerFails(t, room, 0, 4, 3, api.ErrOrder)
	}
	if !slices.Equal(room, kept) {
		t.Error("what was handed in is changed", room)
	}
	l[3].V = 1
	checkGrown(t, l, 5, 2)
	checkPer(t, l, 0, 4, 3, 5)
}
