package roll

import (
	"math"
	"math/big"
	"slices"
	"testing"

	"gaugehouse/api"
)

// stir makes unlike numbers from like ones, the same in each run.
func stir(u uint64) uint64 {
	u = (u + 1) * 0x9e3779b97f4a7c15
	u = (u ^ u>>29) * 0xbf58476d1ce4e5b9
	return u ^ u>>32
}

// row are samples, told as T, V, T, V and so on.
func row(l ...int64) []api.Sample {
	var out []api.Sample
	for i := 0; i < len(l); i += 2 {
		out = append(out, api.Sample{T: l[i], V: l[i+1]})
	}
	return out
}

// even are n samples from first on, step apart.
func even(n int, first, step int64) []api.Sample {
	var l []api.Sample
	for i := range n {
		l = append(l, api.Sample{T: first + int64(i)*step, V: int64(i)})
	}
	return l
}

// some are samples with times from first to first + span - 1, about every third of them, with measures of all sizes.
func some(seed int, first int64, span int) []api.Sample {
	var l []api.Sample
	for i := range span {
		if u := stir(uint64(1000*seed + i)); u%3 == 0 {
			l = append(l, api.Sample{T: first + int64(i), V: int64(stir(u)) >> (u >> 8 % 64)})
		}
	}
	return l
}

// rows are many lists of samples that Roll takes.
func rows() [][]api.Sample {
	all := [][]api.Sample{
		nil, {}, row(0, 0), row(-1, 5), row(-7, 4, -5, 1, -1, 3, 0, 2, 4, 9, 9, 5), row(-api.MaxTime, -3, 0, 5, api.MaxTime, 7),
		row(-api.MaxTime, 1, -api.MaxTime+1, 2, api.MaxTime-1, 3, api.MaxTime, 4), row(0, math.MaxInt64, 1, 1, 2, math.MinInt64, 3, -1),
		even(api.MaxRun, -500, 1), even(api.MaxRun, -api.MaxTime, 1<<51), even(api.MaxRun, 1<<40-3, 1<<40),
	}
	for seed := range 30 {
		all = append(all, some(seed, int64(7*seed-100), 10*seed), some(seed+50, -api.MaxTime, 60), some(seed+80, api.MaxTime-59, 60))
	}
	return all
}

func widths() []int64 {
	return []int64{1, 2, 3, 5, 7, 10, 60, 100, 999, 1000, 1 << 30, 1<<40 - 1, 1 << 40}
}

func window(t, n, sum, low, high, first, last int64) api.Window {
	return api.Window{T: t, N: n, Sum: sum, Min: low, Max: high, First: first, Last: last}
}

// at is a window of one 0.
func at(t int64) api.Window { return api.Window{T: t, N: 1} }

// apart are n windows of one 0 each, from first on, step apart.
func apart(n int, first, step int64) []api.Window {
	var l []api.Window
	for i := range n {
		l = append(l, at(first+int64(i)*step))
	}
	return l
}

// many is a window of n fives.
func many(t, n int64) api.Window { return window(t, n, 5*n, 5, 5, 5, 5) }

// modelBegin is the multiple of width from which on, less than width farther, t stands.
func modelBegin(t, width int64) int64 {
	q, m := new(big.Int), new(big.Int)
	q.DivMod(big.NewInt(t), big.NewInt(width), m)
	return q.Mul(q, big.NewInt(width)).Int64()
}

// modelSum is worked out with numbers of any size, and only then taken modulo 2^64.
func modelSum(values []int64) int64 {
	sum, round := new(big.Int), new(big.Int).Lsh(big.NewInt(1), 64)
	for _, v := range values {
		sum.Add(sum, big.NewInt(v))
	}
	if sum.Mod(sum, round).Cmp(big.NewInt(math.MaxInt64)) > 0 {
		sum.Sub(sum, round)
	}
	return sum.Int64()
}

// modelRoll puts the measures into heaps by their multiple, and asks each heap by itself.
func modelRoll(l []api.Sample, width int64) []api.Window {
	heaps := map[int64][]int64{}
	var begins []int64
	for _, s := range l {
		t := modelBegin(s.T, width)
		if heaps[t] == nil {
			begins = append(begins, t)
		}
		heaps[t] = append(heaps[t], s.V)
	}
	slices.Sort(begins)
	var want []api.Window
	for _, t := range begins {
		h := heaps[t]
		want = append(want, window(t, int64(len(h)), modelSum(h), slices.Min(h), slices.Max(h), h[0], h[len(h)-1]))
	}
	return want
}

func rolled(t *testing.T, l []api.Sample, width int64) []api.Window {
	t.Helper()
	a, e := Roll(l, width)
	if e != api.OK {
		t.Fatalf("Roll of %d by %d: %d", len(l), width, e)
	}
	return a
}

func checkRollFails(t *testing.T, l []api.Sample, width int64, want api.Errno) {
	t.Helper()
	if a, e := Roll(l, width); a != nil || e != want {
		t.Errorf("Roll of %d by %d: %d windows, %d, want %d", len(l), width, len(a), e, want)
	}
}

func checkAgain(t *testing.T, l []api.Window, width int64, want []api.Window) {
	t.Helper()
	if a, e := Again(l, width); e != api.OK || !slices.Equal(a, want) {
		t.Errorf("Again(%v, %d) = %v, %d, want %v", l, width, a, e, want)
	}
}

func checkAgainFails(t *testing.T, l []api.Window, width int64, want api.Errno) {
	t.Helper()
	if a, e := Again(l, width); a != nil || e != want {
		t.Errorf("Again of %d by %d: %d windows, %d, want %d", len(l), width, len(a), e, want)
	}
}

func checkJoin(t *testing.T, a, b, want []api.Window) {
	t.Helper()
	if l, e := Join(a, b); e != api.OK || !slices.Equal(l, want) {
		t.Errorf("Join(%v, %v) = %v, %d, want %v", a, b, l, e, want)
	}
}

func checkJoinFails(t *testing.T, a, b []api.Window, want api.Errno) {
	t.Helper()
	if l, e := Join(a, b); l != nil || e != want {
		t.Errorf("Join of %d and %d: %d windows, %d, want %d", len(a), len(b), len(l), e, want)
	}
}

// faults are lists of windows with what Check tells of them.
func faults() []struct {
	l    []api.Window
	want api.Errno
} {
	bad := window(9, 0, 0, 0, 0, 0, 0)
	late := apart(api.MaxRun, 0, 2)
	late[api.MaxRun-1].T = late[api.MaxRun-2].T
	unsound := apart(api.MaxRun, 0, 2)
	unsound[api.MaxRun-1].N = 0
	return []struct {
		l    []api.Window
		want api.Errno
	}{
		{apart(api.MaxRun+1, 0, 1), api.ErrLarge}, {apart(5000, 0, 1), api.ErrLarge},
		// how many there are is looked at ahead of all else
		{make([]api.Window, api.MaxRun+1), api.ErrLarge}, {apart(api.MaxRun+1, 0, -1), api.ErrLarge},
		{[]api.Window{{}}, api.ErrForm}, {[]api.Window{bad}, api.ErrForm}, {unsound, api.ErrForm},
		{[]api.Window{at(3), at(3)}, api.ErrOrder}, {[]api.Window{at(4), at(3)}, api.ErrOrder}, {[]api.Window{at(math.MaxInt64), at(math.MinInt64)}, api.ErrOrder},
		{[]api.Window{at(math.MinInt64), at(math.MinInt64)}, api.ErrOrder}, {[]api.Window{at(1), at(3), at(2), at(4)}, api.ErrOrder}, {late, api.ErrOrder},
		{[]api.Window{at(0), many(0, 1)}, api.ErrOrder},
		// one by one, and of one window its form first
		{[]api.Window{at(5), at(4), bad}, api.ErrOrder}, {[]api.Window{at(5), bad, at(4)}, api.ErrForm}, {[]api.Window{at(10), bad}, api.ErrForm}, {[]api.Window{bad, at(1)}, api.ErrForm},
	}
}

func TestP80CheckTakesWindows(t *testing.T) {
	for i, l := range [][]api.Window{
		nil, {}, {at(0)}, {at(-5), at(0), many(1, 3)}, {at(math.MinInt64), at(math.MaxInt64)}, apart(api.MaxRun, -500, 1), apart(api.MaxRun, -1<<62, 1<<53),
		{many(0, 1)}, {many(0, api.MaxCount)}, {window(0, 2, 0, math.MinInt64, math.MaxInt64, math.MinInt64, math.MaxInt64)},
		{window(0, 2, 0, math.MinInt64, math.MaxInt64, math.MaxInt64, math.MinInt64)}, {window(0, 1, -6, -6, -6, -6, -6)},
	} {
		if e := Check(l); e != api.OK {
			t.Errorf("%d: %d", i, e)
		}
	}
}

// What samples could not have made is taken, if it is not asked for.
func TestP80CheckAsksForNoMore(t *testing.T) {
	for _, w := range []api.Window{
		window(0, 1, 99, 5, 5, 5, 5), window(0, 1, math.MinInt64, 5, 5, 5, 5), window(0, 1, 9, 4, 5, 4, 5), window(0, 1, 9, 0, 9, 4, 5),
		window(0, 2, 0, 0, 9, 4, 4), window(3, 2, 0, 0, 0, 0, 0), window(api.MaxTime+1, 2, 0, 0, 0, 0, 0),
	} {
		if e := Check([]api.Window{w}); e != api.OK {
			t.Errorf("%v: %d", w, e)
		}
	}
}

func TestP80AWindowHasItsForm(t *testing.T) {
	for _, n := range []int64{math.MinInt64, -1, 0, 1, 2, api.MaxCount - 1, api.MaxCount, api.MaxCount + 1, math.MaxInt64} {
		want := api.ErrForm
		if 1 <= n && n <= api.MaxCount {
			want = api.OK
		}
		if e := Check([]api.Window{many(0, n)}); e != want {
			t.Errorf("N %d: %d, want %d", n, e, want)
		}
	}
	values := []int64{math.MinInt64, -1, 0, 1, math.MaxInt64}
	for i := range 625 {
		low, high, first, last := values[i%5], values[i/5%5], values[i/25%5], values[i/125]
		want := api.OK
		if low > first || low > last || low > high || high < first || high < last {
			want = api.ErrForm
		}
		if e := Check([]api.Window{window(0, 2, 0, low, high, first, last)}); e != want {
			t.Errorf("Min %d, Max %d, First %d, Last %d: %d, want %d", low, high, first, last, e, want)
		}
	}
}

func TestP80CheckTellsTheFirstError(t *testing.T) {
	for i, c := range faults() {
		if e := Check(c.l); e != c.want {
			t.Errorf("%d: %d, want %d", i, e, c.want)
		}
	}
}

func TestP80WrongWindowsAreRefusedByAll(t *testing.T) {
	for _, c := range faults() {
		for _, width := range []int64{1, 0, -1, api.MaxT, api.MaxT + 1} {
			checkAgainFails(t, c.l, width, c.want)
		}
		for _, other := range [][]api.Window{nil, {many(1, 1)}, apart(api.MaxRun, 0, 1)} {
			checkJoinFails(t, c.l, other, c.want)
			checkJoinFails(t, other, c.l, c.want)
		}
		for _, d := range faults() {
			checkJoinFails(t, c.l, d.l, c.want)
		}
	}
}

func TestP81RollOfFew(t *testing.T) {
	l := row(-7, 4, -5, 1, -1, 3, 0, 2, 4, 9, 9, 5)
	for _, c := range []struct {
		l     []api.Sample
		width int64
		want  []api.Window
	}{
		{nil, 5, nil}, {[]api.Sample{}, 1, nil}, {row(0, 7), 5, []api.Window{window(0, 1, 7, 7, 7, 7, 7)}}, {row(-1, 7), 5, []api.Window{window(-5, 1, 7, 7, 7, 7, 7)}},
		{l, 5, []api.Window{window(-10, 1, 4, 4, 4, 4, 4), window(-5, 2, 4, 1, 3, 1, 3), window(0, 2, 11, 2, 9, 2, 9), window(5, 1, 5, 5, 5, 5, 5)}},
		{l, 10, []api.Window{window(-10, 3, 8, 1, 4, 4, 3), window(0, 3, 16, 2, 9, 2, 5)}},
		{l, api.MaxT, []api.Window{window(-api.MaxT, 3, 8, 1, 4, 4, 3), window(0, 3, 16, 2, 9, 2, 5)}},
		{row(-2, 6, -1, -6, 0, 0), 1, []api.Window{window(-2, 1, 6, 6, 6, 6, 6), window(-1, 1, -6, -6, -6, -6, -6), window(0, 1, 0, 0, 0, 0, 0)}},
		// the least and the greatest are neither first nor last
		{row(0, 2, 1, -9, 2, 9, 3, 3), 4, []api.Window{window(0, 4, 5, -9, 9, 2, 3)}},
		// there is no window where there are no samples
		{row(0, 1, 100, 2), 10, []api.Window{window(0, 1, 1, 1, 1, 1, 1), window(100, 1, 2, 2, 2, 2, 2)}},
	} {
		if a, e := Roll(c.l, c.width); e != api.OK || !slices.Equal(a, c.want) {
			t.Errorf("Roll(%v, %d) = %v, %d, want %v", c.l, c.width, a, e, c.want)
		}
	}
}

func TestP81RollIsTheModel(t *testing.T) {
	for i, l := range rows() {
		for _, width := range widths() {
			a := rolled(t, l, width)
			if want := modelRoll(l, width); !slices.Equal(a, want) {
				t.Fatalf("%d by %d: %v, want %v", i, width, a, want)
			}
			if e := Check(a); e != api.OK {
				t.Fatalf("%d by %d: %v, %d", i, width, a, e)
			}
		}
	}
}

func TestP80SumGoesRound(t *testing.T) {
	for _, c := range []struct {
		l    []api.Sample
		want int64
	}{
		{row(0, math.MaxInt64, 1, 1), math.MinInt64}, {row(0, math.MinInt64, 1, -1), math.MaxInt64}, {row(0, math.MinInt64, 1, math.MinInt64), 0},
		{row(0, math.MaxInt64, 1, math.MaxInt64), -2}, {row(0, math.MaxInt64, 1, math.MaxInt64, 2, 3), 1}, {row(0, math.MaxInt64, 1, 1, 2, -1), math.MaxInt64},
	} {
		if a := rolled(t, c.l, 10); len(a) != 1 || a[0].Sum != c.want {
			t.Errorf("%v: %v, want %d", c.l, a, c.want)
		}
		checkAgain(t, rolled(t, c.l, 1), 10, rolled(t, c.l, 10))
	}
	checkJoin(t, []api.Window{window(0, 1, math.MaxInt64, 0, 0, 0, 0)}, []api.Window{window(0, 1, 2, 0, 0, 0, 0)},
		[]api.Window{window(0, 2, math.MinInt64+1, 0, 0, 0, 0)})
}

func TestP81RollHasItsBounds(t *testing.T) {
	l := row(1, 5, 3, 6)
	for _, width := range []int64{math.MinInt64, -api.MaxT, -5, -1, 0, api.MaxT + 1, 1 << 60, math.MaxInt64} {
		for _, l := range [][]api.Sample{nil, l, row(-api.MaxTime, 0, api.MaxTime, 0), even(api.MaxRun, 0, 1)} {
			checkRollFails(t, l, width, api.ErrArg)
		}
	}
	for _, width := range []int64{1, api.MaxT} {
		for _, time := range []int64{math.MinInt64, -api.MaxTime - 1, api.MaxTime + 1, math.MaxInt64} {
			checkRollFails(t, row(time, 0), width, api.ErrRange)
			if time < 0 {
				checkRollFails(t, row(time, 0, 0, 0, 1, 0), width, api.ErrRange)
			} else {
				checkRollFails(t, row(0, 0, 1, 0, time, 0), width, api.ErrRange)
			}
		}
		rolled(t, row(-api.MaxTime, 0), width)
		rolled(t, row(api.MaxTime, 0), width)
	}
}

func TestP81RollTellsTheFirstError(t *testing.T) {
	far := int64(api.MaxTime + 1)
	for _, width := range []int64{0, 1, api.MaxT + 1} {
		checkRollFails(t, row(3, 0, 3, 0), width, api.ErrOrder)
		checkRollFails(t, row(far, 0, 3, 0), width, api.ErrOrder)
		checkRollFails(t, even(api.MaxRun+1, 0, 1), width, api.ErrLarge)
		checkRollFails(t, even(api.MaxRun+1, far, -1), width, api.ErrLarge)
	}
	checkRollFails(t, row(far, 0), 0, api.ErrArg)
	checkRollFails(t, row(-far, 0), api.MaxT+1, api.ErrArg)
}

// A window may begin ahead of the least time that a sample may have.
func TestP81AWindowBeginsAtItsMultiple(t *testing.T) {
	for _, c := range [][3]int64{
		{-api.MaxTime, 3, -api.MaxTime - 2}, {-api.MaxTime, 1, -api.MaxTime}, {-api.MaxTime, api.MaxT, -api.MaxTime}, {api.MaxTime, api.MaxT, api.MaxTime},
		{api.MaxTime, 3, api.MaxTime - 1}, {-1, api.MaxT, -api.MaxT}, {-api.MaxT, api.MaxT, -api.MaxT}, {api.MaxT - 1, api.MaxT, 0}, {-4, 5, -5}, {-5, 5, -5}, {-6, 5, -10},
		{4, 5, 0}, {5, 5, 5}, {6, 5, 5}, {0, 5, 0}, {-1, 1, -1},
	} {
		if a := rolled(t, row(c[0], 8), c[1]); !slices.Equal(a, []api.Window{window(c[2], 1, 8, 8, 8, 8, 8)}) {
			t.Errorf("%d by %d: %v, want %d", c[0], c[1], a, c[2])
		}
		checkAgain(t, []api.Window{at(c[0])}, c[1], []api.Window{at(c[2])})
	}
	// such a window is one of Check's, and not one that can be rolled up again
	a := rolled(t, row(-api.MaxTime, 0), 3)
	if e := Check(a); e != api.OK {
		t.Error(e)
	}
	checkAgainFails(t, a, 3, api.ErrRange)
}

func TestP81AgainPutsTogether(t *testing.T) {
	l := []api.Window{window(-10, 1, 4, 4, 4, 4, 4), window(-5, 2, 4, 1, 3, 1, 3), window(0, 2, 11, 2, 9, 2, 9), window(5, 1, 5, 5, 5, 5, 5)}
	checkAgain(t, nil, 5, nil)
	checkAgain(t, []api.Window{}, 5, nil)
	checkAgain(t, l, 5, l)
	checkAgain(t, l, 1, l)
	checkAgain(t, l, 10, []api.Window{window(-10, 3, 8, 1, 4, 4, 3), window(0, 3, 16, 2, 9, 2, 5)})
	// by their T alone, wherever they end, and of no width of their own
	checkAgain(t, l, 3, []api.Window{window(-12, 1, 4, 4, 4, 4, 4), window(-6, 2, 4, 1, 3, 1, 3), window(0, 2, 11, 2, 9, 2, 9), window(3, 1, 5, 5, 5, 5, 5)})
	checkAgain(t, []api.Window{at(-7), at(-1), at(1), at(2), at(8)}, 5, []api.Window{at(-10), at(-5), window(0, 2, 0, 0, 0, 0, 0), at(5)})
	// First of the first, Last of the last, not the least and the greatest of them
	checkAgain(t, []api.Window{window(0, 5, 7, -3, 9, 4, 2), window(1, 6, 8, -1, 7, 0, 0), window(2, 2, -1, -2, 8, 8, -2)}, 4,
		[]api.Window{window(0, 13, 14, -3, 9, 4, -2)})
	checkAgain(t, []api.Window{window(0, 5, 7, 1, 2, 2, 1), window(1, 6, 8, -1, 7, 0, 0)}, 4, []api.Window{window(0, 11, 15, -1, 7, 2, 0)})
}

func TestP81RolledUpAgainIsRolledAtOnce(t *testing.T) {
	for _, l := range rows() {
		for _, width := range []int64{1, 2, 5, 60, 1 << 20} {
			a := rolled(t, l, width)
			if len(a) > 0 && a[0].T < -api.MaxTime {
				checkAgainFails(t, a, width, api.ErrRange)
				continue
			}
			for _, times := range []int64{1, 2, 3, 10, 1 << 20} {
				checkAgain(t, a, width*times, rolled(t, l, width*times))
			}
		}
	}
}

func TestP81AgainHasItsBounds(t *testing.T) {
	for _, width := range []int64{math.MinInt64, -api.MaxT, -1, 0, api.MaxT + 1, math.MaxInt64} {
		for _, l := range [][]api.Window{nil, {at(0)}, {at(math.MinInt64)}, {many(0, api.MaxCount), many(1, 1)}, apart(api.MaxRun, 0, 1)} {
			checkAgainFails(t, l, width, api.ErrArg)
		}
	}
	for _, width := range []int64{1, api.MaxT} {
		for _, time := range []int64{math.MinInt64, -api.MaxTime - 1} {
			checkAgainFails(t, []api.Window{at(time)}, width, api.ErrRange)
			checkAgainFails(t, []api.Window{at(time), at(0)}, width, api.ErrRange)
		}
		for _, time := range []int64{api.MaxTime + 1, math.MaxInt64} {
			checkAgainFails(t, []api.Window{at(time)}, width, api.ErrRange)
			checkAgainFails(t, []api.Window{at(0), at(1), at(time)}, width, api.ErrRange)
		}
		checkAgain(t, []api.Window{at(-api.MaxTime), at(api.MaxTime)}, width, []api.Window{at(-api.MaxTime), at(api.MaxTime)})
	}
	checkAgain(t, apart(api.MaxRun, 0, 1), api.MaxT, []api.Window{window(0, api.MaxRun, 0, 0, 0, 0, 0)})
}

func TestP81NoWindowTellsOfTooMany(t *testing.T) {
	for _, n := range []int64{1, 2, api.MaxCount / 2, api.MaxCount - 1} {
		less := api.MaxCount - n
		checkAgain(t, []api.Window{many(0, n), many(3, less)}, 5, []api.Window{many(0, api.MaxCount)})
		checkAgainFails(t, []api.Window{many(0, n), many(3, less+1)}, 5, api.ErrLarge)
		checkAgainFails(t, []api.Window{at(-5), many(0, n), many(3, less), many(4, 1), at(5)}, 5, api.ErrLarge)
		checkJoin(t, []api.Window{many(0, n)}, []api.Window{many(0, less)}, []api.Window{many(0, api.MaxCount)})
		checkJoinFails(t, []api.Window{many(0, n)}, []api.Window{many(0, less+1)}, api.ErrLarge)
		checkJoinFails(t, []api.Window{at(-5), many(0, n), at(6)}, []api.Window{at(-6), many(0, less+1), at(5)}, api.ErrLarge)
	}
	full := func(n int) []api.Window {
		l := apart(n, 0, 1)
		for i := range l {
			l[i] = many(int64(i), api.MaxCount)
		}
		return l
	}
	checkAgain(t, full(api.MaxRun), 1, full(api.MaxRun))
	checkAgainFails(t, full(api.MaxRun), 2, api.ErrLarge)
	checkAgainFails(t, full(api.MaxRun), api.MaxT, api.ErrLarge)
	checkJoin(t, full(api.MaxRun), nil, full(api.MaxRun))
	checkJoinFails(t, full(api.MaxRun), full(1), api.ErrLarge)
	checkJoinFails(t, full(1), full(1), api.ErrLarge)
}

// A wrong time is told first, also where it stands behind windows of too many samples.
func TestP81AgainTellsTheFirstError(t *testing.T) {
	crowd := []api.Window{many(0, api.MaxCount), many(1, 1), at(api.MaxTime + 1)}
	checkAgainFails(t, crowd, 5, api.ErrRange)
	checkAgainFails(t, crowd, 0, api.ErrArg)
	checkAgainFails(t, crowd[:2], 5, api.ErrLarge)
	checkAgainFails(t, append(crowd, crowd[2]), 0, api.ErrOrder)
	checkAgainFails(t, append(crowd, api.Window{T: math.MaxInt64}), 0, api.ErrForm)
}

func TestP81JoinHasTheWindowsOfBoth(t *testing.T) {
	a := []api.Window{window(0, 2, 5, 1, 4, 4, 1), window(10, 1, 3, 3, 3, 3, 3)}
	b := []api.Window{window(-10, 1, 9, 9, 9, 9, 9), window(0, 3, -6, -7, 2, 2, -1), window(20, 1, 0, 0, 0, 0, 0)}
	checkJoin(t, nil, nil, nil)
	checkJoin(t, []api.Window{}, nil, nil)
	checkJoin(t, a, nil, a)
	checkJoin(t, nil, a, a)
	checkJoin(t, a[:1], a[1:], a)
	checkJoin(t, a[1:], a[:1], a)
	checkJoin(t, a, b, []api.Window{b[0], window(0, 5, -1, -7, 4, 4, -1), a[1], b[2]})
	// that of a is the earlier one
	checkJoin(t, b, a, []api.Window{b[0], window(0, 5, -1, -7, 4, 2, 1), a[1], b[2]})
	checkJoin(t, a, a, []api.Window{window(0, 4, 10, 1, 4, 4, 1), window(10, 2, 6, 3, 3, 3, 3)})
	// only windows of one T are put together
	checkJoin(t, []api.Window{at(0), at(2)}, []api.Window{at(1), at(3)}, []api.Window{at(0), at(1), at(2), at(3)})
	checkJoin(t, []api.Window{at(math.MinInt64)}, []api.Window{at(math.MaxInt64)}, []api.Window{at(math.MinInt64), at(math.MaxInt64)})
	checkJoin(t, []api.Window{at(math.MaxInt64)}, []api.Window{at(math.MinInt64), at(math.MaxInt64)}, []api.Window{at(math.MinInt64), window(math.MaxInt64, 2, 0, 0, 0, 0, 0)})
}

// Samples that are cut in two, rolled up and joined are as if they had not been cut.
func TestP81JoinOfTwoPartsIsRolledAtOnce(t *testing.T) {
	for i, l := range rows() {
		for _, width := range widths() {
			whole := rolled(t, l, width)
			for k := range 4 {
				cut := int(stir(uint64(100*i+k))>>20) % (len(l) + 1)
				checkJoin(t, rolled(t, l[:cut], width), rolled(t, l[cut:], width), whole)
			}
		}
	}
}

func TestP81JoinIsNoMatterOfPairs(t *testing.T) {
	join := func(a, b []api.Window) []api.Window {
		l, e := Join(a, b)
		if e != api.OK {
			t.Fatal(e)
		}
		return l
	}
	for i := range 100 {
		a, b, c := rolled(t, some(3*i, -20, 50), 7), rolled(t, some(3*i+1, 0, 50), 7), rolled(t, some(3*i+2, -40, 70), 7)
		if x, y := join(join(a, b), c), join(a, join(b, c)); !slices.Equal(x, y) {
			t.Fatalf("%v, %v, %v: %v and %v", a, b, c, x, y)
		}
	}
}

func TestP81JoinHasABound(t *testing.T) {
	whole := apart(api.MaxRun, 0, 2)
	checkJoin(t, whole, nil, whole)
	checkJoin(t, nil, whole, whole)
	checkJoin(t, whole[:500], whole[500:], whole)
	checkJoin(t, whole[700:], whole[:700], whole)
	twice := slices.Clone(whole)
	for i := range twice {
		twice[i].N = 2
	}
	checkJoin(t, whole, whole, twice)
	checkJoin(t, whole[:600], whole[400:], slices.Concat(whole[:400], twice[400:600], whole[600:]))
	for _, one := range []int64{-1, 1, 999, 1999, math.MinInt64, math.MaxInt64} {
		checkJoinFails(t, whole, []api.Window{at(one)}, api.ErrLarge)
		checkJoinFails(t, []api.Window{at(one)}, whole, api.ErrLarge)
	}
	checkJoinFails(t, whole, apart(api.MaxRun, 1, 2), api.ErrLarge)
	checkJoinFails(t, apart(501, 0, 2), apart(500, 1, 2), api.ErrLarge)
}

func TestP1AllAnswerWhateverTheyAreGiven(t *testing.T) {
	edges := []int64{math.MinInt64, math.MinInt64 + 1, -api.MaxTime - 1, -api.MaxTime, -1, 0, 1, api.MaxCount, api.MaxT, api.MaxTime, math.MaxInt64}
	pick := func(u uint64) int64 { return edges[stir(u)>>9%uint64(len(edges))] }
	windows := func(seed uint64) []api.Window {
		l := make([]api.Window, seed%4)
		for i := range l {
			u := seed*100 + 10*uint64(i)
			l[i] = window(pick(u), pick(u+1), pick(u+2), pick(u+3), pick(u+4), pick(u+5), pick(u+6))
			// about half of them have a form that Check takes
			if u>>3%2 == 0 {
				l[i].N, l[i].Min, l[i].Max = 1+int64(seed%3), math.MinInt64, math.MaxInt64
			}
		}
		return l
	}
	check := func(l []api.Window, e api.Errno) {
		t.Helper()
		if e != api.OK && l != nil || e == api.OK && Check(l) != api.OK {
			t.Fatal(l, e)
		}
	}
	for seed := range uint64(20000) {
		a, b := windows(seed), windows(seed+7)
		l := row(pick(seed), pick(seed+1), pick(seed+2), pick(seed+3))
		check(Again(a, pick(seed)))
		check(Join(a, b))
		check(Roll(l, pick(seed+4)))
	}
}

func TestP2NothingIsChangedOrShared(t *testing.T) {
	samples := row(1, 5, 3, 6, 9, 7, -1, -1, -1, -1)
	room := []api.Window{many(0, 2), many(3, 4), many(7, 1), {T: -1}, {T: -2}, {T: -3}}
	other := []api.Window{many(1, 2), many(3, 5), many(9, 1), {T: -4}, {T: -5}, {T: -6}}
	l, a, b := samples[:3], room[:3], other[:3]
	keptSamples, keptRoom, keptOther := slices.Clone(samples), slices.Clone(room), slices.Clone(other)
	answers := func() [][]api.Window {
		all := [][]api.Window{rolled(t, l, 1), rolled(t, l, 4)}
		for _, width := range []int64{1, 4} {
			again, _ := Again(a, width)
			all = append(all, again)
		}
		for _, pair := range [][2][]api.Window{{a, b}, {a, nil}, {nil, b}, {a, a}, {a[:1], b[1:]}, {b[1:], a[:1]}} {
			both, _ := Join(pair[0], pair[1])
			all = append(all, both)
		}
		return all
	}
	first := answers()
	var kept [][]api.Window
	for _, answer := range first {
		kept = append(kept, slices.Clone(answer))
	}
	for _, answer := range first {
		for i := range answer {
			answer[i] = many(77, 77)
		}
		_ = append(answer, many(88, 88))
	}
	if !slices.Equal(samples, keptSamples) || !slices.Equal(room, keptRoom) || !slices.Equal(other, keptOther) {
		t.Error("what was handed in is changed", samples, room, other)
	}
	second := answers()
	for i := range room {
		room[i], other[i] = many(66, 66), many(66, 66)
	}
	for i, answer := range second {
		if !slices.Equal(answer, kept[i]) {
			t.Errorf("%d: %v, want %v", i, answer, kept[i])
		}
	}
}
