package chunk

import (
	"bytes"
	"encoding/binary"
	"math"
	"slices"
	"testing"

	"gaugehouse/api"
	"gaugehouse/delta"
	"gaugehouse/xor"
)

// stir makes unlike numbers from like ones, the same in each run.
func stir(u uint64) uint64 {
	u = (u + 1) * 0x9e3779b97f4a7c15
	u = (u ^ u>>29) * 0xbf58476d1ce4e5b9
	return u ^ u>>32
}

// row are samples, told as T, V, T, V and so on.
func row(l ...int64) []api.Sample {
	var out []api.Sample
	for i := 0; i < len(l); i += 2 {
		out = append(out, api.Sample{T: l[i], V: l[i+1]})
	}
	return out
}

// even are n samples from first on, step apart.
func even(n int, first, step int64) []api.Sample {
	var l []api.Sample
	for i := range n {
		l = append(l, api.Sample{T: first + int64(i)*step, V: int64(i)})
	}
	return l
}

// some are samples with times from 0 to span - 1, about every third of them.
func some(seed, span int) []api.Sample {
	var l []api.Sample
	for t := range span {
		if u := stir(uint64(1000*seed + t)); u%3 == 0 {
			l = append(l, api.Sample{T: int64(t), V: int64(u/3%5) - 2})
		}
	}
	return l
}

// rows are many lists that Check takes.
func rows() [][]api.Sample {
	all := [][]api.Sample{
		nil, {}, row(0, 0), row(5, -7), row(-9, 1, 0, 1, 60, 1<<63-1), row(-1<<63, -1<<63, 1<<63-1, 1<<63-1),
		row(-1<<63, 1<<63-1, -1<<63+1, -1<<63, 1<<63-2, 0, 1<<63-1, -1), even(api.MaxRun, -500, 1), even(api.MaxRun, 0, 1<<40),
	}
	for i := range 60 {
		l := row(int64(stir(uint64(i)))>>1, int64(stir(uint64(i)+99)))
		for k := range i {
			u := stir(uint64(100*i + k))
			l = append(l, api.Sample{T: l[k].T + 1 + int64(u%70<<(u/70%8)), V: l[k].V ^ int64(u>>(u%64))})
		}
		all = append(all, l)
	}
	wild := make([]api.Sample, api.MaxRun)
	for i := range wild {
		wild[i] = api.Sample{T: int64(i)<<53 + int64(stir(uint64(i))>>12) - 1<<62, V: int64(stir(uint64(i) + 5000))}
	}
	return append(all, wild)
}

// disordered are lists with a T that is not above the one ahead of it.
func disordered() [][]api.Sample {
	last := even(api.MaxRun, 0, 2)
	last[api.MaxRun-1].T = last[api.MaxRun-2].T
	return [][]api.Sample{
		row(3, 1, 3, 1), row(3, 1, 3, 2), row(4, 0, 3, 0), row(1, 0, 2, 0, 2, 0), row(1, 0, 3, 0, 2, 0, 4, 0),
		row(2, 0, 1, 0, 3, 0), row(1<<63-1, 0, -1<<63, 0), row(0, 0, -1<<63, 0), row(-1<<63, 0, -1<<63, 0), last,
	}
}

// told are the bytes of bits with their count ahead.
func told(x api.Bits) []byte {
	return append(binary.AppendUvarint(nil, uint64(x.N)), x.B...)
}

// sealed is Seal, told once more, for lists that need not be of one length or in order.
func sealed(times []int64, measures []uint64) []byte {
	x, _ := delta.Pack(times)
	y, _ := xor.Pack(measures)
	return slices.Concat(told(x), told(y))
}

func checkRefused(t *testing.T, b []byte) {
	t.Helper()
	if l, e := Open(b); l != nil || e != api.ErrForm {
		t.Errorf("Open(%v) = %v, %d", b, l, e)
	}
}

func checkMerge(t *testing.T, a, b, want []api.Sample) {
	t.Helper()
	if l, e := Merge(a, b); e != api.OK || !slices.Equal(l, want) {
		t.Errorf("Merge(%v, %v) = %v, %d, want %v", a, b, l, e, want)
	}
}

func checkMergeFails(t *testing.T, a, b []api.Sample, want api.Errno) {
	t.Helper()
	if l, e := Merge(a, b); l != nil || e != want {
		t.Errorf("Merge of %d and %d: %d samples, %d, want %d", len(a), len(b), len(l), e, want)
	}
}

func TestP40CheckTakesRisingTimes(t *testing.T) {
	for i, l := range rows() {
		if e := Check(l); e != api.OK {
			t.Errorf("%d: %d", i, e)
		}
	}
	// measures may be in any order
	if e := Check(row(1, 5, 2, 5, 3, -5, 4, 0)); e != api.OK {
		t.Error(e)
	}
}

func TestP40WrongSamplesAreRefusedByAll(t *testing.T) {
	check := func(l []api.Sample, want api.Errno) {
		t.Helper()
		if e := Check(l); e != want {
			t.Errorf("Check of %d: %d, want %d", len(l), e, want)
		}
		if b, e := Seal(l); b != nil || e != want {
			t.Errorf("Seal of %d: %d bytes, %d, want %d", len(l), len(b), e, want)
		}
		for _, r := range [][2]int64{{math.MinInt64, math.MaxInt64}, {0, 0}, {5, 1}, {1, 2}} {
			if m, e := Range(l, r[0], r[1]); m != nil || e != want {
				t.Errorf("Range of %d: %d samples, %d, want %d", len(l), len(m), e, want)
			}
		}
		for _, other := range [][]api.Sample{nil, row(1, 1), even(api.MaxRun, 0, 1)} {
			checkMergeFails(t, l, other, want)
			checkMergeFails(t, other, l, want)
		}
	}
	for _, l := range disordered() {
		check(l, api.ErrOrder)
	}
	check(even(api.MaxRun+1, 0, 1), api.ErrLarge)
	check(even(5000, 0, 1), api.ErrLarge)
	// how many there are is looked at ahead of their order
	check(make([]api.Sample, api.MaxRun+1), api.ErrLarge)
	check(even(api.MaxRun+1, 0, -1), api.ErrLarge)
}

func TestP40SealTellsTimesThenMeasures(t *testing.T) {
	for _, c := range []struct {
		l    []api.Sample
		want []byte
	}{
		{nil, []byte{16, 0, 0, 16, 0, 0}},
		{[]api.Sample{}, []byte{16, 0, 0, 16, 0, 0}},
		{row(5, 7), []byte{80, 0, 1, 0, 0, 0, 0, 0, 0, 0, 5, 80, 0, 1, 0, 0, 0, 0, 0, 0, 0, 7}},
		{row(-1, -2), []byte{80, 0, 1, 255, 255, 255, 255, 255, 255, 255, 255, 80, 0, 1, 255, 255, 255, 255, 255, 255, 255, 254}},
		// 16 + 64 + 9 + 1 bits of times, 16 + 64 + 15 + 1 of measures
		{row(60, 0, 61, 1, 62, 1), []byte{90, 0, 3, 0, 0, 0, 0, 0, 0, 0, 60, 0x80, 0x80,
			96, 0, 3, 0, 0, 0, 0, 0, 0, 0, 0, 0xff, 0x02}},
		// a count of bits above 127 takes two bytes
		{row(0, 0, 1<<62, 0), []byte{148, 1, 0, 2, 0, 0, 0, 0, 0, 0, 0, 0, 0xf4, 0, 0, 0, 0, 0, 0, 0, 0,
			81, 0, 2, 0, 0, 0, 0, 0, 0, 0, 0, 0}},
	} {
		if b, e := Seal(c.l); e != api.OK || !bytes.Equal(b, c.want) {
			t.Errorf("Seal(%v) = %v, %d, want %v", c.l, b, e, c.want)
		}
		if l, e := Open(c.want); e != api.OK || !slices.Equal(l, c.l) {
			t.Errorf("Open(%v) = %v, %d, want %v", c.want, l, e, c.l)
		}
	}
}

func TestP40SealIsTheModelAndOpenUndoesIt(t *testing.T) {
	for i, l := range rows() {
		var times []int64
		var measures []uint64
		for _, s := range l {
			times, measures = append(times, s.T), append(measures, uint64(s.V))
		}
		b, e := Seal(l)
		if e != api.OK || !bytes.Equal(b, sealed(times, measures)) {
			t.Fatalf("%d: %v, %d", i, b, e)
		}
		if back, e := Open(b); e != api.OK || !slices.Equal(back, l) {
			t.Fatalf("%d: %v, %d", i, back, e)
		}
	}
}

func TestP40TooFewOrTooManyBytesAreRefused(t *testing.T) {
	checkRefused(t, nil)
	checkRefused(t, []byte{})
	for _, l := range [][]api.Sample{nil, row(5, -7), row(-9, 1, 0, 1, 60, 1<<63-1), even(50, 0, 1<<50)} {
		b, _ := Seal(l)
		for n := range b {
			checkRefused(t, b[:n])
			checkRefused(t, b[n+1:])
		}
		for _, more := range [][]byte{{0}, {1}, {128}, {255}, {0, 0}, {16, 0, 0}, b} {
			checkRefused(t, slices.Concat(b, more))
			checkRefused(t, slices.Concat(more, b))
		}
	}
}

func TestP40TimesAndMeasuresAreAsMany(t *testing.T) {
	times := []int64{1, 2, 3, 4}
	measures := []uint64{9, 9, 8, 8}
	for i := range 5 {
		for k := range 5 {
			b := sealed(times[:i], measures[:k])
			if i != k {
				checkRefused(t, b)
			} else if l, e := Open(b); len(l) != i || e != api.OK {
				t.Error(i, l, e)
			}
		}
	}
	checkRefused(t, sealed(make([]int64, 0), make([]uint64, api.MaxRun)))
}

func TestP40SealedTimesRise(t *testing.T) {
	for _, l := range disordered() {
		var times []int64
		for _, s := range l {
			times = append(times, s.T)
		}
		checkRefused(t, sealed(times, make([]uint64, len(l))))
	}
}

func TestP40MoreThanMaxRunAreRefused(t *testing.T) {
	// 1001 times from 0 on, one apart, and 1001 measures of 0, told as Pack would tell them
	times := make([]byte, 136)
	copy(times, []byte{3, 233, 0, 0, 0, 0, 0, 0, 0, 0, 0x80, 0x80})
	measures := make([]byte, 135)
	copy(measures, []byte{3, 233})
	b := slices.Concat(told(api.Bits{B: times, N: 80 + 9 + 999}), told(api.Bits{B: measures, N: 80 + 1000}))
	checkRefused(t, b)
	// the same with one fewer is well
	less := slices.Concat(told(api.Bits{B: append([]byte{3, 232}, times[2:]...), N: 80 + 9 + 998}),
		told(api.Bits{B: append([]byte{3, 232}, measures[2:]...), N: 80 + 999}))
	if l, e := Open(less); len(l) != api.MaxRun || e != api.OK {
		t.Error(len(l), e)
	}
}

func TestP40WrongCountsOfBitsAreRefused(t *testing.T) {
	b, _ := Seal(row(60, 0, 61, 1, 62, 1))
	times, measures := b[1:13], b[14:]
	with := func(n, m []byte) []byte { return slices.Concat(n, times, m, measures) }
	if l, e := Open(with([]byte{90}, []byte{96})); len(l) != 3 || e != api.OK {
		t.Fatal(l, e)
	}
	for n := range 256 {
		if n != 90 {
			checkRefused(t, with([]byte{byte(n)}, []byte{96}))
		}
		if n != 96 {
			checkRefused(t, with([]byte{90}, []byte{byte(n)}))
		}
	}
	// longer than it takes
	checkRefused(t, with([]byte{90 + 128, 0}, []byte{96}))
	checkRefused(t, with([]byte{90}, []byte{96 + 128, 0}))
	for _, u := range []uint64{80000, 80001, 1 << 31, 1 << 32, 1<<32 + 90, 1<<63 - 8, 1<<63 - 7, 1<<63 - 1, 1 << 63, 1<<63 + 90,
		math.MaxUint64 - 7, math.MaxUint64} {
		checkRefused(t, with(binary.AppendUvarint(nil, u), []byte{96}))
		checkRefused(t, with([]byte{90}, binary.AppendUvarint(nil, u)))
		checkRefused(t, binary.AppendUvarint(nil, u))
		checkRefused(t, slices.Concat(binary.AppendUvarint(nil, u), make([]byte, 20000)))
	}
	checkRefused(t, with(bytes.Repeat([]byte{255}, 10), []byte{96}))
}

func TestP40ABitBehindTheLastIsRefused(t *testing.T) {
	for bit := range 6 {
		b := sealed([]int64{60, 61, 62}, []uint64{0, 0, 0})
		b[12] |= 1 << bit
		checkRefused(t, b)
		c := sealed([]int64{60, 61, 62}, []uint64{0, 0, 0})
		c[len(c)-1] |= 1 << bit
		checkRefused(t, c)
	}
}

// What is opened is sealed to just those bytes: no two texts are the same samples.
func TestP40WhatIsOpenedIsWhatSealMakes(t *testing.T) {
	opened := 0
	check := func(b []byte) {
		l, e := Open(b)
		if e != api.OK {
			if l != nil || e != api.ErrForm {
				t.Fatalf("Open(%v) = %v, %d", b, l, e)
			}
			return
		}
		opened++
		if again, e := Seal(l); e != api.OK || !bytes.Equal(again, b) {
			t.Fatalf("Open(%v) = %v, sealed %v, %d", b, l, again, e)
		}
	}
	for _, l := range [][]api.Sample{nil, row(5, -7), row(-9, 1, 0, 1, 60, 1<<63-1), row(0, 3, 10, 3, 20, 5, 31, 3), even(20, 0, 1000)} {
		b, _ := Seal(l)
		for i := range b {
			for v := range 256 {
				c := slices.Clone(b)
				c[i] = byte(v)
				check(c)
			}
		}
	}
	if opened < 500 {
		t.Error(opened)
	}
}

func TestP41MergeIsBothByRisingTimes(t *testing.T) {
	checkMerge(t, nil, nil, nil)
	checkMerge(t, []api.Sample{}, nil, nil)
	checkMerge(t, row(1, 1), nil, row(1, 1))
	checkMerge(t, nil, row(1, 1), row(1, 1))
	checkMerge(t, row(1, 1), row(2, 2), row(1, 1, 2, 2))
	checkMerge(t, row(2, 2), row(1, 1), row(1, 1, 2, 2))
	checkMerge(t, row(1, 5, 3, 5, 9, 5), row(0, 1, 3, 7, 9, 4, 12, 0), row(0, 1, 1, 5, 3, 7, 9, 5, 12, 0))
	checkMerge(t, row(-1<<63, 1, 1<<63-1, 1), row(0, 0), row(-1<<63, 1, 0, 0, 1<<63-1, 1))
	checkMerge(t, row(1<<63-1, 1), row(-1<<63, 2), row(-1<<63, 2, 1<<63-1, 1))
}

func TestP41OfOneTimeTheGreaterStays(t *testing.T) {
	for _, c := range [][3]int64{
		{1, 2, 2}, {0, 0, 0}, {-1, 1, 1}, {-2, -1, -1}, {0, -1, 0}, {5, 0, 5},
		{math.MinInt64, math.MaxInt64, math.MaxInt64}, {math.MinInt64, -1, -1}, {math.MinInt64, 0, 0},
	} {
		for _, time := range []int64{math.MinInt64, -1, 0, 7, math.MaxInt64} {
			checkMerge(t, row(time, c[0]), row(time, c[1]), row(time, c[2]))
			checkMerge(t, row(time, c[1]), row(time, c[0]), row(time, c[2]))
		}
	}
}

// A map of times, which knows no order, stands beside the merged list.
func TestP41MergeIsTheModel(t *testing.T) {
	for i := range 300 {
		a, b := some(2*i, i%40), some(2*i+1, i%37)
		greatest := map[int64]int64{}
		for _, s := range slices.Concat(a, b) {
			if v, there := greatest[s.T]; !there || s.V > v {
				greatest[s.T] = s.V
			}
		}
		var want []api.Sample
		for time := range int64(40) {
			if v, there := greatest[time]; there {
				want = append(want, api.Sample{T: time, V: v})
			}
		}
		checkMerge(t, a, b, want)
		checkMerge(t, b, a, want)
	}
}

func TestP41ItIsNoMatterWhoComesFirst(t *testing.T) {
	merge := func(a, b []api.Sample) []api.Sample {
		l, e := Merge(a, b)
		if e != api.OK {
			t.Fatal(e)
		}
		return l
	}
	for i := range 200 {
		a, b, c := some(3*i, 30), some(3*i+1, 30), some(3*i+2, 30)
		all := merge(merge(a, b), c)
		for _, l := range [][]api.Sample{
			merge(a, merge(b, c)), merge(c, merge(b, a)), merge(merge(a, c), b), merge(all, a), merge(b, all), merge(all, all),
		} {
			if !slices.Equal(l, all) {
				t.Fatalf("%v, %v, %v: %v, want %v", a, b, c, l, all)
			}
		}
		if !slices.Equal(merge(a, a), a) {
			t.Fatal(a)
		}
	}
}

func TestP41MergeHasABound(t *testing.T) {
	whole := even(api.MaxRun, 0, 2)
	checkMerge(t, whole, nil, whole)
	checkMerge(t, whole, whole, whole)
	checkMerge(t, whole, whole[500:], whole)
	checkMerge(t, whole[:500], whole[500:], whole)
	checkMerge(t, whole[700:], whole[:700], whole)
	checkMerge(t, whole[:600], whole[400:], whole)
	for _, one := range []int64{-1, 1, 999, 1999, math.MinInt64, math.MaxInt64} {
		checkMergeFails(t, whole, row(one, 0), api.ErrLarge)
		checkMergeFails(t, row(one, 0), whole, api.ErrLarge)
		checkMergeFails(t, whole[:700], slices.Concat(row(-5, 0), whole[700:]), api.ErrLarge)
	}
	checkMergeFails(t, whole, even(api.MaxRun, 1, 2), api.ErrLarge)
	checkMergeFails(t, even(501, 0, 2), even(500, 1, 2), api.ErrLarge)
}

func TestP41MergeTellsTheFirstError(t *testing.T) {
	long, turned, whole := even(api.MaxRun+1, 0, 1), row(2, 2, 1, 1), even(api.MaxRun, 10, 1)
	checkMergeFails(t, long, turned, api.ErrLarge)
	checkMergeFails(t, turned, long, api.ErrOrder)
	checkMergeFails(t, whole, turned, api.ErrOrder)
	checkMergeFails(t, turned, whole, api.ErrOrder)
	checkMergeFails(t, turned, turned, api.ErrOrder)
}

func TestP41RangeHasItsFirstAndNotItsLast(t *testing.T) {
	l := row(1, 5, 3, 6, 9, 7)
	ends := row(-1<<63, 1, 0, 2, 1<<63-1, 3)
	for _, c := range []struct {
		l        []api.Sample
		from, to int64
		want     []api.Sample
	}{
		{l, 0, 9, l[:2]}, {l, 1, 9, l[:2]}, {l, 2, 9, l[1:2]}, {l, 1, 10, l}, {l, 0, 100, l}, {l, 3, 4, l[1:2]}, {l, 3, 9, l[1:2]},
		{l, 9, 10, l[2:]}, {l, 4, 9, nil}, {l, 4, 8, nil}, {l, 10, 20, nil}, {l, -5, 1, nil},
		{l, 3, 3, nil}, {l, 9, 3, nil}, {l, 9, 1, nil}, {l, 100, -100, nil}, {l, math.MaxInt64, math.MinInt64, nil},
		{l, math.MinInt64, math.MaxInt64, l},
		{ends, math.MinInt64, math.MaxInt64, ends[:2]}, {ends, math.MinInt64, math.MinInt64 + 1, ends[:1]},
		{ends, math.MinInt64 + 1, math.MaxInt64, ends[1:2]}, {ends, math.MaxInt64, math.MaxInt64, nil},
		// there is no time below the least one
		{ends, math.MinInt64, math.MinInt64, nil}, {ends, 0, math.MinInt64, nil}, {ends, math.MaxInt64, math.MinInt64, nil},
		{nil, math.MinInt64, math.MaxInt64, nil}, {nil, 5, 1, nil},
	} {
		if m, e := Range(c.l, c.from, c.to); e != api.OK || !slices.Equal(m, c.want) {
			t.Errorf("Range(%v, %d, %d) = %v, %d, want %v", c.l, c.from, c.to, m, e, c.want)
		}
	}
}

// Each sample is asked by itself whether it is within.
func TestP41RangeIsTheModel(t *testing.T) {
	check := func(l []api.Sample, from, to int64) {
		var want []api.Sample
		for _, s := range l {
			if from <= s.T && s.T < to {
				want = append(want, s)
			}
		}
		if m, e := Range(l, from, to); e != api.OK || !slices.Equal(m, want) {
			t.Fatalf("Range(%v, %d, %d) = %v, %d, want %v", l, from, to, m, e, want)
		}
	}
	for i := range 60 {
		l := some(i, i%20)
		for from := int64(-2); from < 22; from++ {
			for to := int64(-2); to < 22; to++ {
				check(l, from, to)
			}
		}
	}
	for i := range 1000 {
		u := stir(uint64(i))
		check(even(api.MaxRun, -3000, 7), int64(u%9000)-4000, int64(u/9000%9000)-4000)
	}
}

func TestP1OpenAnswersWhateverItIsGiven(t *testing.T) {
	check := func(b []byte) {
		l, e := Open(b)
		if e != api.OK && (l != nil || e != api.ErrForm) {
			t.Fatalf("Open(%v) = %v, %d", b, l, e)
		}
		if again, _ := Seal(l); e == api.OK && !bytes.Equal(again, b) {
			t.Fatalf("Open(%v) = %v, sealed %v", b, l, again)
		}
	}
	for i := range 1 << 16 {
		check([]byte{byte(i >> 8), byte(i)})
	}
	for i := range 3000 {
		b := make([]byte, stir(uint64(i))%60)
		for k := range b {
			b[k] = byte(stir(uint64(100*i + k)))
		}
		check(b)
		check(slices.Concat([]byte{80, 0, 1}, b))
	}
}

func TestP2NothingIsChangedOrShared(t *testing.T) {
	room := row(1, 5, 3, 6, 9, 7, -1, -1, -1, -1, -1, -1)
	other := row(2, 5, 3, 9, 11, 7, -2, -2, -2, -2, -2, -2)
	a, b := room[:3], other[:3]
	before, otherBefore := slices.Clone(room), slices.Clone(other)
	sealedA, _ := Seal(a)
	back, _ := Open(sealedA)
	merged, _ := Merge(a, b)
	alone, _ := Merge(a, nil)
	behind, _ := Merge(nil, b)
	part, _ := Range(a, 1, 9)
	whole, _ := Range(a, 0, 10)
	none, _ := Range(a, 4, 5)
	kept := slices.Clone(sealedA)
	for _, l := range [][]api.Sample{back, merged, alone, behind, part, whole, none} {
		for i := range l {
			l[i] = api.Sample{T: 77, V: 77}
		}
		_ = append(l, api.Sample{T: 88, V: 88})
	}
	if !slices.Equal(room, before) || !slices.Equal(other, otherBefore) {
		t.Error("samples that were handed in are changed", room, other)
	}
	if !bytes.Equal(sealedA, kept) {
		t.Error("bytes that were handed in are changed", sealedA)
	}
	again, _ := Open(sealedA)
	for i := range sealedA {
		sealedA[i] = 255
	}
	if !slices.Equal(again, a) {
		t.Error("opened samples hang on the bytes", again)
	}
	if c, _ := Seal(a); !bytes.Equal(c, kept) {
		t.Error("two answers share memory", c)
	}
}

// What is handed to Open may have room behind it, which another one owns.
func TestP2OpenLeavesTheRoomBehindItsBytes(t *testing.T) {
	b, _ := Seal(row(60, 0, 61, 1, 62, 1))
	room := slices.Concat(b, []byte{9, 9, 9, 9})
	before := slices.Clone(room)
	if l, e := Open(room[:len(b)]); len(l) != 3 || e != api.OK || !bytes.Equal(room, before) {
		t.Error(l, e, room)
	}
}
