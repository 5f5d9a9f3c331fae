package delta

import (
	"bytes"
	"math"
	"math/big"
	"slices"
	"strconv"
	"strings"
	"testing"

	"gaugehouse/api"
	"gaugehouse/bits"
)

// stir makes unlike numbers from like ones, the same in each run.
func stir(u uint64) uint64 {
	u = (u + 1) * 0x9e3779b97f4a7c15
	u = (u ^ u>>29) * 0xbf58476d1ce4e5b9
	return u ^ u>>32
}

// binary is u as n letters 0 and 1.
func binary(u uint64, n int) string {
	s := strconv.FormatUint(u, 2)
	return strings.Repeat("0", max(0, n-len(s))) + s
}

// bitsOf are the bits that s tells as letters 0 and 1; others in it only part them.
func bitsOf(s string) api.Bits {
	x := api.Bits{}
	for _, c := range s {
		if c != '0' && c != '1' {
			continue
		}
		if x.N%8 == 0 {
			x.B = append(x.B, 0)
		}
		if c == '1' {
			x.B[x.N/8] |= 128 >> (x.N % 8)
		}
		x.N++
	}
	return x
}

func text(x api.Bits) string {
	var s strings.Builder
	for i := range x.N {
		s.WriteByte('0' + x.B[i/8]>>(7-i%8)&1)
	}
	return s.String()
}

func same(x, y api.Bits) bool { return x.N == y.N && bytes.Equal(x.B, y.B) }

// front is what stands ahead of the changes.
func front(count int, first int64) string {
	return binary(uint64(count), 16) + binary(uint64(first), 64)
}

// changeText tells a change by numbers that know no greatest one.
func changeText(change *big.Int) string {
	two64 := new(big.Int).Lsh(big.NewInt(1), 64)
	two63 := new(big.Int).Lsh(big.NewInt(1), 63)
	m := new(big.Int).Mod(change, two64)
	n := new(big.Int).Set(m)
	if n.Cmp(two63) >= 0 {
		n.Sub(n, two64)
	}
	within := func(low, high int64) bool { return n.Cmp(big.NewInt(low)) >= 0 && n.Cmp(big.NewInt(high)) <= 0 }
	low := func(count int) string { s := binary(m.Uint64(), 64); return s[64-count:] }
	switch {
	case n.Sign() == 0:
		return "0"
	case within(-64, 63):
		return "10" + low(7)
	case within(-256, 255):
		return "110" + low(9)
	case within(-2048, 2047):
		return "1110" + low(12)
	}
	return "1111" + low(64)
}

// model is Pack, told once more.
func model(l []int64) string {
	var s strings.Builder
	s.WriteString(binary(uint64(len(l)), 16))
	at := func(i int) *big.Int { return big.NewInt(l[i]) }
	for i := range l {
		switch i {
		case 0:
			s.WriteString(binary(uint64(l[0]), 64))
		case 1:
			s.WriteString(changeText(new(big.Int).Sub(at(1), at(0))))
		default:
			step := new(big.Int).Sub(at(i), at(i-1))
			before := new(big.Int).Sub(at(i-1), at(i-2))
			s.WriteString(changeText(step.Sub(step, before)))
		}
	}
	return s.String()
}

// lists are many lists, with changes of all widths in them.
func lists() [][]int64 {
	all := [][]int64{nil, {}, make([]int64, api.MaxRun)}
	edges := []int64{0, 1, -1, 63, 64, -64, -65, 255, 256, -256, -257, 2047, 2048, -2048, -2049,
		math.MaxInt64, math.MaxInt64 - 1, math.MinInt64, math.MinInt64 + 1, 1 << 62, -1 << 62}
	for _, a := range edges {
		all = append(all, []int64{a})
		for _, b := range edges {
			all = append(all, []int64{a, b}, []int64{a, b, a}, []int64{0, a, b}, []int64{b, a, 0, a, b, b})
		}
	}
	for i := range 200 {
		l := []int64{int64(stir(uint64(i)))}
		step := int64(0)
		for k := range i {
			u := stir(uint64(1000*i + k))
			step += int64(u) >> (u % 64)
			l = append(l, l[k]+step)
		}
		all = append(all, l)
	}
	whole := make([]int64, api.MaxRun)
	for i := range whole {
		whole[i] = int64(stir(uint64(i)))
	}
	return append(all, whole)
}

func checkPack(t *testing.T, l []int64, want api.Bits) {
	t.Helper()
	if x, e := Pack(l); e != api.OK || !same(x, want) {
		t.Errorf("Pack(%v) = %s, %d, want %s", l, text(x), e, text(want))
	}
	if back, e := Unpack(want); e != api.OK || !slices.Equal(back, l) {
		t.Errorf("Unpack(%s) = %v, %d, want %v", text(want), back, e, l)
	}
}

func checkRefused(t *testing.T, x api.Bits) {
	t.Helper()
	if l, e := Unpack(x); l != nil || e != api.ErrForm {
		t.Errorf("Unpack(%s) = %v, %d", text(x), l, e)
	}
}

func TestP20PackTellsCountAndFirst(t *testing.T) {
	checkPack(t, nil, bitsOf("0000000000000000"))
	checkPack(t, []int64{}, bitsOf("0000000000000000"))
	checkPack(t, []int64{0}, bitsOf("0000000000000001 "+strings.Repeat("0", 64)))
	checkPack(t, []int64{-1}, bitsOf("0000000000000001 "+strings.Repeat("1", 64)))
	checkPack(t, []int64{5}, bitsOf("0000000000000001 "+strings.Repeat("0", 61)+"101"))
	checkPack(t, []int64{math.MinInt64}, bitsOf("0000000000000001 1"+strings.Repeat("0", 63)))
	checkPack(t, []int64{math.MaxInt64}, bitsOf("0000000000000001 0"+strings.Repeat("1", 63)))
}

func TestP20WidthOfAChange(t *testing.T) {
	for _, c := range []struct {
		change int64
		want   string
	}{
		{0, "0"},
		{1, "10 0000001"}, {-1, "10 1111111"}, {63, "10 0111111"}, {-64, "10 1000000"},
		{64, "110 001000000"}, {-65, "110 110111111"}, {255, "110 011111111"}, {-256, "110 100000000"},
		{256, "1110 000100000000"}, {-257, "1110 111011111111"},
		{2047, "1110 011111111111"}, {-2048, "1110 100000000000"},
		{2048, "1111" + strings.Repeat("0", 52) + "100000000000"},
		{-2049, "1111" + strings.Repeat("1", 52) + "011111111111"},
		{math.MaxInt64, "1111 0" + strings.Repeat("1", 63)},
		{math.MinInt64, "1111 1" + strings.Repeat("0", 63)},
	} {
		// as the second number the change is the whole step, also where the first one is not 0
		checkPack(t, []int64{0, c.change}, bitsOf(front(2, 0)+c.want))
		checkPack(t, []int64{-9, -9 + c.change}, bitsOf(front(2, -9)+c.want))
		checkPack(t, []int64{4, 4, 4 + c.change}, bitsOf(front(3, 4)+"0"+c.want))
		checkPack(t, []int64{0, 10, 20 + c.change}, bitsOf(front(3, 0)+"10 0001010"+c.want))
		// what went on stays the step
		checkPack(t, []int64{4, 4, 4 + c.change, 4 + 2*c.change}, bitsOf(front(4, 4)+"0"+c.want+"0"))
	}
}

func TestP20ATimeThatGoesOnIsOneBit(t *testing.T) {
	l := make([]int64, api.MaxRun)
	for i := range l {
		l[i] = int64(i)*15 - 700
	}
	checkPack(t, l, bitsOf(front(1000, -700)+"10 0001111"+strings.Repeat("0", 998)))
}

func TestP20ChangesGoRoundBehindTheGreatest(t *testing.T) {
	checkPack(t, []int64{math.MaxInt64, math.MinInt64}, bitsOf(front(2, math.MaxInt64)+"10 0000001"))
	checkPack(t, []int64{math.MinInt64, math.MaxInt64}, bitsOf(front(2, math.MinInt64)+"10 1111111"))
	// steps of 2^62, thrice: what is more than the greatest number comes from the least one on
	checkPack(t, []int64{0, 1 << 62, -1 << 63, -1 << 62}, bitsOf(front(4, 0)+"1111 01"+strings.Repeat("0", 62)+"00"))
	// steps of 2^63 - 1 and of -2^63: the change is -2^64 + 1, which is 1
	checkPack(t, []int64{0, math.MaxInt64, -1}, bitsOf(front(3, 0)+"1111 0"+strings.Repeat("1", 63)+"10 0000001"))
}

func TestP20PackIsTheModel(t *testing.T) {
	for _, l := range lists() {
		x, e := Pack(l)
		if e != api.OK || text(x) != model(l) || bits.Check(x) != api.OK {
			t.Fatalf("Pack(%v) = %s, %d, want %s", l, text(x), e, model(l))
		}
	}
}

func TestP20PackHasABound(t *testing.T) {
	for _, n := range []int{1001, 1002, 65536, 66000} {
		if x, e := Pack(make([]int64, n)); x.B != nil || x.N != 0 || e != api.ErrLarge {
			t.Errorf("%d: %d bits, %d", n, x.N, e)
		}
	}
	checkPack(t, make([]int64, 1000), bitsOf(front(1000, 0)+strings.Repeat("0", 999)))
	// the most bits that there can be
	l := make([]int64, 1000)
	for i := range l {
		l[i] = int64(i%2) << 40
	}
	if x, e := Pack(l); x.N != 80+999*68 || e != api.OK {
		t.Errorf("%d bits, %d", x.N, e)
	}
}

func TestP21UnpackUndoesPack(t *testing.T) {
	for _, l := range lists() {
		x, _ := Pack(l)
		if back, e := Unpack(x); e != api.OK || !slices.Equal(back, l) {
			t.Fatalf("%v: %v, %d", l, back, e)
		}
	}
}

func TestP21BrokenBitsAreRefused(t *testing.T) {
	for _, x := range []api.Bits{
		{N: -1}, {N: math.MinInt}, {N: 16}, {N: math.MaxInt}, {B: []byte{0}, N: 16}, {B: []byte{0, 0, 0}, N: 16},
		{B: []byte{0, 0}, N: 0}, {B: []byte{0, 0}, N: -16},
		{B: slices.Concat([]byte{0, 2}, make([]byte, 8), []byte{0x40}), N: 81},
	} {
		if l, e := Unpack(x); l != nil || e != bits.Check(x) || e == api.OK {
			t.Errorf("Unpack(%v) = %v, %d", x, l, e)
		}
	}
}

func TestP21TooFewBitsAreRefused(t *testing.T) {
	for _, l := range [][]int64{{}, {1}, {1, 1}, {1, 2}, {1, 100}, {1, 1000}, {1, 10000}, {1, 2, 300, 4000, -50000, 0}} {
		s := model(l)
		for i := range len(s) {
			checkRefused(t, bitsOf(s[:i]))
		}
	}
}

func TestP21TooManyBitsAreRefused(t *testing.T) {
	for _, l := range [][]int64{{}, {1}, {1, 1}, {1, 100}, {5, 10, 15, 20}, make([]int64, 1000)} {
		for _, more := range []string{"0", "1", "00", "10", "00000000", "100000001", strings.Repeat("0", 64)} {
			checkRefused(t, bitsOf(model(l)+more))
		}
	}
}

func TestP21WrongCountsAreRefused(t *testing.T) {
	for _, count := range []int{0, 2, 4, 5, 999, 1000, 1001, 65535} {
		checkRefused(t, bitsOf(front(count, 7)+"00"))
	}
	checkPack(t, []int64{7, 7, 7}, bitsOf(front(3, 7)+"00"))
	// each of these is told well, but there are more than Pack takes
	for _, count := range []int{1001, 1002, 65535} {
		checkRefused(t, bitsOf(front(count, 7)+strings.Repeat("0", count-1)))
	}
}

func TestP21WiderThanNeededIsRefused(t *testing.T) {
	low := func(n int64, count int) string { return binary(uint64(n), 64)[64-count:] }
	for _, c := range []struct {
		head        string
		n           int
		least, most int64
	}{{"10", 7, 0, 0}, {"110", 9, -64, 63}, {"1110", 12, -256, 255}, {"1111", 64, -2048, 2047}} {
		for v := c.least; v <= c.most; v++ {
			checkRefused(t, bitsOf(front(2, 3)+c.head+low(v, c.n)))
			checkRefused(t, bitsOf(front(3, 3)+c.head+low(v, c.n)+"0"))
		}
		checkPack(t, []int64{3, 3 + c.most + 1}, bitsOf(front(2, 3)+c.head+low(c.most+1, c.n)))
		checkPack(t, []int64{3, 3 + c.least - 1}, bitsOf(front(2, 3)+c.head+low(c.least-1, c.n)))
	}
}

// What is unpacked is packed to just those bits: no two texts are one list.
func TestP21WhatIsUnpackedIsWhatPackMakes(t *testing.T) {
	taken := 0
	check := func(x api.Bits) {
		l, e := Unpack(x)
		if e == api.OK {
			taken++
			if y, _ := Pack(l); !same(x, y) {
				t.Fatalf("Unpack(%s) = %v, packed %s", text(x), l, text(y))
			}
		} else if l != nil || e != api.ErrForm {
			t.Fatalf("Unpack(%s) = %v, %d", text(x), l, e)
		}
	}
	for n := range 14 {
		for v := range 1 << n {
			s := binary(uint64(v), n)[:n]
			check(bitsOf(front(2, 1) + s))
			check(bitsOf(front(3, 1) + s))
		}
	}
	for _, l := range [][]int64{{}, {3}, {1, 2, 300, 4000, -50000, 0}, {5, 5, 5, 5, 5, 5}} {
		x := bitsOf(model(l))
		for i := range x.N {
			y := api.Bits{B: slices.Clone(x.B), N: x.N}
			y.B[i/8] ^= 128 >> (i % 8)
			check(y)
		}
	}
	if taken < 500 {
		t.Error(taken)
	}
}

func TestP2NothingIsChangedOrShared(t *testing.T) {
	room := []int64{5, 10, 400, 9, 9, 9}
	before := slices.Clone(room)
	x, _ := Pack(room[:3])
	y, _ := Pack(room[:3])
	if !slices.Equal(room, before) {
		t.Fatal(room)
	}
	kept := slices.Clone(x.B)
	for i := range y.B {
		y.B[i] = 255
	}
	if again, _ := Pack(room[:3]); !bytes.Equal(x.B, kept) || !same(x, again) {
		t.Error("two answers share memory")
	}
	a, _ := Unpack(x)
	b, _ := Unpack(x)
	a[0], a[1] = 99, 99
	if !slices.Equal(b, room[:3]) || !bytes.Equal(x.B, kept) {
		t.Error(b, x.B)
	}
}
