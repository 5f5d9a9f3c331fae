package xor

import (
	"bytes"
	"math"
	"slices"
	"strconv"
	"strings"
	"testing"

	"gaugehouse/api"
	"gaugehouse/bits"
)

// stir makes unlike numbers from like ones, the same in each run.
func stir(u uint64) uint64 {
	u = (u + 1) * 0x9e3779b97f4a7c15
	u = (u ^ u>>29) * 0xbf58476d1ce4e5b9
	return u ^ u>>32
}

// binary is u as n letters 0 and 1.
func binary(u uint64, n int) string {
	s := strconv.FormatUint(u, 2)
	return strings.Repeat("0", max(0, n-len(s))) + s
}

// bitsOf are the bits that s tells as letters 0 and 1; others in it only part them.
func bitsOf(s string) api.Bits {
	x := api.Bits{}
	for _, c := range s {
		if c != '0' && c != '1' {
			continue
		}
		if x.N%8 == 0 {
			x.B = append(x.B, 0)
		}
		if c == '1' {
			x.B[x.N/8] |= 128 >> (x.N % 8)
		}
		x.N++
	}
	return x
}

func text(x api.Bits) string {
	var s strings.Builder
	for i := range x.N {
		s.WriteByte('0' + x.B[i/8]>>(7-i%8)&1)
	}
	return s.String()
}

func same(x, y api.Bits) bool { return x.N == y.N && bytes.Equal(x.B, y.B) }

// front is what stands ahead of the turns.
func front(count int, first uint64) string {
	return binary(uint64(count), 16) + binary(first, 64)
}

// wide tells a turn with a window of its own.
func wide(lead, width int, body string) string {
	return "11" + binary(uint64(lead), 6) + binary(uint64(width-1), 6) + body
}

// model is Pack, told once more, by letters: a window is the places of its first and its last letter.
func model(l []uint64) string {
	var s strings.Builder
	s.WriteString(binary(uint64(len(l)), 16))
	first, last, there := 0, 0, false
	for i, v := range l {
		if i == 0 {
			s.WriteString(binary(v, 64))
			continue
		}
		turn := turnText(l[i-1], v)
		from, to := strings.IndexByte(turn, '1'), strings.LastIndexByte(turn, '1')
		if from < 0 {
			s.WriteString("0")
			continue
		}
		if there && first <= from && to <= last {
			s.WriteString("10" + turn[first:last+1])
			continue
		}
		first, last, there = from, to, true
		lead, tail := from, 63-to
		s.WriteString("11" + binary(uint64(lead), 6) + binary(uint64(63-lead-tail), 6) + turn[first:last+1])
	}
	return s.String()
}

func turnText(a, b uint64) string {
	x, y := binary(a, 64), binary(b, 64)
	var s strings.Builder
	for i := range 64 {
		if x[i] == y[i] {
			s.WriteByte('0')
		} else {
			s.WriteByte('1')
		}
	}
	return s.String()
}

// along is the list that begins with first and has these turns.
func along(first uint64, turns ...uint64) []uint64 {
	l := []uint64{first}
	for i, turn := range turns {
		l = append(l, l[i]^turn)
	}
	return l
}

// lists are many lists, with windows of all places and widths in them.
func lists() [][]uint64 {
	all := [][]uint64{nil, {}, make([]uint64, api.MaxRun)}
	edges := []uint64{0, 1, 2, 3, 6, 8, 12, 1 << 31, 1 << 32, 0xff00, 1 << 62, 1 << 63, 3 << 62,
		1<<63 + 1, 1<<63 - 1, math.MaxUint64, math.MaxUint64 - 1, math.Float64bits(1.5), math.Float64bits(-0.1)}
	for _, a := range edges {
		all = append(all, []uint64{a})
		for _, b := range edges {
			all = append(all, []uint64{a, b}, []uint64{a, b, a}, []uint64{0, a, b}, along(7, a, b, 0, b, a, a))
		}
	}
	for i := range 200 {
		l := []uint64{stir(uint64(i))}
		for k := range i {
			u := stir(uint64(1000*i + k))
			// fewer bits at either side, so that turns fit the window now and again
			l = append(l, l[k]^u>>(u%64)<<(u/64%32))
		}
		all = append(all, l)
	}
	for lead := range 64 {
		for width := 1; width <= 64-lead; width++ {
			tail := 64 - lead - width
			turn := uint64(math.MaxUint64) >> (lead + tail) << tail
			all = append(all, along(5, turn, turn), along(stir(turn), turn&stir(turn), turn, 0, turn&stir(turn)))
		}
	}
	whole := make([]uint64, api.MaxRun)
	for i := range whole {
		whole[i] = stir(uint64(i))
	}
	return append(all, whole)
}

func checkPack(t *testing.T, l []uint64, want api.Bits) {
	t.Helper()
	if x, e := Pack(l); e != api.OK || !same(x, want) {
		t.Errorf("Pack(%v) = %s, %d, want %s", l, text(x), e, text(want))
	}
	if back, e := Unpack(want); e != api.OK || !slices.Equal(back, l) {
		t.Errorf("Unpack(%s) = %v, %d, want %v", text(want), back, e, l)
	}
}

func checkRefused(t *testing.T, x api.Bits) {
	t.Helper()
	if l, e := Unpack(x); l != nil || e != api.ErrForm {
		t.Errorf("Unpack(%s) = %v, %d", text(x), l, e)
	}
}

func TestP30PackTellsCountAndFirst(t *testing.T) {
	checkPack(t, nil, bitsOf("0000000000000000"))
	checkPack(t, []uint64{}, bitsOf("0000000000000000"))
	checkPack(t, []uint64{0}, bitsOf("0000000000000001 "+strings.Repeat("0", 64)))
	checkPack(t, []uint64{5}, bitsOf("0000000000000001 "+strings.Repeat("0", 61)+"101"))
	checkPack(t, []uint64{1 << 63}, bitsOf("0000000000000001 1"+strings.Repeat("0", 63)))
	checkPack(t, []uint64{math.MaxUint64}, bitsOf("0000000000000001 "+strings.Repeat("1", 64)))
}

func TestP30AMeasureThatStaysIsOneBit(t *testing.T) {
	for _, v := range []uint64{0, 1, 1 << 63, math.MaxUint64, math.Float64bits(21.5)} {
		checkPack(t, []uint64{v, v}, bitsOf(front(2, v)+"0"))
		checkPack(t, slices.Repeat([]uint64{v}, api.MaxRun), bitsOf(front(1000, v)+strings.Repeat("0", 999)))
	}
}

func TestP30TheFirstTurnTellsItsWindow(t *testing.T) {
	for _, c := range []struct {
		turn uint64
		want string
	}{
		{1, "11 111111 000000 1"},
		{2, "11 111110 000000 1"},
		{8, "11 111100 000000 1"},
		{10, "11 111100 000010 101"},
		{12, "11 111100 000001 11"},
		{1 << 63, "11 000000 000000 1"},
		{3 << 62, "11 000000 000001 11"},
		{5 << 30, "11 011111 000010 101"},
		{1<<63 + 1, "11 000000 111111 1" + strings.Repeat("0", 62) + "1"},
		{1<<63 - 1, "11 000001 111110 " + strings.Repeat("1", 63)},
		{math.MaxUint64 - 1, "11 000000 111110 " + strings.Repeat("1", 63)},
		{math.MaxUint64, "11 000000 111111 " + strings.Repeat("1", 64)},
	} {
		for _, first := range []uint64{0, 9, 1 << 63, math.MaxUint64, stir(3)} {
			checkPack(t, along(first, c.turn), bitsOf(front(2, first)+c.want))
			// a turn of 0 is no window
			checkPack(t, along(first, 0, 0, c.turn), bitsOf(front(4, first)+"00"+c.want))
		}
	}
}

func TestP30AWindowIsUsedWhereItHoldsTheTurn(t *testing.T) {
	// bits 2 to 5, which are the lead 58 and the tail 2
	open := wide(58, 4, "1111")
	for _, c := range []struct {
		turn uint64
		want string
	}{
		{0, "0"},
		{0b000100, "10 0001"}, {0b001000, "10 0010"}, {0b100000, "10 1000"},
		{0b011000, "10 0110"}, {0b100100, "10 1001"}, {0b111100, "10 1111"},
		// too far at the tail, at the lead, at both
		{0b000010, wide(62, 1, "1")}, {0b000001, wide(63, 1, "1")}, {0b000110, wide(61, 2, "11")},
		{0b1000000, wide(57, 1, "1")}, {0b1100000, wide(57, 2, "11")},
		{0b1000010, wide(57, 6, "100001")}, {1<<63 + 1, wide(0, 64, "1"+strings.Repeat("0", 62)+"1")},
	} {
		for _, first := range []uint64{0, math.MaxUint64, stir(4)} {
			checkPack(t, along(first, 0b111100, c.turn), bitsOf(front(3, first)+open+c.want))
			checkPack(t, along(first, 0b111100, 0, c.turn), bitsOf(front(4, first)+open+"0"+c.want))
		}
	}
}

func TestP30AWindowStaysTillAnotherIsTold(t *testing.T) {
	open := wide(58, 4, "1111")
	// what is narrower, in the window, does not make it narrower
	checkPack(t, along(0, 0b111100, 0b001000, 0, 0b111100, 0b000100),
		bitsOf(front(6, 0)+open+"10 0010"+"0"+"10 1111"+"10 0001"))
	// a window that is told is the only one from there on, also where it is narrower than the one ahead
	checkPack(t, along(0, 0b111100, 0b10, 0b111100, 0b10), bitsOf(front(5, 0)+open+wide(62, 1, "1")+open+wide(62, 1, "1")))
	checkPack(t, along(0, 0b111100, 0b11, 0b1, 0b10, 0b100),
		bitsOf(front(6, 0)+open+wide(62, 2, "11")+"10 01"+"10 10"+wide(61, 1, "1")))
	// the whole width holds all
	all := strings.Repeat("1", 64)
	checkPack(t, along(0, math.MaxUint64, 1, 1<<63, math.MaxUint64, 0),
		bitsOf(front(6, 0)+wide(0, 64, all)+"10"+binary(1, 64)+"10"+binary(1<<63, 64)+"10"+all+"0"))
}

func TestP30PackIsTheModel(t *testing.T) {
	for _, l := range lists() {
		x, e := Pack(l)
		if e != api.OK || text(x) != model(l) || bits.Check(x) != api.OK {
			t.Fatalf("Pack(%v) = %s, %d, want %s", l, text(x), e, model(l))
		}
	}
}

func TestP30PackHasABound(t *testing.T) {
	for _, n := range []int{1001, 1002, 65536, 66000} {
		if x, e := Pack(make([]uint64, n)); x.B != nil || x.N != 0 || e != api.ErrLarge {
			t.Errorf("%d: %d bits, %d", n, x.N, e)
		}
	}
	checkPack(t, make([]uint64, 1000), bitsOf(front(1000, 0)+strings.Repeat("0", 999)))
}

// Neither of two windows holds the other one, and both are as wide as such ones can be.
func TestP30TheMostBitsHaveRoom(t *testing.T) {
	turns := make([]uint64, 999)
	for i := range turns {
		turns[i] = math.MaxUint64 >> 1 << (i % 2)
	}
	turns[998] = math.MaxUint64
	l := along(stir(1), turns...)
	x, e := Pack(l)
	if x.N != 80+998*(14+63)+14+64 || e != api.OK {
		t.Fatalf("%d bits, %d", x.N, e)
	}
	checkPack(t, l, bitsOf(model(l)))
}

func TestP31UnpackUndoesPack(t *testing.T) {
	for _, l := range lists() {
		x, _ := Pack(l)
		if back, e := Unpack(x); e != api.OK || !slices.Equal(back, l) {
			t.Fatalf("%v: %v, %d", l, back, e)
		}
	}
}

func TestP31BrokenBitsAreRefused(t *testing.T) {
	for _, x := range []api.Bits{
		{N: -1}, {N: math.MinInt}, {N: 16}, {N: math.MaxInt}, {B: []byte{0}, N: 16}, {B: []byte{0, 0, 0}, N: 16},
		{B: []byte{0, 0}, N: 0}, {B: []byte{0, 0}, N: -16},
		{B: slices.Concat([]byte{0, 2}, make([]byte, 8), []byte{0x40}), N: 81},
	} {
		if l, e := Unpack(x); l != nil || e != bits.Check(x) || e == api.OK {
			t.Errorf("Unpack(%v) = %v, %d", x, l, e)
		}
	}
}

func TestP31TooFewBitsAreRefused(t *testing.T) {
	for _, l := range [][]uint64{{}, {1}, {1, 1}, {1, 2}, {1, math.MaxUint64}, along(1, 60, 8, 0, 32, 1, 1), {0, 12, 8, 8, 13}} {
		s := model(l)
		for i := range len(s) {
			checkRefused(t, bitsOf(s[:i]))
		}
	}
}

func TestP31TooManyBitsAreRefused(t *testing.T) {
	for _, l := range [][]uint64{{}, {1}, {1, 1}, {1, 2}, along(1, 60, 8), {0, math.MaxUint64}, make([]uint64, 1000)} {
		for _, more := range []string{"0", "1", "00", "10", "101", "00000000", wide(63, 1, "1"), strings.Repeat("0", 64)} {
			checkRefused(t, bitsOf(model(l)+more))
		}
	}
}

func TestP31WrongCountsAreRefused(t *testing.T) {
	for _, count := range []int{0, 1, 2, 4, 5, 999, 1000, 1001, 65535} {
		checkRefused(t, bitsOf(front(count, 7)+"00"))
	}
	checkPack(t, []uint64{7, 7, 7}, bitsOf(front(3, 7)+"00"))
	// each of these is told well, but there are more than Pack takes
	for _, count := range []int{1001, 1002, 65535} {
		checkRefused(t, bitsOf(front(count, 7)+strings.Repeat("0", count-1)))
	}
}

func TestP31AWindowThatIsNotThereIsRefused(t *testing.T) {
	for n := range 70 {
		for _, body := range []string{strings.Repeat("0", n), strings.Repeat("1", n)} {
			checkRefused(t, bitsOf(front(2, 3)+"10"+body))
			checkRefused(t, bitsOf(front(3, 3)+"0"+"10"+body))
		}
	}
}

func TestP31AWindowBehindTheLastBitIsRefused(t *testing.T) {
	for lead := range 64 {
		for width := 1; width <= 64; width++ {
			body := strings.Repeat("1", width)
			x := bitsOf(front(2, 3) + wide(lead, width, body))
			if lead+width > 64 {
				checkRefused(t, x)
				checkRefused(t, bitsOf(front(2, 3)+wide(lead, width, body[:64-lead])))
			} else if l, e := Unpack(x); len(l) != 2 || e != api.OK {
				t.Errorf("%d %d: %v, %d", lead, width, l, e)
			}
		}
	}
}

func TestP31AWindowWiderThanItsTurnIsRefused(t *testing.T) {
	for _, body := range []string{"0", "00", "01", "10", "010", "011", "110", "0110", "1000", "0001", "0000",
		strings.Repeat("0", 40), strings.Repeat("1", 39) + "0", "0" + strings.Repeat("1", 39)} {
		for lead := 0; lead+len(body) <= 64; lead++ {
			checkRefused(t, bitsOf(front(2, 3)+wide(lead, len(body), body)))
		}
	}
	checkRefused(t, bitsOf(front(2, 3)+wide(0, 64, strings.Repeat("0", 64))))
	checkRefused(t, bitsOf(front(2, 3)+wide(0, 64, "0"+strings.Repeat("1", 63))))
	checkRefused(t, bitsOf(front(2, 3)+wide(0, 64, strings.Repeat("1", 63)+"0")))
}

func TestP31ATurnOfNothingInAWindowIsRefused(t *testing.T) {
	for width := 1; width <= 64; width++ {
		open := wide(0, width, strings.Repeat("1", width))
		checkRefused(t, bitsOf(front(3, 3)+open+"10"+strings.Repeat("0", width)))
		checkPack(t, along(3, math.MaxUint64<<(64-width), 0), bitsOf(front(3, 3)+open+"0"))
	}
}

func TestP31AWindowThatIsNotNeededIsRefused(t *testing.T) {
	open := wide(58, 4, "1111")
	for lead := range 64 {
		for width := 1; width <= 64-lead; width++ {
			x := bitsOf(front(3, 3) + open + wide(lead, width, strings.Repeat("1", width)))
			if lead >= 58 && lead+width <= 62 {
				checkRefused(t, x)
			} else if l, e := Unpack(x); len(l) != 3 || e != api.OK {
				t.Errorf("%d %d: %v, %d", lead, width, l, e)
			}
		}
	}
}

// What is unpacked is packed to just those bits: no two texts are one list.
func TestP31WhatIsUnpackedIsWhatPackMakes(t *testing.T) {
	taken := 0
	check := func(x api.Bits) {
		l, e := Unpack(x)
		if e == api.OK {
			taken++
			if y, _ := Pack(l); !same(x, y) {
				t.Fatalf("Unpack(%s) = %v, packed %s", text(x), l, text(y))
			}
		} else if l != nil || e != api.ErrForm {
			t.Fatalf("Unpack(%s) = %v, %d", text(x), l, e)
		}
	}
	for n := range 17 {
		for v := range 1 << n {
			s := binary(uint64(v), n)[:n]
			check(bitsOf(front(2, 1) + s))
			check(bitsOf(front(3, 1) + wide(30, 3, "101") + s))
		}
	}
	for _, l := range [][]uint64{{}, {3}, {0, 12, 8, 8, 13}, along(1, 60, 8, 0, 32, 1, 1), {5, 5, 5, 5}, {0, math.MaxUint64, 7}} {
		x := bitsOf(model(l))
		for i := range x.N {
			y := api.Bits{B: slices.Clone(x.B), N: x.N}
			y.B[i/8] ^= 128 >> (i % 8)
			check(y)
		}
	}
	if taken < 500 {
		t.Error(taken)
	}
}

func TestP1UnpackAnswersWhateverItIsGiven(t *testing.T) {
	for i := range 3000 {
		n := int(stir(uint64(i)) % 400)
		s := binary(stir(uint64(i)+5000)%8, 16)
		for k := range n {
			s += binary(stir(uint64(400*i+k))&1, 1)
		}
		x := bitsOf(s)
		l, e := Unpack(x)
		if y, _ := Pack(l); e == api.OK && !same(x, y) || e != api.OK && (l != nil || e != api.ErrForm) {
			t.Fatalf("Unpack(%s) = %v, %d", text(x), l, e)
		}
	}
}

func TestP2NothingIsChangedOrShared(t *testing.T) {
	room := []uint64{5, 10, 400, 9, 9, 9}
	before := slices.Clone(room)
	x, _ := Pack(room[:3])
	y, _ := Pack(room[:3])
	if !slices.Equal(room, before) {
		t.Fatal(room)
	}
	kept := slices.Clone(x.B)
	for i := range y.B {
		y.B[i] = 255
	}
	if again, _ := Pack(room[:3]); !bytes.Equal(x.B, kept) || !same(x, again) {
		t.Error("two answers share memory")
	}
	a, _ := Unpack(x)
	b, _ := Unpack(x)
	a[0], a[1] = 99, 99
	if !slices.Equal(b, room[:3]) || !bytes.Equal(x.B, kept) {
		t.Error(b, x.B)
	}
}
