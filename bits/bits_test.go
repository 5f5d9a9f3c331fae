package bits

import (
	"bytes"
	"encoding/binary"
	"math"
	"slices"
	"testing"

	"gaugehouse/api"
)

// edges are numbers around each power of 2, where widths and bytes change.
func edges() []uint64 {
	l := []uint64{0, math.MaxUint64}
	for i := range 64 {
		p := uint64(1) << i
		l = append(l, p-1, p, p+1)
	}
	return l
}

// stir makes unlike numbers from like ones, the same in each run.
func stir(u uint64) uint64 {
	u = (u + 1) * 0x9e3779b97f4a7c15
	u = (u ^ u>>29) * 0xbf58476d1ce4e5b9
	return u ^ u>>32
}

func TestP10ZigTellsSignLast(t *testing.T) {
	for _, c := range []struct {
		n int64
		u uint64
	}{
		{0, 0}, {-1, 1}, {1, 2}, {-2, 3}, {2, 4}, {-150, 299}, {150, 300},
		{math.MaxInt64, math.MaxUint64 - 1}, {math.MinInt64, math.MaxUint64},
		{math.MaxInt64 - 1, math.MaxUint64 - 3}, {math.MinInt64 + 1, math.MaxUint64 - 2},
	} {
		if u := Zig(c.n); u != c.u {
			t.Errorf("Zig(%d) = %d, want %d", c.n, u, c.u)
		}
		if n := Zag(c.u); n != c.n {
			t.Errorf("Zag(%d) = %d, want %d", c.u, n, c.n)
		}
	}
}

func TestP10ZagUndoesZig(t *testing.T) {
	for _, u := range edges() {
		if Zig(Zag(u)) != u {
			t.Errorf("Zig(Zag(%d)) = %d", u, Zig(Zag(u)))
		}
		if n := int64(u); Zag(Zig(n)) != n {
			t.Errorf("Zag(Zig(%d)) = %d", n, Zag(Zig(n)))
		}
	}
}

func TestP10PutTellsLowestFirst(t *testing.T) {
	for _, c := range []struct {
		u    uint64
		want []byte
	}{
		{0, []byte{0}}, {1, []byte{1}}, {127, []byte{127}}, {128, []byte{128, 1}},
		{300, []byte{172, 2}}, {16383, []byte{255, 127}}, {16384, []byte{128, 128, 1}},
		{1<<63 - 1, []byte{255, 255, 255, 255, 255, 255, 255, 255, 127}},
		{1 << 63, []byte{128, 128, 128, 128, 128, 128, 128, 128, 128, 1}},
		{math.MaxUint64, []byte{255, 255, 255, 255, 255, 255, 255, 255, 255, 1}},
	} {
		if b := Put(c.u); !bytes.Equal(b, c.want) {
			t.Errorf("Put(%d) = %v, want %v", c.u, b, c.want)
		}
	}
}

func TestP10TakeUndoesPut(t *testing.T) {
	for _, u := range edges() {
		b := Put(u)
		if want := binary.AppendUvarint(nil, u); !bytes.Equal(b, want) {
			t.Errorf("Put(%d) = %v, want %v", u, b, want)
		}
		for _, rest := range [][]byte{nil, {0}, {255}, {128, 0}} {
			v, n, e := Take(slices.Concat(b, rest))
			if v != u || n != len(b) || e != api.OK {
				t.Errorf("Take(%v and %v) = %d, %d, %d", b, rest, v, n, e)
			}
		}
		for i := range b {
			checkTakeFails(t, b[:i], api.ErrShort)
		}
	}
}

func TestP10TakeTellsFirstWrong(t *testing.T) {
	nine := bytes.Repeat([]byte{128}, 9)
	for _, c := range []struct {
		b    []byte
		want api.Errno
	}{
		{nil, api.ErrShort},
		{[]byte{}, api.ErrShort},
		{[]byte{128}, api.ErrShort},
		{[]byte{255, 255}, api.ErrShort},
		{nine, api.ErrShort},
		{[]byte{128, 0}, api.ErrForm},
		{[]byte{255, 0}, api.ErrForm},
		{[]byte{128, 0, 128}, api.ErrForm},
		{[]byte{128, 128, 0}, api.ErrForm},
		{append(slices.Clone(nine), 0), api.ErrForm},
		{append(slices.Clone(nine), 2), api.ErrForm},
		{append(slices.Clone(nine), 127), api.ErrForm},
		{append(slices.Clone(nine), 128), api.ErrForm},
		{append(slices.Clone(nine), 129, 1), api.ErrForm},
		{bytes.Repeat([]byte{255}, 30), api.ErrForm},
	} {
		checkTakeFails(t, c.b, c.want)
	}
}

func TestP10TakeStopsAtLastByte(t *testing.T) {
	for _, c := range []struct {
		b []byte
		u uint64
		n int
	}{
		{[]byte{0, 0}, 0, 1},
		{[]byte{0, 128}, 0, 1},
		{[]byte{128, 128, 1, 0}, 16384, 3},
		{[]byte{128, 128, 128, 128, 128, 128, 128, 128, 128, 1, 255}, 1 << 63, 10},
	} {
		if u, n, e := Take(c.b); u != c.u || n != c.n || e != api.OK {
			t.Errorf("Take(%v) = %d, %d, %d", c.b, u, n, e)
		}
	}
}

// Each text of two bytes is either taken, and then just what Put makes, or refused.
func TestP10TakeHasOneTextForEachNumber(t *testing.T) {
	for i := range 1 << 16 {
		b := []byte{byte(i >> 8), byte(i)}
		u, n, e := Take(b)
		if e == api.OK && !bytes.Equal(Put(u), b[:n]) {
			t.Errorf("Take(%v) = %d, of which Put is %v", b, u, Put(u))
		}
		if e != api.OK && b[0] < 128 {
			t.Errorf("Take(%v) = %d", b, e)
		}
	}
}

func checkTakeFails(t *testing.T, b []byte, want api.Errno) {
	t.Helper()
	if u, n, e := Take(b); u != 0 || n != 0 || e != want {
		t.Errorf("Take(%v) = %d, %d, %d, want %d", b, u, n, e, want)
	}
}

func TestP11CheckTakesWhatIsWhole(t *testing.T) {
	for i, x := range []api.Bits{
		{}, {B: []byte{}}, {B: []byte{128}, N: 1}, {B: []byte{0}, N: 1}, {B: []byte{254}, N: 7},
		{B: []byte{255}, N: 8}, {B: []byte{255, 128}, N: 9}, {B: []byte{1, 255}, N: 16},
		{B: make([]byte, 10001), N: 80001},
	} {
		if e := Check(x); e != api.OK {
			t.Errorf("%d: %d", i, e)
		}
	}
}

// brokenBits are bits that no call takes.
func brokenBits() []api.Bits {
	l := []api.Bits{
		{N: -1}, {B: []byte{0}, N: -1}, {B: []byte{0}, N: -8}, {N: math.MinInt},
		{N: 1}, {N: 8}, {N: math.MaxInt}, {B: []byte{0}, N: math.MaxInt},
		{B: []byte{0}, N: 0}, {B: []byte{0, 0}, N: 8}, {B: []byte{0}, N: 9}, {B: []byte{0, 0, 0}, N: 9},
		{B: []byte{255, 255}, N: 15},
	}
	for n := 1; n < 8; n++ {
		for bit := n; bit < 8; bit++ {
			l = append(l, api.Bits{B: []byte{255, 128 >> bit}, N: 8 + n})
		}
	}
	return l
}

func TestP11BrokenBitsAreRefused(t *testing.T) {
	for _, x := range brokenBits() {
		if e := Check(x); e != api.ErrForm {
			t.Errorf("Check(%v) = %d", x, e)
		}
		// The bits are looked at ahead of the numbers.
		for _, n := range []int{-1, 0, 1, 65} {
			checkPushFails(t, x, 2, n, api.ErrForm)
			checkPullFails(t, x, 0, n, api.ErrForm)
			checkPullFails(t, x, -1, n, api.ErrForm)
		}
	}
}

func TestP11PushTellsHighestFirst(t *testing.T) {
	x := api.Bits{}
	for _, c := range []struct {
		v    uint64
		n    int
		want api.Bits
	}{
		{0, 0, api.Bits{}},
		{6, 3, api.Bits{B: []byte{0xc0}, N: 3}},
		{0, 0, api.Bits{B: []byte{0xc0}, N: 3}},
		{1, 5, api.Bits{B: []byte{0xc1}, N: 8}},
		{1, 1, api.Bits{B: []byte{0xc1, 0x80}, N: 9}},
		{0xabc, 12, api.Bits{B: []byte{0xc1, 0xd5, 0xe0}, N: 21}},
		{1, 64, api.Bits{B: []byte{0xc1, 0xd5, 0xe0, 0, 0, 0, 0, 0, 0, 0, 0x08}, N: 85}},
	} {
		y, e := Push(x, c.v, c.n)
		if e != api.OK || y.N != c.want.N || !bytes.Equal(y.B, c.want.B) {
			t.Fatalf("Push(%v, %d, %d) = %v, %d, want %v", x, c.v, c.n, y, e, c.want)
		}
		x = y
	}
}

// The bits one by one, as a list of its own, stand beside the packed ones.
func TestP11PullUndoesPush(t *testing.T) {
	x := api.Bits{}
	var list []uint64
	for i := range 300 {
		n := int(stir(uint64(i)) % 65)
		v := stir(uint64(i) + 1000)
		if n < 64 {
			v %= 1 << n
		}
		y, e := Push(x, v, n)
		if e != api.OK || Check(y) != api.OK {
			t.Fatalf("Push(.., %d, %d): %d, Check %d", v, n, e, Check(y))
		}
		if back, e := Pull(y, x.N, n); back != v || e != api.OK {
			t.Fatalf("Pull(.., %d, %d) = %d, %d, want %d", x.N, n, back, e, v)
		}
		for bit := n - 1; bit >= 0; bit-- {
			list = append(list, v>>bit&1)
		}
		x = y
	}
	if x.N != len(list) {
		t.Fatalf("%d bits, want %d", x.N, len(list))
	}
	for at := range x.N + 1 {
		n := min(int(stir(uint64(at))%65), x.N-at)
		want := uint64(0)
		for _, bit := range list[at : at+n] {
			want = want*2 + bit
		}
		if v, e := Pull(x, at, n); v != want || e != api.OK {
			t.Fatalf("Pull(.., %d, %d) = %d, %d, want %d", at, n, v, e, want)
		}
	}
}

func TestP11PushRefusesWrongNumbers(t *testing.T) {
	whole := api.Bits{B: make([]byte, api.MaxBits/8), N: api.MaxBits}
	for _, x := range []api.Bits{{}, {B: []byte{160}, N: 3}, whole} {
		for _, n := range []int{-1, -64, 65, 128, math.MinInt, math.MaxInt} {
			checkPushFails(t, x, 0, n, api.ErrArg)
			checkPushFails(t, x, 1, n, api.ErrArg)
		}
		for n := range 64 {
			checkPushFails(t, x, 1<<n, n, api.ErrArg)
			checkPushFails(t, x, math.MaxUint64, n, api.ErrArg)
		}
	}
}

func TestP11PushTakesTheGreatestOfEachWidth(t *testing.T) {
	for n := range 65 {
		v := uint64(math.MaxUint64)
		if n < 64 {
			v = 1<<n - 1
		}
		y, e := Push(api.Bits{B: []byte{0}, N: 5}, v, n)
		if e != api.OK || y.N != 5+n {
			t.Fatalf("%d: %v %d", n, y, e)
		}
		if back, e := Pull(y, 5, n); back != v || e != api.OK {
			t.Errorf("%d: %d %d, want %d", n, back, e, v)
		}
	}
}

func TestP11PushHasABound(t *testing.T) {
	sized := func(n int) api.Bits { return api.Bits{B: make([]byte, (n+7)/8), N: n} }
	for _, c := range []struct {
		have, n int
		want    api.Errno
	}{
		{79999, 1, api.OK}, {79936, 64, api.OK}, {80000, 0, api.OK},
		{80000, 1, api.ErrLarge}, {79999, 2, api.ErrLarge}, {79937, 64, api.ErrLarge},
		{80001, 0, api.ErrLarge}, {80064, 64, api.ErrLarge},
	} {
		if c.want != api.OK {
			checkPushFails(t, sized(c.have), 0, c.n, c.want)
			continue
		}
		if y, e := Push(sized(c.have), 0, c.n); e != api.OK || y.N != api.MaxBits || len(y.B) != api.MaxBits/8 {
			t.Errorf("Push to %d bits %d more: %d bits, %d", c.have, c.n, y.N, e)
		}
	}
}

func TestP11PullRefusesWrongNumbers(t *testing.T) {
	x := api.Bits{B: []byte{255, 224}, N: 11}
	for _, c := range []struct {
		at, n int
		want  api.Errno
	}{
		{0, -1, api.ErrArg}, {0, 65, api.ErrArg}, {-1, 1, api.ErrArg}, {-1, 0, api.ErrArg},
		{100, 65, api.ErrArg}, {100, -1, api.ErrArg}, {math.MinInt, 64, api.ErrArg},
		{0, math.MaxInt, api.ErrArg}, {0, math.MinInt, api.ErrArg},
		{0, 12, api.ErrShort}, {0, 64, api.ErrShort}, {11, 1, api.ErrShort}, {12, 0, api.ErrShort},
		{10, 2, api.ErrShort}, {math.MaxInt, 0, api.ErrShort}, {math.MaxInt, 64, api.ErrShort},
		{math.MaxInt - 63, 64, api.ErrShort},
	} {
		checkPullFails(t, x, c.at, c.n, c.want)
	}
	checkPullFails(t, api.Bits{}, 0, 1, api.ErrShort)
}

func TestP11PullReachesBothEnds(t *testing.T) {
	// These are more bits than Push makes, and Pull has no such bound.
	long := api.Bits{B: make([]byte, 10002), N: 80012}
	long.B[10001] = 0xb0
	for _, c := range []struct {
		x     api.Bits
		at, n int
		want  uint64
	}{
		{api.Bits{}, 0, 0, 0},
		{api.Bits{B: []byte{255, 224}, N: 11}, 0, 11, 2047},
		{api.Bits{B: []byte{255, 224}, N: 11}, 11, 0, 0},
		{api.Bits{B: []byte{0, 32}, N: 11}, 10, 1, 1},
		{long, 80008, 4, 11},
	} {
		if v, e := Pull(c.x, c.at, c.n); v != c.want || e != api.OK {
			t.Errorf("Pull(%d bits, %d, %d) = %d, %d, want %d", c.x.N, c.at, c.n, v, e, c.want)
		}
	}
}

func checkPushFails(t *testing.T, x api.Bits, v uint64, n int, want api.Errno) {
	t.Helper()
	if y, e := Push(x, v, n); y.B != nil || y.N != 0 || e != want {
		t.Errorf("Push(%d bits, %d, %d) = %d bits, %d, want %d", x.N, v, n, y.N, e, want)
	}
}

func checkPullFails(t *testing.T, x api.Bits, at, n int, want api.Errno) {
	t.Helper()
	if v, e := Pull(x, at, n); v != 0 || e != want {
		t.Errorf("Pull(%d bits, %d, %d) = %d, %d, want %d", x.N, at, n, v, e, want)
	}
}

// Room behind the list is there for the taking; Push must not take it.
func TestP2PushLeavesWhatIsHandedIn(t *testing.T) {
	for _, n := range []int{0, 1, 4, 8, 40} {
		room := []byte{0xff, 0xa0, 7, 7, 7, 7, 7, 7, 7, 7}
		before := slices.Clone(room)
		x := api.Bits{B: room[:2], N: 12}
		y, e := Push(x, 1<<n-1, n)
		if e != api.OK || !bytes.Equal(room, before) {
			t.Fatalf("%d: %v, %d", n, room, e)
		}
		y.B[0], y.B[1] = 0, 0
		if !bytes.Equal(room, before) {
			t.Errorf("%d: the answer shares memory: %v", n, room)
		}
	}
}

func TestP2PutAnswersNewMemory(t *testing.T) {
	a, b := Put(300), Put(300)
	a[0] = 0
	if !bytes.Equal(b, []byte{172, 2}) || !bytes.Equal(Put(300), b) {
		t.Error(b, Put(300))
	}
}

func TestP2ReadingLeavesWhatIsHandedIn(t *testing.T) {
	b := []byte{172, 2, 9}
	Take(b)
	x := api.Bits{B: b[:2], N: 16}
	Check(x)
	Pull(x, 1, 15)
	if !bytes.Equal(b, []byte{172, 2, 9}) {
		t.Error(b)
	}
}
