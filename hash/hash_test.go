package hash

import (
	"bytes"
	"math"
	"math/big"
	mathbits "math/bits"
	"slices"
	"testing"
)

// stir makes unlike numbers from like ones, the same in each run, and not by the program's own mixing.
func stir(u uint64) uint64 {
	u = (u + 1) * 0x9e3779b97f4a7c15
	u = (u ^ u>>29) * 0xbf58476d1ce4e5b9
	return u ^ u>>32
}

// numbers are the powers of 2 with those beside them, their turned ones, and many others.
func numbers() []uint64 {
	l := []uint64{0, math.MaxUint64, 0x8f3ba1c75d2e9461, 0x6ac9e85b137df02d, 0x0123456789abcdef}
	for bit := range 64 {
		p := uint64(1) << bit
		l = append(l, p-1, p, p+1, ^p, -p)
		for other := range bit {
			l = append(l, p|1<<other)
		}
	}
	for i := range uint64(3000) {
		l = append(l, i, stir(i), math.MaxUint64-i)
	}
	return l
}

// texts are many texts, with all bytes and with more than 256 of them among these.
func texts() [][]byte {
	l := [][]byte{nil, {}, {0}, {255}, {0, 0}, []byte("a"), []byte("ab"), []byte("ba"), bytes.Repeat([]byte{255}, 700)}
	for i := range 80 {
		var b []byte
		for k := range 9 * i {
			b = append(b, byte(stir(uint64(1000*i+k))>>20))
		}
		l = append(l, b)
	}
	return l
}

func seeds() []uint64 { return []uint64{0, 1, 5, 255, 256, 1 << 63, math.MaxUint64, stir(8)} }

// word is what is left of n by 2^64.
func word(n *big.Int) *big.Int {
	return new(big.Int).Mod(n, new(big.Int).Lsh(big.NewInt(1), 64))
}

// turned is n with its whole part by a power of 2 turned into it.
func turned(n *big.Int, power uint) *big.Int {
	whole := new(big.Int).Quo(n, new(big.Int).Lsh(big.NewInt(1), power))
	return new(big.Int).Xor(n, whole)
}

func times(n *big.Int, factor string) *big.Int {
	f, _ := new(big.Int).SetString(factor, 16)
	return word(new(big.Int).Mul(n, f))
}

// modelMix is Mix, told once more, by numbers that have no bound.
func modelMix(n *big.Int) *big.Int {
	n = times(turned(n, 29), "8f3ba1c75d2e9461")
	n = times(turned(n, 32), "6ac9e85b137df02d")
	return turned(n, 28)
}

// modelOf is Of, told once more, by numbers that have no bound.
func modelOf(seed uint64, b []byte) uint64 {
	n := modelMix(new(big.Int).SetUint64(seed))
	for i, c := range b {
		n.Add(n, big.NewInt(int64(c)))
		n.Add(n, big.NewInt(256*int64(i)))
		n = modelMix(word(n))
	}
	return n.Uint64()
}

func TestP50MixHasItsNumbers(t *testing.T) {
	for _, c := range []struct{ u, want uint64 }{
		{0, 0}, {1, 0xa9ce6e66c8f2e8eb}, {2, 0x401eecafa9c6d6e6}, {77, 0x1a01b91217428a69},
		{255, 0x9be4fc3492449510}, {256, 0xb13910d23b5f63cb}, {1 << 28, 0x0b09bc0309696175},
		{1<<29 - 1, 0xd40341f6a9374141}, {1 << 29, 0xd22289d8520bd59d}, {1 << 32, 0x0bebd843052992ec},
		{1 << 63, 0xde00e6cdaaae7830}, {1<<63 - 1, 0x357d096fe28f7d07},
		{math.MaxUint64 - 1, 0x45c9b76911eb9fd2}, {math.MaxUint64, 0x6afa12dfc51efa0e},
		{0x0123456789abcdef, 0x13849790aaac3197},
		{0x8f3ba1c75d2e9461, 0x36c1067f2684977c}, {0x6ac9e85b137df02d, 0x97977371daa4901a},
	} {
		if v := Mix(c.u); v != c.want {
			t.Errorf("Mix(%x) = %x, want %x", c.u, v, c.want)
		}
		if v := Unmix(c.want); v != c.u {
			t.Errorf("Unmix(%x) = %x, want %x", c.want, v, c.u)
		}
	}
}

func TestP50MixIsTheModel(t *testing.T) {
	for _, u := range numbers() {
		if v, want := Mix(u), modelMix(new(big.Int).SetUint64(u)).Uint64(); v != want {
			t.Fatalf("Mix(%x) = %x, want %x", u, v, want)
		}
	}
}

func TestP50UnmixUndoesMix(t *testing.T) {
	for _, u := range numbers() {
		if v := Unmix(Mix(u)); v != u {
			t.Fatalf("Unmix(Mix(%x)) = %x", u, v)
		}
		if v := Mix(Unmix(u)); v != u {
			t.Fatalf("Mix(Unmix(%x)) = %x", u, v)
		}
	}
}

func TestP50NoTwoAreMixedToOne(t *testing.T) {
	from := map[uint64]uint64{}
	for _, u := range numbers() {
		v := Mix(u)
		if other, is := from[v]; is && other != u {
			t.Fatalf("%x and %x are mixed to %x", other, u, v)
		}
		from[v] = u
	}
}

// What Unmix is made of holds for each shift and each odd number, not for those of Mix alone.
func TestP50UnturnUndoesTurn(t *testing.T) {
	for shift := uint(1); shift < 64; shift++ {
		for bit := range 64 {
			for _, u := range []uint64{1 << bit, math.MaxUint64 >> bit, stir(uint64(bit))} {
				if v := unturn(turn(u, shift), shift); v != u {
					t.Fatalf("%x by %d: %x", u, shift, v)
				}
			}
		}
	}
}

func TestP50InverseUndoesAFactor(t *testing.T) {
	for _, u := range numbers() {
		if odd := u | 1; odd*inverse(odd) != 1 {
			t.Fatalf("%x times %x is not 1", odd, inverse(odd))
		}
	}
}

func TestP50OneBitTurnsManyBits(t *testing.T) {
	for i := range uint64(50) {
		for bit := range 64 {
			u := stir(i)
			if n := mathbits.OnesCount64(Mix(u) ^ Mix(u^1<<bit)); n < 6 || n > 58 {
				t.Errorf("bit %d of %x turns %d bits", bit, u, n)
			}
		}
	}
}

func TestP51OfHasItsNumbers(t *testing.T) {
	var long []byte
	for i := range 1000 {
		long = append(long, byte(i))
	}
	for _, c := range []struct {
		seed uint64
		b    []byte
		want uint64
	}{
		{0, nil, 0}, {5, nil, 0xcd27d0bcd596f22d}, {math.MaxUint64, []byte{}, 0x6afa12dfc51efa0e},
		{0, []byte{0}, 0}, {0, []byte{0, 0}, 0xb13910d23b5f63cb},
		{5, []byte("a"), 0x23a2715927b6b2b4}, {5, []byte("ab"), 0x7350a6b9ab827541}, {5, []byte("ba"), 0xced616a6754d5727},
		{9, []byte("gauge"), 0xf1d9c66719fa4904}, {math.MaxUint64, []byte{255, 255}, 0x88877d345f3b737a},
		{1 << 63, []byte("house of stores"), 0x51d5f0a091f9ac3f},
		{7, long[:256], 0x64766c2e7c10f982}, {7, long, 0x2830ef5b79628127},
		{3, make([]byte, 70000), 0x6518ded2bc9230a7},
	} {
		if v := Of(c.seed, c.b); v != c.want {
			t.Errorf("Of(%x, %d bytes) = %x, want %x", c.seed, len(c.b), v, c.want)
		}
	}
}

func TestP51OfIsTheModel(t *testing.T) {
	for _, seed := range seeds() {
		for _, b := range texts() {
			if v, want := Of(seed, b), modelOf(seed, b); v != want {
				t.Fatalf("Of(%x, %v) = %x, want %x", seed, b, v, want)
			}
		}
	}
}

func TestP51OfNoBytesIsMixOfTheSeed(t *testing.T) {
	for _, seed := range numbers() {
		if Of(seed, nil) != Mix(seed) || Of(seed, []byte{}) != Mix(seed) {
			t.Fatalf("Of(%x, no bytes) = %x, want %x", seed, Of(seed, nil), Mix(seed))
		}
	}
}

// What is added goes on behind the greatest number: the seed is picked so that Mix of it stands just below that one.
func TestP51WhatIsAddedGoesRound(t *testing.T) {
	for less := range uint64(300) {
		seed := Unmix(math.MaxUint64 - less)
		if v, want := Of(seed, []byte{255}), Mix(254-less); v != want {
			t.Fatalf("Of(%x, 255) = %x, want %x", seed, v, want)
		}
	}
}

// Undone byte by byte, from the last one on, the seed is left.
func TestP51OfCanBeUndone(t *testing.T) {
	for _, seed := range seeds() {
		for _, b := range texts() {
			h := Of(seed, b)
			for i := len(b) - 1; i >= 0; i-- {
				h = Unmix(h) - uint64(b[i]) - 256*uint64(i)
			}
			if Unmix(h) != seed {
				t.Fatalf("of %x and %v there is left %x", seed, b, Unmix(h))
			}
		}
	}
}

// But for a seed of 0: Mix of 0 is 0, so that a 0 at the front leaves it there.
func TestP51SeedsAndTextsAreToldApart(t *testing.T) {
	from := map[uint64]string{}
	for _, seed := range seeds()[1:] {
		for _, s := range []string{"", "a", "b", "ab", "ba", "a\x00", "\x00a", "\x00", "\x00\x00", "a\x00\x00", "aa"} {
			v := Of(seed, []byte(s))
			if other, is := from[v]; is {
				t.Errorf("%x and %q: %x, as %q", seed, s, v, other)
			}
			from[v] = s
		}
	}
}

func TestP2OfHangsOnWhatIsHandedInAlone(t *testing.T) {
	for _, b := range texts() {
		room := slices.Concat(b, []byte{7, 7, 7, 7})
		before := slices.Clone(room)
		v := Of(5, room[:len(b)])
		if !bytes.Equal(room, before) {
			t.Fatalf("%v was changed to %v", before, room)
		}
		Of(6, []byte("another"))
		if Of(5, b) != v || Of(5, slices.Clip(slices.Clone(b))) != v {
			t.Fatalf("Of(5, %v) is told in two ways", b)
		}
	}
}
