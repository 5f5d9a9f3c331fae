// Package bits: numbers as bytes and bits: see ../shared/doc/01-bits.md.
package bits

import "gaugehouse/api"

const (
	groupBits = 7   // how many bits of a number a byte carries
	moreFlag  = 128 // stands in each byte but the last one
	lastByte  = 9   // behind nine bytes a number has but one bit left
	wordBits  = 64
	topBit    = 128
)

// Zig: a number from 0 on.
func Zig(n int64) uint64 {
	// the sign, spread over all bits, turns n below 0 into -n - 1
	return uint64(n)<<1 ^ uint64(n>>63)
}

// Zag: back.
func Zag(u uint64) int64 {
	return int64(u>>1) ^ -int64(u&1)
}

// Put a number into bytes.
func Put(u uint64) []byte {
	var b []byte
	for u >= moreFlag {
		b = append(b, byte(u%moreFlag)+moreFlag)
		u >>= groupBits
	}
	return append(b, byte(u))
}

// Take a number off bytes.
func Take(b []byte) (uint64, int, api.Errno) {
	var u uint64
	for i := 0; i < len(b); i++ {
		c := b[i]
		if i == lastByte && c > 1 || i > 0 && c == 0 {
			return 0, 0, api.ErrForm
		}
		u |= uint64(c%moreFlag) << (groupBits * i)
		if c < moreFlag {
			return u, i + 1, api.OK
		}
	}
	return 0, 0, api.ErrShort
}

// Push more bits.
func Push(x api.Bits, v uint64, n int) (api.Bits, api.Errno) {
	if e := Check(x); e != api.OK {
		return api.Bits{}, e
	}
	if !isWidth(n) || !fits(v, n) {
		return api.Bits{}, api.ErrArg
	}
	if x.N > api.MaxBits-n {
		return api.Bits{}, api.ErrLarge
	}
	y := api.Bits{B: make([]byte, bytesFor(x.N+n)), N: x.N + n}
	copy(y.B, x.B)
	for i := 0; i < n; i++ {
		if v>>(n-1-i)&1 == 1 {
			at := x.N + i
			y.B[at/8] |= topBit >> (at % 8)
		}
	}
	return y, api.OK
}

// Pull some bits.
func Pull(x api.Bits, at, n int) (uint64, api.Errno) {
	if e := Check(x); e != api.OK {
		return 0, e
	}
	if !isWidth(n) || at < 0 {
		return 0, api.ErrArg
	}
	// at + n could be more than an int holds, x.N - n can not be
	if at > x.N-n {
		return 0, api.ErrShort
	}
	var v uint64
	for i := at; i < at+n; i++ {
		v = v<<1 | uint64(x.B[i/8]>>(7-i%8)&1)
	}
	return v, api.OK
}

// Check bits.
func Check(x api.Bits) api.Errno {
	if x.N < 0 || len(x.B) != bytesFor(x.N) {
		return api.ErrForm
	}
	used := x.N % 8
	if used > 0 && x.B[len(x.B)-1]<<used != 0 {
		return api.ErrForm
	}
	return api.OK
}

func isWidth(n int) bool { return n >= 0 && n <= wordBits }

func fits(v uint64, n int) bool { return n >= wordBits || v>>n == 0 }

// bytesFor does without n + 7, which the greatest n would not stand.
func bytesFor(n int) int {
	if n%8 == 0 {
		return n / 8
	}
	return n/8 + 1
}
