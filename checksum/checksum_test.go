package checksum

import (
	"math/rand"
	"testing"

	"volumegroup/api"
)

// slow follows the chapter's words bit by bit.
func slow(b []byte) uint32 {
	r := ^uint32(0)
	for _, c := range b {
		r ^= uint32(c)
		for range 8 {
			out := r & 1
			r >>= 1
			if out == 1 {
				r ^= 0x82F63B78
			}
		}
	}
	return ^r
}

func words(r *rand.Rand, n int) []uint64 {
	var l []uint64
	for range n {
		l = append(l, r.Uint64())
	}
	return l
}

func asBytes(l []uint64) []byte {
	var b []byte
	for _, w := range l {
		for i := range 8 {
			b = append(b, byte(w>>(8*i)))
		}
	}
	return b
}

// P1.1
func TestBytesAndWords(t *testing.T) {
	if Bytes([]byte("123456789")) != 0xE3069283 || Bytes(nil) != 0 || Words(nil) != 0 || Words([]uint64{}) != 0 {
		t.Error("the examples of the chapter")
	}
	r := rand.New(rand.NewSource(1))
	for n := range 40 {
		l := words(r, n)
		if Words(l) != slow(asBytes(l)) || Bytes(asBytes(l)) != slow(asBytes(l)) {
			t.Errorf("%d words", n)
		}
	}
	for c := range 256 {
		if b := []byte{byte(c)}; Bytes(b) != slow(b) {
			t.Errorf("byte %d", c)
		}
	}
}

// P1.2
func TestExtend(t *testing.T) {
	r := rand.New(rand.NewSource(2))
	for n := range 20 {
		a, b := words(r, n), words(r, 19-n)
		if Extend(Words(a), b) != Words(append(append([]uint64(nil), a...), b...)) {
			t.Errorf("%d words and %d", n, 19-n)
		}
	}
	if Extend(99, nil) != 99 {
		t.Error("no words change the sum")
	}
}

// zeros is the register x behind n zero words.
func zeros(x uint32, n int) uint32 {
	for range 64 * n {
		out := x & 1
		x >>= 1
		if out == 1 {
			x ^= 0x82F63B78
		}
	}
	return x
}

// P1.3
func TestCombine(t *testing.T) {
	r := rand.New(rand.NewSource(3))
	for n := range 20 {
		a, b := words(r, 7), words(r, n)
		if s, e := Combine(Words(a), Words(b), n); e != api.OK || s != Words(append(append([]uint64(nil), a...), b...)) {
			t.Errorf("%d words", n)
		}
		x, y := r.Uint32(), r.Uint32()
		if s, e := Combine(x, y, n); e != api.OK || s != zeros(x, n)^y {
			t.Errorf("numbers and %d words", n)
		}
	}
	if s, e := Combine(77, 5, 65536); e != api.OK || s != zeros(77, 65536)^5 {
		t.Error("65536 words")
	}
	for _, n := range []int{-1, 65537, 1 << 62, -1 << 63} {
		if s, e := Combine(1, 2, n); s != 0 || e != api.ErrRange {
			t.Errorf("%d words: %d, %d", n, s, e)
		}
	}
}

// P1.4
func TestShort(t *testing.T) {
	if Short(0x00010003) != 2 || Short(0xFFFF0000) != 0xFFFF || Short(0x12345678) != 0x1234^0x5678 {
		t.Error("Short")
	}
}

// P1.5
func TestBursts(t *testing.T) {
	r := rand.New(rand.NewSource(4))
	for range 2000 {
		l := words(r, 4)
		m := append([]uint64(nil), l...)
		at, pattern := r.Intn(225), uint64(r.Uint32()|1)
		m[at/64] ^= pattern << (at % 64)
		if at%64 > 32 && at/64 < 3 {
			m[at/64+1] ^= pattern >> (64 - at%64)
		}
		if Words(l) == Words(m) {
			t.Fatalf("a change of %#x at bit %d is not noticed", pattern, at)
		}
	}
}
