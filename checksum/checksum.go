// Package checksum is layer 1: the checksum (CRC-32C) of words and bytes.
package checksum

import (
	"iter"

	"volumegroup/api"
)

const (
	polynomial = 0x82F63B78
	one        = 1 << 31 // the polynomial 1: the highest bit is the lowest power
	maxWords   = 65536
)

// Bytes returns the checksum of bytes.
func Bytes(b []byte) uint32 {
	t := table()
	r := ^uint32(0)
	for _, c := range b {
		r = r>>8 ^ t[byte(r)^c]
	}
	return ^r
}

// Words returns the checksum of words.
func Words(l []uint64) uint32 {
	return Extend(0, l)
}

// Extend returns the checksum of the words whose checksum is sum, followed by l.
func Extend(sum uint32, l []uint64) uint32 {
	t := table()
	r := ^sum
	for c := range bytesOf(l) {
		r = r>>8 ^ t[byte(r)^c]
	}
	return ^r
}

// Combine returns the checksum of words with the checksum a, followed by n words with the checksum b.
func Combine(a, b uint32, n int) (uint32, api.Errno) {
	if n < 0 || n > maxWords {
		return 0, api.ErrRange
	}
	return multiply(a, power(64*n)) ^ b, api.OK
}

// Short folds a checksum into 16 bits.
func Short(sum uint32) uint16 {
	return uint16(sum>>16) ^ uint16(sum)
}

// table returns what 8 shifts make of each byte: the entries of powers of two, and sums of these.
func table() [256]uint32 {
	var t [256]uint32
	r := uint32(1)
	for i := 128; i > 0; i >>= 1 {
		r = shift(r)
		for j := 0; j < 256; j += 2 * i {
			t[i+j] = r ^ t[j]
		}
	}
	return t
}

func shift(r uint32) uint32 {
	if r&1 == 1 {
		return r>>1 ^ polynomial
	}
	return r >> 1
}

// bytesOf visits the bytes of words, the least significant one of each word first.
func bytesOf(l []uint64) iter.Seq[byte] {
	return func(yield func(byte) bool) {
		for _, w := range l {
			for range 8 {
				if !yield(byte(w)) {
					return
				}
				w >>= 8
			}
		}
	}
}

// multiply returns the product of two polynomials modulo the checksum's one.
func multiply(a, b uint32) uint32 {
	var p uint32
	for m := uint32(one); m != 0; m >>= 1 {
		if a&m != 0 {
			p ^= b
		}
		b = shift(b)
	}
	return p
}

// power returns the polynomial x to the power n: a register is multiplied by x for each bit of zeros.
func power(n int) uint32 {
	p, x := uint32(one), uint32(one>>1)
	for ; n > 0; n >>= 1 {
		if n&1 == 1 {
			p = multiply(p, x)
		}
		x = multiply(x, x)
	}
	return p
}
