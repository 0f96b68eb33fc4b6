// Package field is layer 1: see shared/doc/01-field.md.
package field

// wordBits is how many bits a word has.
const wordBits = 64

// isField tells whether there is a field of n bits from the bit lo on.
func isField(lo, n int) bool {
	switch {
	case lo < 0:
		fallthrough
	case n < 1:
		fallthrough
	case lo > wordBits-n: // not lo+n > wordBits: the sum of great numbers wraps round
		return false
	}
	return true
}

// Mask has n bits, from lo on; Get is what they are in x; Set is x with v there.
func Mask(lo, n int) uint64 {
	if !isField(lo, n) {
		return 0
	}
	return ^uint64(0) >> (wordBits - n) << lo
}

func Get(x uint64, lo, n int) uint64 {
	if !isField(lo, n) {
		return 0
	}
	return (x & Mask(lo, n)) >> lo
}

func Set(x uint64, lo, n int, v uint64) uint64 {
	if !isField(lo, n) {
		return x
	}
	mask := Mask(lo, n)
	return x&^mask | (v<<lo)&mask
}

// Bit tells whether a bit of x is 1; With is x with it so.
func Bit(x uint64, i int) bool {
	return x&Mask(i, 1) != 0
}

func With(x uint64, i int, is bool) uint64 {
	if is {
		return x | Mask(i, 1)
	}
	return x &^ Mask(i, 1)
}
