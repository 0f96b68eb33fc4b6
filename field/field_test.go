package field

import (
	"math"
	"testing"
)

// words are plain ones, the edges, and such whose bits have no pattern that shifts onto itself.
var words = []uint64{0, 1, 2, 5, 0xABCD, 0xFFFF, 1 << 31, 1 << 32, 1 << 62, 1 << 63, 1<<63 | 1,
	0x5555555555555555, 0xAAAAAAAAAAAAAAAA, 0x0123456789ABCDEF, 0xFEDCBA9876543210,
	0x9E3779B97F4A7C15, ^uint64(0) >> 1, ^uint64(0) - 1, ^uint64(0)}

// none are pairs of lo and n that are no field.
var none = [][2]int{
	{-1, 1}, {-1, 3}, {-1, 64}, {-1, 65}, {-1, 2}, {-64, 64}, {-64, 128}, {math.MinInt, 1}, {math.MinInt, 64},
	{0, 0}, {3, 0}, {63, 0}, {64, 0}, {0, -1}, {5, -5}, {64, -1}, {65, -1}, {100, -99}, {0, math.MinInt},
	{0, 65}, {1, 64}, {60, 5}, {63, 2}, {64, 1}, {32, 33}, {65, 1}, {0, 128}, {128, 1}, {1000, 1000},
	{1, math.MaxInt}, {math.MaxInt, 1}, {64, math.MaxInt}, {math.MaxInt, 64},
	{math.MaxInt, math.MaxInt}, {math.MinInt, math.MinInt}, {math.MinInt, math.MaxInt}, {math.MaxInt, math.MinInt},
	{-1, -1}, {-1, 0}, {math.MaxInt, 0}, {math.MaxInt/2 + 1, math.MaxInt/2 + 1},
	{math.MinInt, -1}, {-1, math.MinInt}, {math.MaxInt, -1}, {-1, math.MaxInt},
}

// noBits are numbers that are no bit of a word.
var noBits = []int{-1, -2, -63, -64, -65, 64, 65, 127, 128, 1 << 20, math.MaxInt, math.MinInt, math.MinInt + 1, math.MaxInt - 1}

// power is two to the i, made by doubling alone: what is tested shifts.
func power(i int) uint64 {
	p := uint64(1)
	for range i {
		p += p
	}
	return p
}

// bitOf is the bit i of x, as a number, by division alone.
func bitOf(x uint64, i int) uint64 { return x / power(i) % 2 }

// eachField calls f for each field that there is.
func eachField(f func(lo, n int)) {
	for lo := range 64 {
		for n := 1; n <= 64-lo; n++ {
			f(lo, n)
		}
	}
}

// masked, got and laid are what Mask, Get and Set of a field are, bit by bit.
func masked(lo, n int) uint64 {
	sum := uint64(0)
	for i := range n {
		sum += power(lo + i)
	}
	return sum
}

func got(x uint64, lo, n int) uint64 {
	sum := uint64(0)
	for i := range n {
		sum += bitOf(x, lo+i) * power(i)
	}
	return sum
}

func laid(x uint64, lo, n int, v uint64) uint64 {
	sum := uint64(0)
	for i := range 64 {
		if i < lo || i >= lo+n {
			sum += bitOf(x, i) * power(i)
		} else {
			sum += bitOf(v, i-lo) * power(i)
		}
	}
	return sum
}

// P1.1: the document's examples.
func TestExamples(t *testing.T) {
	if x := Get(0xABCD, 4, 8); x != 0xBC {
		t.Errorf("Get(0xABCD, 4, 8) = %#x", x)
	}
	if x := Set(0, 4, 4, 0x1F); x != 0xF0 {
		t.Errorf("Set(0, 4, 4, 0x1F) = %#x", x)
	}
}

// P1.1: the edges, as figures.
func TestMaskEdges(t *testing.T) {
	for _, c := range []struct {
		lo, n int
		want  uint64
	}{
		{0, 1, 1}, {0, 12, 0xFFF}, {4, 8, 0xFF0}, {12, 40, 0x000FFFFFFFFFF000},
		{0, 63, 0x7FFFFFFFFFFFFFFF}, {0, 64, 0xFFFFFFFFFFFFFFFF}, {1, 63, 0xFFFFFFFFFFFFFFFE},
		{63, 1, 0x8000000000000000}, {62, 2, 0xC000000000000000}, {32, 32, 0xFFFFFFFF00000000},
		{0, 65, 0}, {1, 64, 0}, {63, 2, 0}, {64, 1, 0}, {64, 0, 0}, {0, 0, 0}, {-1, 1, 0}, {-1, 65, 0},
	} {
		if x := Mask(c.lo, c.n); x != c.want {
			t.Errorf("Mask(%d, %d) = %#x, not %#x", c.lo, c.n, x, c.want)
		}
	}
}

// P1.1: Mask and Get of every field.
func TestMaskAndGet(t *testing.T) {
	eachField(func(lo, n int) {
		if x, want := Mask(lo, n), masked(lo, n); x != want {
			t.Errorf("Mask(%d, %d) = %#x, not %#x", lo, n, x, want)
		}
		for _, x := range words {
			if v, want := Get(x, lo, n), got(x, lo, n); v != want {
				t.Errorf("Get(%#x, %d, %d) = %#x, not %#x", x, lo, n, v, want)
			}
		}
	})
}

// P1.1: Set of every field; what is above the lowest n bits of v plays no part.
func TestSet(t *testing.T) {
	eachField(func(lo, n int) {
		for i, x := range words {
			for _, v := range []uint64{0, ^uint64(0), words[(i+5)%len(words)]} {
				if y, want := Set(x, lo, n, v), laid(x, lo, n, v); y != want {
					t.Errorf("Set(%#x, %d, %d, %#x) = %#x, not %#x", x, lo, n, v, y, want)
				}
			}
		}
	})
}

func checkNone(t *testing.T, lo, n int) {
	t.Helper()
	if y := Mask(lo, n); y != 0 {
		t.Errorf("Mask(%d, %d) = %#x of no field", lo, n, y)
	}
	for _, x := range words {
		if y := Get(x, lo, n); y != 0 {
			t.Errorf("Get(%#x, %d, %d) = %#x of no field", x, lo, n, y)
		}
		for _, v := range []uint64{0, 1, ^x} {
			if y := Set(x, lo, n, v); y != x {
				t.Errorf("Set(%#x, %d, %d, %#x) = %#x of no field", x, lo, n, v, y)
			}
		}
	}
}

// P1.1: where there is no field: small numbers, and such whose sum wraps round.
func TestNoField(t *testing.T) {
	for _, c := range none {
		checkNone(t, c[0], c[1])
	}
	for lo := -70; lo <= 140; lo++ {
		for n := -70; n <= 140; n++ {
			if lo < 0 || n < 1 || lo+n > 64 {
				checkNone(t, lo, n)
			}
		}
	}
}

// P1.2: each bit, 0 and 63 among them.
func TestBit(t *testing.T) {
	for _, x := range words {
		for i := range 64 {
			if is, want := Bit(x, i), bitOf(x, i) == 1; is != want {
				t.Errorf("Bit(%#x, %d) = %v", x, i, is)
			}
			if y, want := With(x, i, true), laid(x, i, 1, 1); y != want {
				t.Errorf("With(%#x, %d, true) = %#x, not %#x", x, i, y, want)
			}
			if y, want := With(x, i, false), laid(x, i, 1, 0); y != want {
				t.Errorf("With(%#x, %d, false) = %#x, not %#x", x, i, y, want)
			}
		}
	}
	if !Bit(1<<63, 63) || Bit(1<<63, 62) || !Bit(1, 0) || Bit(1, 1) {
		t.Error("the bits at the ends")
	}
	if With(1, 63, true) != 1<<63|1 || With(0, 0, true) != 1 || With(3, 0, false) != 2 || With(1<<63, 63, false) != 0 {
		t.Error("words with the bits at the ends")
	}
}

// P1.2: where there is no bit.
func TestNoBit(t *testing.T) {
	for _, x := range words {
		for _, i := range noBits {
			if Bit(x, i) {
				t.Errorf("Bit(%#x, %d) is none", x, i)
			}
			for _, is := range []bool{false, true} {
				if y := With(x, i, is); y != x {
					t.Errorf("With(%#x, %d, %v) = %#x", x, i, is, y)
				}
			}
		}
	}
}

// P1.3: what was set is got.
func TestSetIsGot(t *testing.T) {
	eachField(func(lo, n int) {
		for _, v := range words {
			lowest := v
			if n < 64 {
				lowest = v % power(n)
			}
			for _, x := range []uint64{0, ^v, 0x9E3779B97F4A7C15} {
				if y := Get(Set(x, lo, n, v), lo, n); y != lowest {
					t.Errorf("%#x set into %#x at %d, %d is got as %#x", v, x, lo, n, y)
				}
			}
			if y := Set(v, lo, n, Get(v, lo, n)); y != v {
				t.Errorf("%#x with its own field %d, %d is %#x", v, lo, n, y)
			}
		}
	})
	for i := range 64 {
		if Bit(With(^uint64(0), i, false), i) || !Bit(With(0, i, true), i) {
			t.Errorf("the bit %d is not what it was set to", i)
		}
	}
}

// P1.3: two fields apart don't know of each other: neither what the other one is, nor who came first.
func TestFieldsApart(t *testing.T) {
	const x, v, w = 0x9E3779B97F4A7C15, 0xFEDCBA9876543210, 0x0123456789ABCDEF
	eachField(func(lo, n int) {
		for from := lo + n; from < 64; from++ {
			for _, m := range []int{1, (64 - from + 1) / 2, 64 - from} {
				if Get(Set(x, lo, n, v), from, m) != Get(x, from, m) || Get(Set(x, from, m, w), lo, n) != Get(x, lo, n) {
					t.Fatalf("the fields %d, %d and %d, %d are not apart", lo, n, from, m)
				}
				if Set(Set(x, lo, n, v), from, m, w) != Set(Set(x, from, m, w), lo, n, v) {
					t.Fatalf("the fields %d, %d and %d, %d have an order", lo, n, from, m)
				}
				if Mask(lo, n)&Mask(from, m) != 0 {
					t.Fatalf("the fields %d, %d and %d, %d share a bit", lo, n, from, m)
				}
			}
		}
	})
}

// P1.3: a word is the sum of its fields, cut anywhere, and of its bits.
func TestSumOfFields(t *testing.T) {
	for _, x := range words {
		for cut := 1; cut < 64; cut++ {
			low, high := Get(x, 0, cut), Get(x, cut, 64-cut)
			if low+high*power(cut) != x || Set(Set(0, 0, cut, low), cut, 64-cut, high) != x {
				t.Errorf("%#x is not the sum of its fields at %d", x, cut)
			}
			if (x&Mask(0, cut))+(x&Mask(cut, 64-cut)) != x {
				t.Errorf("%#x is not the sum of its masked fields at %d", x, cut)
			}
		}
		if Get(x, 0, 64) != x || Set(^x, 0, 64, x) != x {
			t.Errorf("%#x is not its one field", x)
		}
		sum, with := uint64(0), ^x
		for i := range 64 {
			sum += Get(x, i, 1) * power(i)
			with = With(with, i, Bit(x, i))
		}
		if sum != x || with != x {
			t.Errorf("%#x is not the sum of its bits: %#x, %#x", x, sum, with)
		}
	}
}
