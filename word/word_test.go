package word

import (
	"bytes"
	"math"
	"testing"

	"dormer/api"
)

// words are plain ones, the edges, and such whose bytes are all apart.
var words = []uint64{0, 1, 2, 0x7F, 0x80, 0xFF, 0x100, 0x0102, 0xABCD, 1 << 31, 1 << 32, 1 << 55, 1 << 56, 1 << 63, 1<<63 | 1,
	0x0807060504030201, 0x0123456789ABCDEF, 0xFEDCBA9876543210, 0x9E3779B97F4A7C15,
	0x00FF00FF00FF00FF, 0xFF00FF00FF00FF00, ^uint64(0) >> 1, ^uint64(0) - 1, ^uint64(0)}

// noBytes are numbers that are no byte of a word; eight times some of them is one of its bits, wrapped round.
var noBytes = []int{-1, -2, -7, -8, -9, -64, 8, 9, 15, 16, 63, 64, 255, 256, 1 << 20, 1 << 32, 1 << 60,
	1 << 61, 1<<61 + 1, 1<<61 + 7, 1 << 62, 1<<62 + 3, -1 << 61, -1<<61 + 1, -1<<62 + 7,
	math.MaxInt, math.MaxInt - 1, math.MinInt, math.MinInt + 1, math.MinInt + 7}

// noSpans are pairs of from and n that are no bytes of a word: small ones, such whose sum wraps round,
// and such that are bytes again when they are counted in bits and wrapped round.
var noSpans = [][2]int{
	{-1, 1}, {-1, 2}, {-1, 8}, {-1, 9}, {-8, 8}, {-8, 16}, {-1, 0}, {-1, -1}, {math.MinInt, 1}, {math.MinInt, 8},
	{0, 0}, {3, 0}, {7, 0}, {8, 0}, {9, 0}, {0, -1}, {5, -5}, {8, -1}, {9, -1}, {100, -99}, {0, math.MinInt}, {8, math.MinInt},
	{0, 9}, {1, 8}, {2, 7}, {3, 6}, {4, 5}, {5, 4}, {6, 3}, {7, 2}, {8, 1}, {9, 1}, {0, 64}, {64, 1}, {1000, 1000},
	{1, math.MaxInt}, {8, math.MaxInt}, {math.MaxInt, 1}, {math.MaxInt, 8}, {math.MaxInt, math.MaxInt},
	{math.MaxInt/2 + 1, math.MaxInt/2 + 1}, {math.MaxInt, 0}, {math.MaxInt, -1}, {-1, math.MaxInt},
	{math.MinInt, math.MinInt}, {math.MinInt, math.MaxInt}, {math.MaxInt, math.MinInt}, {math.MinInt, -1}, {-1, math.MinInt},
	{1 << 61, 1}, {1<<61 + 2, 3}, {1 << 62, 8}, {0, 1<<61 + 1}, {2, 1<<61 + 3}, {0, 1<<62 + 8}, {1<<61 + 1, 1<<61 + 1}, {1 << 62, 1<<62 + 8}, {1<<62 + 2, 1<<62 + 3},
	{-1 << 61, 1}, {-1<<61 + 2, 3}, {0, -1<<61 + 1}, {math.MinInt + 1, 1},
}

// power is 256 to the i, made by multiplying alone: what is tested shifts.
func power(i int) uint64 {
	p := uint64(1)
	for range i {
		p *= 256
	}
	return p
}

// byteOf is the i-th byte of x, as a number, by division alone.
func byteOf(x uint64, i int) uint64 { return x / power(i) % 256 }

// eachSpan calls f for all bytes that a word has side by side.
func eachSpan(f func(from, n int)) {
	for from := range 8 {
		for n := 1; from+n <= 8; n++ {
			f(from, n)
		}
	}
}

// cut and laid are what Cut and Lay of a word's bytes are, byte by byte.
func cut(x uint64, from, n int) uint64 {
	sum := uint64(0)
	for i := range n {
		sum += byteOf(x, from+i) * power(i)
	}
	return sum
}

func laid(x uint64, from, n int, v uint64) uint64 {
	sum := uint64(0)
	for i := range 8 {
		if i < from || i >= from+n {
			sum += byteOf(x, i) * power(i)
		} else {
			sum += byteOf(v, i-from) * power(i)
		}
	}
	return sum
}

// P2.1: the document's example.
func TestExample(t *testing.T) {
	if b := Bytes(0x0102); !bytes.Equal(b, []byte{2, 1, 0, 0, 0, 0, 0, 0}) {
		t.Errorf("Bytes(0x0102) = %v", b)
	}
}

// P2.1: the edges, as figures.
func TestBytesFigures(t *testing.T) {
	for _, c := range []struct {
		x    uint64
		want []byte
	}{
		{0, []byte{0, 0, 0, 0, 0, 0, 0, 0}},
		{1, []byte{1, 0, 0, 0, 0, 0, 0, 0}},
		{0x0807060504030201, []byte{1, 2, 3, 4, 5, 6, 7, 8}},
		{0xFF, []byte{255, 0, 0, 0, 0, 0, 0, 0}},
		{0xFF << 56, []byte{0, 0, 0, 0, 0, 0, 0, 255}},
		{1 << 63, []byte{0, 0, 0, 0, 0, 0, 0, 128}},
		{^uint64(0), []byte{255, 255, 255, 255, 255, 255, 255, 255}},
	} {
		if b := Bytes(c.x); !bytes.Equal(b, c.want) {
			t.Errorf("Bytes(%#x) = %v, not %v", c.x, b, c.want)
		}
		if x, e := From(c.want); x != c.x || e != api.OK {
			t.Errorf("From(%v) = %#x, %v, not %#x", c.want, x, e, c.x)
		}
	}
}

// P2.1: the bytes of words, the lowest first.
func TestBytes(t *testing.T) {
	for _, x := range words {
		b := Bytes(x)
		if len(b) != 8 {
			t.Fatalf("Bytes(%#x) are %d", x, len(b))
		}
		for i := range 8 {
			if uint64(b[i]) != byteOf(x, i) {
				t.Errorf("Bytes(%#x) has %#x as the byte %d", x, b[i], i)
			}
		}
	}
}

// P2.1, R1: bytes that aren't eight are no word; none, seven, and nine among them.
func TestFromNotEight(t *testing.T) {
	for _, b := range [][]byte{nil, {}, {1}, {1, 2, 3, 4, 5, 6, 7}, {1, 2, 3, 4, 5, 6, 7, 8, 9}} {
		if x, e := From(b); x != 0 || e != api.ErrArg {
			t.Errorf("From(%v) = %#x, %v", b, x, e)
		}
	}
	for n := range 70 {
		b := bytes.Repeat([]byte{0xA5}, n)
		want, wantErr := uint64(0), api.ErrArg
		if n == 8 {
			want, wantErr = 0xA5A5A5A5A5A5A5A5, api.OK
		}
		if x, e := From(b); x != want || e != wantErr {
			t.Errorf("From of %d bytes = %#x, %v", n, x, e)
		}
	}
}

// P2.1: how many bytes there are is told by the length, not by what lies behind it.
func TestFromLength(t *testing.T) {
	room := []byte{1, 2, 3, 4, 5, 6, 7, 8, 9, 10}
	if x, e := From(room[:7]); x != 0 || e != api.ErrArg {
		t.Errorf("seven of ten: %#x, %v", x, e)
	}
	if x, e := From(room[1:9]); x != 0x0908070605040302 || e != api.OK {
		t.Errorf("eight of ten: %#x, %v", x, e)
	}
}

// P2.1: each byte, 0 and 7 among them, told and put.
func TestByteAndPut(t *testing.T) {
	for _, x := range words {
		for i := range 8 {
			if b := Byte(x, i); uint64(b) != byteOf(x, i) {
				t.Errorf("Byte(%#x, %d) = %#x", x, i, b)
			}
			for _, b := range []byte{0, 1, 0x5A, 0x7F, 0x80, 0xFF} {
				if y, want := Put(x, i, b), laid(x, i, 1, uint64(b)); y != want {
					t.Errorf("Put(%#x, %d, %#x) = %#x, not %#x", x, i, b, y, want)
				}
			}
		}
	}
	const x = 0x0807060504030201
	if Byte(x, 0) != 1 || Byte(x, 7) != 8 || Put(x, 0, 0xAA) != 0x08070605040302AA || Put(x, 7, 0xAA) != 0xAA07060504030201 {
		t.Error("the bytes at the ends")
	}
}

func checkNoByte(t *testing.T, i int) {
	t.Helper()
	for _, x := range words {
		if b := Byte(x, i); b != 0 {
			t.Errorf("Byte(%#x, %d) = %#x of no byte", x, i, b)
		}
		for _, b := range []byte{0, 1, 0xFF, ^byte(x)} {
			if y := Put(x, i, b); y != x {
				t.Errorf("Put(%#x, %d, %#x) = %#x of no byte", x, i, b, y)
			}
		}
	}
}

// P2.1: where there is no byte, below 0 and above 7, also by much.
func TestNoByte(t *testing.T) {
	for _, i := range noBytes {
		checkNoByte(t, i)
	}
	for i := -80; i <= 80; i++ {
		if i < 0 || i > 7 {
			checkNoByte(t, i)
		}
	}
}

// P2.2: the edges, as figures.
func TestCutAndLayFigures(t *testing.T) {
	const x, v = 0x0807060504030201, 0xF0E0D0C0B0A09080
	for _, c := range []struct {
		from, n   int
		cut, laid uint64
	}{
		{0, 1, 0x01, 0x0807060504030280}, {7, 1, 0x08, 0x8007060504030201},
		{2, 3, 0x050403, 0x080706A090800201}, {6, 2, 0x0807, 0x9080060504030201},
		{0, 7, 0x07060504030201, 0x08E0D0C0B0A09080}, {1, 7, 0x08070605040302, 0xE0D0C0B0A0908001},
		{0, 8, x, v}, {0, 9, 0, x}, {1, 8, 0, x}, {6, 3, 0, x}, {7, 2, 0, x}, {8, 1, 0, x},
		{8, 0, 0, x}, {0, 0, 0, x}, {-1, 1, 0, x}, {-1, 9, 0, x}, {9, -1, 0, x},
	} {
		if y := Cut(x, c.from, c.n); y != c.cut {
			t.Errorf("Cut(%#x, %d, %d) = %#x, not %#x", uint64(x), c.from, c.n, y, c.cut)
		}
		if y := Lay(x, c.from, c.n, v); y != c.laid {
			t.Errorf("Lay(%#x, %d, %d, %#x) = %#x, not %#x", uint64(x), c.from, c.n, uint64(v), y, c.laid)
		}
	}
}

// P2.2: all bytes side by side, from and n together up to 8; what is above v's n lowest plays no part.
func TestCutAndLay(t *testing.T) {
	eachSpan(func(from, n int) {
		for _, x := range words {
			if y, want := Cut(x, from, n), cut(x, from, n); y != want {
				t.Errorf("Cut(%#x, %d, %d) = %#x, not %#x", x, from, n, y, want)
			}
			for _, v := range words {
				if y, want := Lay(x, from, n, v), laid(x, from, n, v); y != want {
					t.Errorf("Lay(%#x, %d, %d, %#x) = %#x, not %#x", x, from, n, v, y, want)
				}
			}
		}
	})
}

func checkNoSpan(t *testing.T, from, n int) {
	t.Helper()
	for _, x := range words {
		if y := Cut(x, from, n); y != 0 {
			t.Errorf("Cut(%#x, %d, %d) = %#x of no bytes", x, from, n, y)
		}
		for _, v := range []uint64{0, 1, ^x} {
			if y := Lay(x, from, n, v); y != x {
				t.Errorf("Lay(%#x, %d, %d, %#x) = %#x of no bytes", x, from, n, v, y)
			}
		}
	}
}

// P2.2: where there are no such bytes.
func TestNoSpan(t *testing.T) {
	for _, c := range noSpans {
		checkNoSpan(t, c[0], c[1])
	}
	for from := -70; from <= 70; from++ {
		for n := -70; n <= 70; n++ {
			if from < 0 || n < 1 || from+n > 8 {
				checkNoSpan(t, from, n)
			}
		}
	}
}

// P2.3: words are told there and back, as bytes, byte by byte, and cut anywhere.
func TestThereAndBack(t *testing.T) {
	for _, x := range words {
		if y, e := From(Bytes(x)); y != x || e != api.OK {
			t.Errorf("%#x is told back as %#x, %v", x, y, e)
		}
		put := ^x
		for i := range 8 {
			put = Put(put, i, Byte(x, i))
		}
		if put != x {
			t.Errorf("%#x, put byte by byte, is %#x", x, put)
		}
		for at := 1; at < 8; at++ {
			if y := Lay(Lay(^x, 0, at, Cut(x, 0, at)), at, 8-at, Cut(x, at, 8-at)); y != x {
				t.Errorf("%#x, cut at %d, is laid as %#x", x, at, y)
			}
		}
	}
	for i := range 8 {
		for v := range 256 {
			b := []byte{9, 8, 7, 6, 5, 4, 3, 2}
			b[i] = byte(v)
			if x, e := From(b); e != api.OK || !bytes.Equal(Bytes(x), b) || Byte(x, i) != byte(v) {
				t.Errorf("%v is told back as %v, %v", b, Bytes(x), e)
			}
		}
	}
}

// P2.3: what was laid is cut, and bytes that aren't laid stay.
func TestWhatIsLaid(t *testing.T) {
	eachSpan(func(from, n int) {
		for _, x := range words {
			for _, v := range words {
				y := Lay(x, from, n, v)
				if Cut(y, from, n) != Cut(v, 0, n) {
					t.Errorf("%#x laid into %#x at %d, %d is cut as %#x", v, x, from, n, Cut(y, from, n))
				}
				for i := range 8 {
					if (i < from || i >= from+n) && Byte(y, i) != Byte(x, i) {
						t.Errorf("Lay(%#x, %d, %d, %#x) changes the byte %d", x, from, n, v, i)
					}
				}
			}
			if y := Lay(x, from, n, Cut(x, from, n)); y != x {
				t.Errorf("%#x with its own bytes %d, %d is %#x", x, from, n, y)
			}
		}
	})
	for _, x := range words {
		for i := range 8 {
			for k := range 8 {
				if k != i && Byte(Put(x, i, ^Byte(x, i)), k) != Byte(x, k) {
					t.Errorf("Put into %#x at %d changes the byte %d", x, i, k)
				}
			}
		}
	}
}

// R3: what is told is the caller's own, and what is handed in stays and is not kept.
func TestNothingShared(t *testing.T) {
	const x = 0x0807060504030201
	first, second := Bytes(x), Bytes(x)
	clear(first)
	if !bytes.Equal(second, []byte{1, 2, 3, 4, 5, 6, 7, 8}) || !bytes.Equal(Bytes(x), second) {
		t.Error("two answers share their bytes")
	}
	b := []byte{1, 2, 3, 4, 5, 6, 7, 8, 9}
	y, _ := From(b[:8])
	From(b)
	if !bytes.Equal(b, []byte{1, 2, 3, 4, 5, 6, 7, 8, 9}) {
		t.Errorf("From changes its bytes: %v", b)
	}
	told := Bytes(y)
	clear(b)
	if !bytes.Equal(told, second) {
		t.Error("the word's bytes are those handed in")
	}
}
