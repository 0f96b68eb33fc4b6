package group

import (
	"math"
	"testing"

	"dormer/api"
	"dormer/cache"
	"dormer/right"
)

// The calls, as the document lists them, and the array that its ways ask for.
var (
	_ func(s Seen) cache.Line                  = Run
	_ func(l cache.Line, i int) (uint64, bool) = Has
	_ func(l cache.Line, i int) cache.Line     = Without
	_ func(slot uint64) [8]uint64              = Slots
	_ [8]uint64                                = Seen{}.Words
	_                                          = Seen{Words: [8]uint64{}, At: int(0), Right: right.Right{}, Bits: int(0), NXE: false}
)

const (
	all  = math.MaxUint64
	last = 0x000FFFFFFFFFF000 // the last frame that a word has room for
)

// noPlaces are numbers that are no place in a group, some of which would be one, if they were cut to fewer bits, or to what is left by 8.
var noPlaces = []int{-1, -2, -3, -4, -5, -6, -7, -8, -9, -63, -64, 8, 9, 10, 11, 12, 13, 14, 15, 16, 17, 31, 32, 33, 63, 64, 65, 66, 127, 128, 255, 256, 256 + 1, 256 + 7, 1 << 16, 1<<16 + 3,
	1<<31 - 1, 1 << 31, 1 << 32, 1<<32 + 1, 1<<32 + 7, -1 << 31, -1 << 32, -1<<32 + 1, -1<<32 + 7, 1 << 62, 1<<62 + 5, -1 << 62, math.MaxInt, math.MaxInt - 1, math.MaxInt - 7, math.MinInt, math.MinInt + 1, math.MinInt + 3, math.MinInt + 7, math.MinInt + 8}

// fewBits and manyBits are numbers of an address's bits that are taken as 12 and as 52.
var (
	fewBits  = []int{11, 10, 1, 0, -1, -12, -40, -52, -64, -1 << 32, -1<<32 + 20, -1 << 62, math.MinInt, math.MinInt + 12, math.MinInt + 52}
	manyBits = []int{53, 54, 63, 64, 65, 76, 128, 256 + 12, 1 << 31, 1 << 32, 1<<32 + 12, 1<<32 + 20, 1 << 62, math.MaxInt, math.MaxInt - 12}
)

// power is two to the i, and is whether the bit i of x is 1, by doubling and division alone.
func power(i int) uint64 {
	p := uint64(1)
	for range i {
		p += p
	}
	return p
}

func is(x uint64, i int) bool { return x/power(i)%2 == 1 }

// minus is what is as far below 0, modulo 2^64.
func minus(x uint64) uint64 { return 0 - x }

// table is x's bits 12 to 51, as what is left of others.
func table(x uint64) uint64 { return x % power(52) / 4096 * 4096 }

// behind is a frame, and 4096 for each of n places behind it, or less for each ahead of it, one by one.
func behind(x uint64, n int) uint64 {
	for ; n > 0; n-- {
		x += 4096
	}
	for ; n < 0; n++ {
		x -= 4096
	}
	return x
}

// reserved is the document's, of the level 1.
func reserved(x uint64, bits int, nxe bool) bool {
	for i := max(min(bits, 52), 12); i < 52; i++ {
		if is(x, i) {
			return true
		}
	}
	return is(x, 63) && !nxe
}

// goes is whether the i-th word goes together with that at At, as the document has it; At is a place.
func goes(s Seen, i int) bool {
	x, at := s.Words[i], s.Words[s.At]
	switch {
	case i == s.At:
		return true
	case !is(x, 0), !is(x, 5), reserved(x, s.Bits, s.NXE):
		return false
	case is(x, 1) != is(at, 1), is(x, 2) != is(at, 2), is(x, 63) != is(at, 63), is(x, 6) != is(at, 6):
		return false
	}
	return table(x) == behind(table(at), i-s.At)
}

// narrow is what a word leaves of rights.
func narrow(r right.Right, x uint64) right.Right {
	return right.Right{W: r.W && is(x, 1), U: r.U && is(x, 2), X: r.X && !is(x, 63)}
}

// run is a group's line as the document has it.
func run(s Seen) cache.Line {
	if s.At < 0 || s.At > 7 {
		return cache.Line{}
	}
	at := s.Words[s.At]
	if !is(at, 0) || reserved(at, s.Bits, s.NXE) {
		return cache.Line{}
	}
	l := cache.Line{Frame: behind(table(at), -s.At), Right: narrow(s.Right, at), Dirty: is(at, 6)}
	for i := range 8 {
		if goes(s, i) {
			l.Mask += uint8(power(i))
		}
	}
	return l
}

// rightOf is one of the eight rights, flagsOf one of the sixteen ways of W, U, NX and D in a word.
func rightOf(i int) right.Right {
	return right.Right{W: i/4%2 == 1, U: i/2%2 == 1, X: i%2 == 1}
}

func flagsOf(i int) uint64 {
	return uint64(i/8%2)*2 + uint64(i/4%2)*4 + uint64(i/2%2)*power(63) + uint64(i%2)*0x40
}

// row is eight words one behind the other, each with P and A and these flags, of frames from the first one on.
func row(first, flags uint64, at int) Seen {
	s := Seen{At: at, Right: right.All(), Bits: 52, NXE: true}
	for i := range s.Words {
		s.Words[i] = table(behind(first, i)) + 0x21 + flags
	}
	return s
}

// numbers is a row of numbers that look unlike, the same at each run.
type numbers uint64

func (n *numbers) next() uint64 {
	*n = *n*6364136223846793005 + 1442695040888963407
	return uint64(*n) ^ uint64(*n)>>29
}

func (n *numbers) below(i int) int { return int(n.next() >> 1 % uint64(i)) }

// check holds Run against the document's line.
func check(t *testing.T, what string, s Seen) {
	t.Helper()
	if l, want := Run(s), run(s); l != want {
		t.Fatalf("%s: Run(%+v) = %+v, not %+v", what, s, l, want)
	}
}

// masked holds Run against a mask that is known as a figure, and all else against the document.
func masked(t *testing.T, what string, s Seen, mask uint8) {
	t.Helper()
	if l := Run(s); l.Mask != mask {
		t.Fatalf("%s: Run(%+v) has the mask %08b, not %08b", what, s, l.Mask, mask)
	}
	check(t, what, s)
}

// none holds Run against the zero line.
func none(t *testing.T, what string, s Seen) {
	t.Helper()
	if l := Run(s); l != (cache.Line{}) {
		t.Fatalf("%s: Run(%+v) = %+v", what, s, l)
	}
	check(t, what, s)
}

// only is the mask of one page, but that of all others.
func only(i int) uint8 { return uint8(power(i)) }
func but(i int) uint8  { return uint8(255 - power(i)) }

// P12.1, P12.2: the document's example.
func TestExample(t *testing.T) {
	s := Seen{Words: [8]uint64{0x8021, 0x9021, 0xB021}, Right: right.All(), Bits: 20}
	l := Run(s)
	if l != (cache.Line{Frame: 0x8000, Right: right.Right{X: true}, Mask: 3}) {
		t.Fatalf("Run = %+v", l)
	}
	for i, want := range []uint64{0x8000, 0x9000, 0} {
		if f, is := Has(l, i); f != want || is != (i < 2) {
			t.Errorf("Has(%d) = %#x, %v", i, f, is)
		}
	}
	if l := Without(l, 0); l != (cache.Line{Frame: 0x8000, Right: right.Right{X: true}, Mask: 2}) {
		t.Errorf("Without 8: %+v", l)
	}
	if l := Slots(0x1048); l != [8]uint64{0x1040, 0x1048, 0x1050, 0x1058, 0x1060, 0x1068, 0x1070, 0x1078} {
		t.Errorf("Slots(0x1048) = %#x", l)
	}
}

// P12.1: all fields, as figures.
func TestRunFigures(t *testing.T) {
	nx := power(63)
	every := right.Right{W: true, U: true, X: true}
	for _, c := range []struct {
		s    Seen
		want cache.Line
	}{
		{Seen{}, cache.Line{}},
		{Seen{Words: [8]uint64{1}}, cache.Line{Mask: 1}},
		{Seen{Words: [8]uint64{1}, Right: every}, cache.Line{Right: right.Right{X: true}, Mask: 1}},
		{Seen{Words: [8]uint64{0x67}, Right: every}, cache.Line{Right: every, Dirty: true, Mask: 1}},
		{Seen{Words: [8]uint64{0x67, 0x1067, 0x2067}, Right: every, Bits: 14}, cache.Line{Right: every, Dirty: true, Mask: 7}},
		{Seen{Words: [8]uint64{0x67, 0x1027, 0x2067}, Right: every, Bits: 14}, cache.Line{Right: every, Dirty: true, Mask: 5}},
		{Seen{Words: [8]uint64{0x67, 0x1027, 0x2067}, At: 1, Right: every, Bits: 14}, cache.Line{Right: every, Mask: 2}},
		{Seen{Words: [8]uint64{0x5023, 0x6023, 0x7023, 0x8021, 0x9023, 0, 0xB023, 0xD023}, At: 2, Right: every, Bits: 16}, cache.Line{Frame: 0x5000, Right: right.Right{W: true, X: true}, Mask: 0x57}},
		{Seen{Words: [8]uint64{0x5023, 0x6023, 0x7023, 0x8021, 0x9023, 0, 0xB023, 0xD023}, At: 3, Right: every, Bits: 16}, cache.Line{Frame: 0x5000, Right: right.Right{X: true}, Mask: 8}},
		{Seen{Words: [8]uint64{0x5023, 0x6023, 0x7023, 0x8021, 0x9023, 0, 0xB023, 0xD023}, At: 5, Right: every, Bits: 16}, cache.Line{}},
		{Seen{Words: [8]uint64{0x5023, 0x6023, 0x7023, 0x8021, 0x9023, 0, 0xB023, 0xD023}, At: 7, Right: every, Bits: 16}, cache.Line{Frame: 0x6000, Right: right.Right{W: true, X: true}, Mask: 0x80}},
		{Seen{Words: [8]uint64{7: 0x1067}, At: 7, Right: every, Bits: 16}, cache.Line{Frame: 0xFFFFFFFFFFFFA000, Right: every, Dirty: true, Mask: 0x80}},
		{Seen{Words: [8]uint64{6: 0x25, 7: 0x1025}, At: 6, Right: every, Bits: 16}, cache.Line{Frame: 0xFFFFFFFFFFFFA000, Right: right.Right{U: true, X: true}, Mask: 0xC0}},
		{Seen{Words: [8]uint64{nx + 0x5027, nx + 0x6027, 0x7027}, Right: every, Bits: 16, NXE: true}, cache.Line{Frame: 0x5000, Right: right.Right{W: true, U: true}, Mask: 3}},
		{Seen{Words: [8]uint64{nx + 0x5027, nx + 0x6027, 0x7027}, Right: every, Bits: 16}, cache.Line{}},
		{Seen{Words: [8]uint64{nx + 0x5027, nx + 0x6027, 0x7027}, At: 2, Right: every, Bits: 16}, cache.Line{Frame: 0x5000, Right: every, Mask: 4}},
	} {
		if l := Run(c.s); l != c.want {
			t.Errorf("Run(%+v) = %+v, not %+v", c.s, l, c.want)
		}
		check(t, "figures", c.s)
	}
}

// P12.1: all eight together, asked for each one, by frames at many places.
func TestAllEight(t *testing.T) {
	for _, first := range []uint64{0, 0x1000, 0x8000, 0x9000, 0x1F000, power(32) - 0x4000, power(51) - 0x3000, last - 0x7000} {
		for i := range 16 {
			for at := range 8 {
				s := row(first, flagsOf(i), at)
				masked(t, "all eight", s, 255)
				if l := Run(s); l.Frame != first {
					t.Fatalf("the frame %#x, not %#x", l.Frame, first)
				}
			}
		}
	}
}

// P12.1: one alone, at each place; the first frame goes round below 0.
func TestOneAlone(t *testing.T) {
	for at := range 8 {
		for _, f := range []uint64{0, 0x1000, 0x3000, 0x7000, 0x8000, power(51), last} {
			s := Seen{At: at, Right: right.All(), Bits: 52}
			s.Words[at] = f + 0x21
			masked(t, "one", s, only(at))
			if l := Run(s); l.Frame != f-4096*uint64(at) {
				t.Fatalf("at %d of %#x: the frame %#x", at, f, l.Frame)
			}
		}
	}
}

// P12.1: what is no place has no run, however well the words go together.
func TestNoPlace(t *testing.T) {
	for _, at := range noPlaces {
		for i := range 16 {
			none(t, "no place", row(0x8000, flagsOf(i), at))
		}
		none(t, "no place", Seen{At: at})
	}
}

// P12.1: a word at At without P has no run, whatever else it has; neither has one of zeros.
func TestAbsent(t *testing.T) {
	for at := range 8 {
		for i := range 16 {
			s := row(0x8000, flagsOf(i), at)
			s.Words[at]--
			none(t, "without P", s)
			s.Words[at] = 0
			none(t, "of zeros", s)
			s.Words[at] = all - 1
			none(t, "all but P", s)
		}
		none(t, "a group of zeros", Seen{At: at, Right: right.All(), Bits: 52, NXE: true})
	}
}

// P12.1: a word at At with a bit that is reserved has no run; with the bit below that it has.
func TestReservedAt(t *testing.T) {
	for at := range 8 {
		for bits := 12; bits <= 52; bits++ {
			for i := 12; i <= 52; i++ {
				s := row(0, 0, at)
				s.Bits = bits
				s.Words[at] = power(i) + 0x21
				if i >= bits && i < 52 {
					none(t, "reserved", s)
				} else {
					masked(t, "not reserved", s, Run(s).Mask|only(at))
				}
			}
		}
	}
}

// P12.1: NX at At without NXE has no run; beside others, those that have it don't go along.
func TestNxe(t *testing.T) {
	nx := power(63)
	for at := range 8 {
		s := row(0x8000, nx, at)
		masked(t, "NX with NXE", s, 255)
		s.NXE = false
		none(t, "NX without NXE", s)
		s.Words[at] -= nx
		masked(t, "NX beside", s, only(at))
		s.NXE = true
		masked(t, "NX beside, with NXE", s, only(at))
		s = row(0x8000, 0, at)
		s.NXE = false
		masked(t, "no NX at all", s, 255)
		s.Words[(at+3)%8] += nx
		masked(t, "one with NX", s, but((at+3)%8))
	}
}

// P12.1: the frames that a memory has end at its bits, with the run's pages in the midst; fewer bits are taken as 12, more as 52.
func TestBits(t *testing.T) {
	for at := range 8 {
		for bits := 13; bits < 52; bits++ {
			for in := 1; in <= 8 && uint64(in) <= power(bits-12); in++ { // so many of the eight are within
				s := row(power(bits)-4096*uint64(in), 0, at)
				s.Bits = bits
				if at >= in {
					none(t, "beyond", s)
				} else {
					masked(t, "at the end", s, uint8(power(in)-1))
				}
			}
		}
		for _, bits := range append([]int{12}, fewBits...) {
			s := row(0, 0, at)
			s.Bits = bits
			if at == 0 {
				masked(t, "12 bits", s, 1)
			} else {
				none(t, "12 bits", s)
			}
		}
		for _, bits := range append([]int{52}, manyBits...) {
			s := row(last-0x7000, 0, at)
			s.Bits = bits
			masked(t, "52 bits", s, 255)
		}
	}
}

// P12.1: the word at At goes with itself, also without A, and others with it, as if it had A.
func TestNotUsedAt(t *testing.T) {
	for at := range 8 {
		for i := range 16 {
			s := row(0x8000, flagsOf(i), at)
			s.Words[at] -= 0x20
			masked(t, "without A", s, 255)
			for k := range 8 {
				s.Words[k] = table(s.Words[k]) + 1 + flagsOf(i)
			}
			masked(t, "all without A", s, only(at))
		}
	}
}

// P12.1: beside the word that was asked for one bit of one word is another: P, A, W, U, NX, D, and those of its frame part them, and others don't.
func TestEachBit(t *testing.T) {
	for at := range 8 {
		for k := range 8 {
			for i := range 64 {
				for f := range 16 {
					s := row(0x8000, flagsOf(f), at)
					s.Words[k] ^= power(i)
					if k == at { // all others part from it, but where it is the bit A, or one that plays no part
						check(t, "the bit of the one that was asked for", s)
						continue
					}
					want := uint8(255)
					switch {
					case i == 0, i == 5, i == 1, i == 2, i == 63, i == 6, i >= 12 && i <= 51:
						want = but(k)
					}
					masked(t, "a bit", s, want)
				}
			}
		}
	}
}

// P12.1: where the word that was asked for has another W, U, NX, D, or frame, all others part from it.
func TestEachBitAt(t *testing.T) {
	for at := range 8 {
		for i := range 64 {
			s := row(0x8000, 0x6, at)
			s.Words[at] ^= power(i)
			switch {
			case i == 0:
				none(t, "P", s)
			case i == 1, i == 2, i == 6, i == 63, i >= 12 && i <= 51:
				masked(t, "a bit at At", s, only(at))
			default:
				masked(t, "a bit at At that plays no part", s, 255)
			}
		}
	}
}

// P12.1: the sixteen ways of W, U, NX and D against each other: those that are the same go together.
func TestFlags(t *testing.T) {
	for at := range 8 {
		for i := range 16 {
			for j := range 16 {
				s := row(0x8000, flagsOf(i), at)
				want := only(at)
				for k := range 8 {
					switch {
					case k == at:
					case k%2 == at%2:
						want += only(k)
					default:
						s.Words[k] = table(s.Words[k]) + 0x21 + flagsOf(j)
					}
				}
				if i == j {
					want = 255
				}
				masked(t, "flags", s, want)
			}
		}
	}
}

// P12.1: words that differ in all the bits that play no part go together; PS is none of them, on the level 1.
func TestNoPart(t *testing.T) {
	n := numbers(12)
	for at := range 8 {
		for i := range 16 {
			s := row(0x8000, flagsOf(i), at)
			for k := range 8 {
				for _, b := range []int{3, 4, 7, 8, 9, 10, 11, 52, 53, 54, 55, 56, 57, 58, 59, 60, 61, 62} {
					s.Words[k] += uint64(n.below(2)) * power(b)
				}
			}
			masked(t, "no part", s, 255)
			s.Words[at] |= 0x7FF0000000000F98
			masked(t, "all that plays no part", s, 255)
			if l := Run(s); l.Frame != 0x8000 {
				t.Fatalf("the frame %#x", l.Frame)
			}
		}
	}
}

// P12.1: each of the 256 ways in which words lack P, lack A, are reserved, or are other ones: those that are left go together, also behind a gap.
func TestMasks(t *testing.T) {
	for at := range 8 {
		for mask := range 256 {
			if mask/int(power(at))%2 == 0 {
				continue
			}
			for way := range 7 {
				s := row(0x8000, 0x6, at)
				s.Bits, s.NXE = 20, false
				for k := range 8 {
					if mask/int(power(k))%2 == 0 {
						s.Words[k] = spoilt(s.Words[k], way, k)
					}
				}
				masked(t, "spoilt", s, uint8(mask))
			}
		}
	}
}

// spoilt is a word that doesn't go together any more, in one of seven ways.
func spoilt(x uint64, way, k int) uint64 {
	switch way {
	case 0:
		return x - 1
	case 1:
		return x - 0x20
	case 2:
		return x + power(20+k)
	case 3:
		return x + 0x1000*uint64(k+1)
	case 4:
		return x - 0x1000*uint64(k+1)
	case 5:
		return x - 2
	}
	return 0
}

// P12.1: frames that stand another way: all the same, falling, two apart, one beside, and another run's.
func TestFrames(t *testing.T) {
	for at := range 8 {
		for _, step := range []uint64{0, 1, 2, 3, 8, 512, power(52) - 1} {
			s := row(0x100000, 0, at)
			for k := range 8 {
				s.Words[k] = table(0x100000+4096*step*uint64(k)) + 0x21
			}
			if step == 1 {
				masked(t, "rising by one", s, 255)
			} else {
				masked(t, "rising otherwise", s, only(at))
			}
		}
		for k := range 8 {
			for _, by := range []uint64{1, 2, 7, 8, 9, 512, 1 << 20, 1 << 39} {
				if k == at {
					continue
				}
				for _, f := range []uint64{by * 4096, -by * 4096} {
					s := row(power(51), 0, at)
					s.Words[k] = table(s.Words[k]+f) + 0x21
					masked(t, "one beside", s, but(k))
				}
			}
		}
	}
}

// P12.1: the frame of each of a group in turn, told by what the frames of others are: from At on, and not from the first one, or from the one beside it.
func TestFramesFromAt(t *testing.T) {
	for at := range 8 {
		for to := range 9 { // the words below to are of one run, the others of another one
			s := row(0x40000, 0, at)
			low, high := uint8(0), uint8(0)
			for k := range 8 {
				if k < to {
					low += only(k)
					continue
				}
				s.Words[k] += 0x1000
				high += only(k)
			}
			if at < to {
				masked(t, "the lower run", s, low)
			} else {
				masked(t, "the upper run", s, high)
			}
			if f := Run(s).Frame; f != 0x40000 && at < to || f != 0x41000 && at >= to {
				t.Fatalf("at %d, to %d: the frame %#x", at, to, f)
			}
		}
	}
}

// P12.1: frames that are one behind the other modulo 2^52 alone, or are cut otherwise, don't go together: sums go round at 2^64.
func TestFramesGoRound(t *testing.T) {
	for at := range 8 {
		for zero := range 9 { // the place of the frame 0; those ahead of it are at the top
			s := row(minus(4096*uint64(zero)), 0, at)
			high := uint8(power(zero) - 1)
			if at >= zero {
				masked(t, "from 0 on", s, 255-high)
			} else {
				masked(t, "at the top", s, high)
			}
		}
	}
	s := row(minus(0x2000), 0, 2)
	if l := Run(s); l.Frame != 0xFFFFFFFFFFFFE000 || l.Mask != 0xFC {
		t.Errorf("from 0 on, asked for 0: %+v", l)
	}
	s.At = 1
	if l := Run(s); l.Frame != 0x000FFFFFFFFFE000 || l.Mask != 3 {
		t.Errorf("up to the top, asked for the last: %+v", l)
	}
}

// P12.1: each of the eight rights above, narrowed by each word; those of other words play no part.
func TestRights(t *testing.T) {
	for at := range 8 {
		for i := range 8 {
			for j := range 16 {
				s := row(0x8000, flagsOf(j), at)
				s.Right = rightOf(i)
				want := narrow(rightOf(i), flagsOf(j))
				if l := Run(s); l.Right != want || l.Mask != 255 {
					t.Fatalf("Run(%+v) = %+v, not of %v", s, l, want)
				}
				for k := range 8 {
					if k != at {
						s.Words[k] = table(s.Words[k]) + 0x21 + flagsOf(15-j)
					}
				}
				if l := Run(s); l.Right != want || l.Mask != only(at) {
					t.Fatalf("Run(%+v) = %+v, not of %v", s, l, want)
				}
			}
		}
	}
}

// P12.1: Dirty just with D of the word that was asked for, whatever W is, and the others have.
func TestDirty(t *testing.T) {
	for at := range 8 {
		for i := range 16 {
			s := row(0x8000, flagsOf(i), at)
			if l := Run(s); l.Dirty != (i%2 == 1) {
				t.Fatalf("Run(%+v) = %+v", s, l)
			}
			for k := range 8 {
				if k != at {
					s.Words[k] ^= 0x40
				}
			}
			if l := Run(s); l.Dirty != (i%2 == 1) || l.Mask != only(at) {
				t.Fatalf("Run(%+v) = %+v", s, l)
			}
		}
	}
}

// lines are ones of a mask, with frames whose sums go round, and such as no run has.
func lines(mask int) []cache.Line {
	var list []cache.Line
	for i, f := range []uint64{0, 0x1000, 0x8000, last, 1, 0xFFF, power(52), power(63), all, minus(0x1000), minus(0x3000), minus(0x7000), 0x0123456789ABCDEF} {
		list = append(list, cache.Line{Frame: f, Right: rightOf(i), Dirty: i%2 == 0, Mask: uint8(mask)})
	}
	return list
}

// P12.2: frames as figures.
func TestHasFigures(t *testing.T) {
	for _, c := range []struct {
		frame uint64
		mask  uint8
		i     int
		want  uint64
		is    bool
	}{
		{0, 1, 0, 0, true}, {0, 1, 1, 0, false}, {0x8000, 1, 0, 0x8000, true}, {0x8000, 2, 0, 0, false}, {0x8000, 2, 1, 0x9000, true}, {0x8000, 0x80, 7, 0xF000, true},
		{0x8000, 0x7F, 7, 0, false}, {0x8000, 0xFE, 0, 0, false}, {0x8000, 0xFF, 8, 0, false}, {0x8000, 0xFF, -1, 0, false}, {0x8000, 0, 0, 0, false}, {0xFFFFFFFFFFFFE000, 0xFC, 2, 0, true},
		{0xFFFFFFFFFFFFE000, 0xFC, 3, 0x1000, true}, {0xFFFFFFFFFFFFE000, 0xFE, 1, 0xFFFFFFFFFFFFF000, true}, {0x123, 0xFF, 4, 0x4123, true}, {0xF000, 0xFF, 1, 0x10000, true},
	} {
		if f, is := Has(cache.Line{Frame: c.frame, Mask: c.mask}, c.i); f != c.want || is != c.is {
			t.Errorf("Has({%#x, %08b}, %d) = %#x, %v", c.frame, c.mask, c.i, f, is)
		}
	}
}

// P12.2: each mask at each place, whatever else a line has.
func TestHas(t *testing.T) {
	for mask := range 256 {
		for _, l := range lines(mask) {
			for i := range 8 {
				want, there := uint64(0), is(uint64(mask), i)
				if there {
					want = behind(l.Frame, i)
				}
				if f, is := Has(l, i); f != want || is != there {
					t.Fatalf("Has(%+v, %d) = %#x, %v", l, i, f, is)
				}
			}
		}
	}
}

// P12.2: what is no place is in no line.
func TestHasNoPlace(t *testing.T) {
	for mask := range 256 {
		for _, l := range lines(mask) {
			for _, i := range noPlaces {
				if f, is := Has(l, i); f != 0 || is {
					t.Fatalf("Has(%+v, %d) = %#x, %v", l, i, f, is)
				}
			}
		}
	}
}

// P12.2: a line without each of its bits, and without one that it doesn't have: all else stays, but without any bit it is the zero line.
func TestWithout(t *testing.T) {
	for mask := range 256 {
		for _, l := range lines(mask) {
			for i := range 8 {
				want := l
				if is(uint64(mask), i) {
					want.Mask -= only(i)
				}
				if want.Mask == 0 {
					want = cache.Line{}
				}
				if got := Without(l, i); got != want {
					t.Fatalf("Without(%+v, %d) = %+v", l, i, got)
				}
			}
		}
	}
}

// P12.2: without what is no place a line stays, but the zero line is told of one that has no bit.
func TestWithoutNoPlace(t *testing.T) {
	for mask := range 256 {
		for _, l := range lines(mask) {
			want := l
			if mask == 0 {
				want = cache.Line{}
			}
			for _, i := range noPlaces {
				if got := Without(l, i); got != want {
					t.Fatalf("Without(%+v, %d) = %+v", l, i, got)
				}
			}
		}
	}
}

// P12.2: the last bit that is left, as figures, and that of a mask 0 beside other fields.
func TestWithoutLast(t *testing.T) {
	l := cache.Line{Frame: 0x8000, Right: right.All(), Dirty: true}
	for i := -1; i <= 8; i++ {
		if got := Without(l, i); got != (cache.Line{}) {
			t.Errorf("Without(%+v, %d) = %+v", l, i, got)
		}
		if got := Without(cache.Line{}, i); got != (cache.Line{}) {
			t.Errorf("Without the zero line's %d = %+v", i, got)
		}
	}
	for i := range 8 {
		l.Mask = only(i)
		if got := Without(l, i); got != (cache.Line{}) {
			t.Errorf("Without(%+v, %d) = %+v", l, i, got)
		}
		if got := Without(l, (i+1)%8); got != l {
			t.Errorf("Without(%+v, %d) = %+v", l, (i+1)%8, got)
		}
	}
}

// P12.2: what is taken out isn't there, and all others are, where they were; one by one all go.
func TestWithoutHas(t *testing.T) {
	for mask := range 256 {
		for _, l := range lines(mask) {
			for i := range 8 {
				left := Without(l, i)
				for k := range 8 {
					f, is := Has(left, k)
					want, was := Has(l, k)
					if k == i {
						want, was = 0, false
					}
					if f != want || is != was {
						t.Fatalf("Has(Without(%+v, %d), %d) = %#x, %v", l, i, k, f, is)
					}
				}
			}
			for i := range 8 {
				l = Without(l, (i*3+mask)%8)
			}
			if l != (cache.Line{}) {
				t.Fatalf("all gone: %+v", l)
			}
		}
	}
}

// P12.2: groups as figures, of their first and their last byte, and at both ends of all addresses.
func TestSlotsFigures(t *testing.T) {
	for _, c := range []struct{ slot, first uint64 }{
		{0, 0}, {1, 0}, {7, 0}, {8, 0}, {56, 0}, {63, 0}, {64, 64}, {71, 64}, {72, 64}, {127, 64}, {128, 128}, {0xFC0, 0xFC0}, {0xFF8, 0xFC0}, {0xFFF, 0xFC0}, {0x1000, 0x1000}, {0x103F, 0x1000},
		{1<<22 - 1, 1<<22 - 64}, {1<<32 - 1, 1<<32 - 64}, {1 << 32, 1 << 32}, {1<<32 + 9, 1 << 32}, {1 << 63, 1 << 63}, {1<<63 - 1, 1<<63 - 64},
		{all, 0xFFFFFFFFFFFFFFC0}, {all - 1, 0xFFFFFFFFFFFFFFC0}, {all - 7, 0xFFFFFFFFFFFFFFC0}, {all - 63, 0xFFFFFFFFFFFFFFC0}, {all - 64, 0xFFFFFFFFFFFFFF80}, {all - 127, 0xFFFFFFFFFFFFFF80}, {all - 128, 0xFFFFFFFFFFFFFF40},
	} {
		f := c.first
		if l := Slots(c.slot); l != [8]uint64{f, f + 8, f + 16, f + 24, f + 32, f + 40, f + 48, f + 56} {
			t.Errorf("Slots(%#x) = %#x", c.slot, l)
		}
	}
}

// P12.2: each byte of many groups: the group is one that it lies in, rising, and from a multiple of 64 on.
func TestSlots(t *testing.T) {
	row := numbers(64)
	firsts := []uint64{0, 64, 128, 4096 - 64, 4096, 1 << 22, 1<<48 - 64, 1 << 63, all - 63, all - 127}
	for range 200 {
		firsts = append(firsts, row.next()/64*64)
	}
	for _, first := range firsts {
		for i := range uint64(64) {
			l := Slots(first + i)
			for k, a := range l {
				if a != first+8*uint64(k) {
					t.Fatalf("Slots(%#x) = %#x", first+i, l)
				}
			}
		}
	}
}

// group is one of words that go together, more or less, with whatever may be wrong with them.
func (n *numbers) group() Seen {
	s := row([]uint64{0, 0x1000, 0x8000, 0x3D000, power(22) - 0x5000, last - 0x3000, minus(0x3000), n.next()}[n.below(8)], flagsOf(n.below(16)), n.below(8))
	s.Bits, s.NXE, s.Right = []int{14, 18, 22, 22, 52, 52, 52, int(n.next())}[n.below(8)], n.below(4) > 0, rightOf(n.below(8))
	for range n.below(6) {
		i := n.below(8)
		switch n.below(6) {
		case 0:
			s.Words[i] ^= power([]int{0, 1, 2, 5, 6, 7, 63}[n.below(7)])
		case 1:
			s.Words[i] ^= power(n.below(64))
		case 2:
			s.Words[i] = s.Words[n.below(8)]
		case 3:
			s.Words[i] += 4096 * uint64(n.below(5)-2)
		case 4:
			s.Words[i] = n.next()
		case 5:
			s.Words[i] ^= n.next() & 0x7FF0000000000F98
		}
	}
	if n.below(40) == 0 {
		s.At = noPlaces[n.below(len(noPlaces))]
	}
	return s
}

// P12.1: many mixed groups, each asked for each of its words.
func TestMixed(t *testing.T) {
	n := numbers(1)
	masks := map[uint8]bool{}
	for range 20000 {
		s := n.group()
		check(t, "mixed", s)
		for at := range 8 {
			s.At = at
			check(t, "mixed", s)
			masks[Run(s).Mask] = true
		}
	}
	if len(masks) < 200 {
		t.Errorf("%d masks alone", len(masks))
	}
}

// P12.3: each page that a run has is told the frame that its own word says, with the same rights, is as dirty, and has been used; the one that was asked for is always there.
func TestEachPage(t *testing.T) {
	n := numbers(2)
	several := 0
	for range 40000 {
		s := n.group()
		l := Run(s)
		if l == (cache.Line{}) {
			continue
		}
		if f, there := Has(l, s.At); !there || f != table(s.Words[s.At]) {
			t.Fatalf("Has(%+v, %d) = %#x, %v of %+v", l, s.At, f, there, s)
		}
		for i, x := range s.Words {
			f, there := Has(l, i)
			if !there {
				continue
			}
			if i != s.At {
				several++
			}
			if f != table(x) || narrow(s.Right, x) != l.Right || is(x, 6) != l.Dirty || !is(x, 0) || !is(x, 5) && i != s.At || reserved(x, s.Bits, s.NXE) {
				t.Fatalf("the page %d of %+v: %#x of %+v", i, l, f, s)
			}
		}
	}
	if several < 10000 {
		t.Errorf("%d pages beside the ones that were asked for", several)
	}
}

// P12.3: asked for another page that a run has, and that has been used, the run is the same, if the first one has been used, too; else it is the same without that one.
func TestAskedForAnother(t *testing.T) {
	n := numbers(3)
	others, unused := 0, 0
	for range 40000 {
		s := n.group()
		l := Run(s)
		for i := range 8 {
			if _, there := Has(l, i); !there || i == s.At {
				continue
			}
			other, want := s, l
			other.At = i
			others++
			if !is(s.Words[s.At], 5) {
				want = Without(l, s.At)
				unused++
			}
			if got := Run(other); got != want {
				t.Fatalf("Run(%+v) = %+v, not %+v", other, got, want)
			}
		}
	}
	if others < 10000 || unused < 100 {
		t.Errorf("%d others, %d of which beside one that was not used", others, unused)
	}
}

// P12.3: no page that could go along is left out.
func TestNoneLeftOut(t *testing.T) {
	n := numbers(4)
	for range 20000 {
		s := n.group()
		l := Run(s)
		for i := range 8 {
			if l == (cache.Line{}) {
				break
			}
			if _, there := Has(l, i); there != goes(s, i) {
				t.Fatalf("the page %d of %+v: %v of %+v", i, l, there, s)
			}
		}
	}
}

// R4: what is answered hangs on nothing but what is asked, whatever was asked ahead of it.
func TestAgain(t *testing.T) {
	n := numbers(6)
	for range 2000 {
		s, other := n.group(), n.group()
		l := Run(s)
		Run(other)
		Without(l, other.At)
		slots := Slots(other.Words[0])
		slots[0]++
		if got := Run(s); got != l {
			t.Fatalf("Run(%+v) = %+v, and then %+v", s, l, got)
		}
		if got := Slots(other.Words[0]); got[0] != slots[0]-1 {
			t.Fatalf("Slots(%#x) = %#x", other.Words[0], got)
		}
	}
}

// P12.1: the bits of a word that the document names are api's.
func TestBitsOfApi(t *testing.T) {
	for i, x := range map[int]uint64{0: api.BitP, 1: api.BitW, 2: api.BitU, 5: api.BitA, 6: api.BitD, 7: api.BitPS, 63: api.BitNX} {
		if x != power(i) {
			t.Errorf("the bit %d is %#x", i, x)
		}
	}
}
