package va

import (
	"math"
	"testing"
)

const (
	lowerEnd   = 0x0000800000000000 // behind the last address of the lower half
	upperStart = 0xFFFF800000000000
)

// addresses are canonical and other ones: plain ones, those around the bit 47, the ends of either half, each bit alone and missing.
func addresses() []uint64 {
	list := []uint64{0, 1, 0x45, 0xFFF, 0x1000, 0x1001, 0x5678, 1<<21 - 1, 1 << 21, 1<<30 - 1, 1 << 30, 1<<39 - 1, 1 << 39,
		0x123456789ABC, 0x0000DEADBEEFCAFE, 0xFFFFDEADBEEFCAFE, 0xFFFFFF8040403045, 0x7FFFFF8040403045,
		0x0123456789ABCDEF, 0xFEDCBA9876543210, 0x9E3779B97F4A7C15}
	for _, edge := range []uint64{0, 0x400000000000, lowerEnd, 0x1000000000000, 1 << 63, 0xFFFF000000000000, upperStart, 0xFFFFC00000000000} {
		for _, by := range []uint64{1, 2, 0xFFF, 0x1000, 0x1001, 0x2000} {
			list = append(list, edge-by, edge, edge+by) // wraps round at 0, to the last ones
		}
	}
	for i := range 64 {
		list = append(list, power(2, i), ^power(2, i))
	}
	return list
}

// noLevels are numbers that are no level.
var noLevels = []int{0, -1, -2, -3, -4, -5, -64, 5, 6, 7, 8, 9, 63, 64, 256, 1 << 20, 1 << 32, 1<<32 + 1, 1<<32 + 4,
	-1 << 32, -1<<32 + 1, 1 << 62, 1<<62 + 1, -1 << 62, math.MaxInt, math.MaxInt - 1, math.MinInt, math.MinInt + 1, math.MinInt + 2}

// power is b to the n, made by multiplying alone: what is tested shifts.
func power(b uint64, n int) uint64 {
	p := uint64(1)
	for range n {
		p *= b
	}
	return p
}

// canonical tells it by the order of addresses: below the one hole, or above it.
func canonical(a uint64) bool {
	return a < lowerEnd || a >= upperStart
}

// size is how many bytes a page of the level 1, 2 or 3 has.
func size(level int) uint64 { return 4096 * power(512, level-1) }

// place is the number of an address in a table, by division alone.
func place(a uint64, level int) int {
	return int(a / 4096 / power(512, level-1) % 512)
}

// joined is what Join is, as a sum.
func joined(places [4]int, low uint64) uint64 {
	sum := low % 4096
	for i, p := range places {
		left := (p%512 + 512) % 512
		sum += uint64(left) * 4096 * power(512, 3-i)
	}
	if sum >= lowerEnd {
		sum += upperStart - lowerEnd
	}
	return sum
}

// P3.1, P3.2: the document's examples.
func TestExamples(t *testing.T) {
	if i := Index(0x1000, 1); i != 1 {
		t.Errorf("Index(0x1000, 1) = %d", i)
	}
	if b, is := Next(0x7FFFFFFFF000); b != 0 || is {
		t.Errorf("Next(0x7FFFFFFFF000) = %#x, %v", b, is)
	}
}

// P3.1: canonical or not, and which canonical address it is by its 48 bits, as figures.
func TestCanonFigures(t *testing.T) {
	for _, c := range []struct {
		a    uint64
		is   bool
		sign uint64
	}{
		{0, true, 0}, {1, true, 1},
		{0x00007FFFFFFFFFFF, true, 0x00007FFFFFFFFFFF},
		{0x0000800000000000, false, 0xFFFF800000000000},
		{0x0000FFFFFFFFFFFF, false, 0xFFFFFFFFFFFFFFFF},
		{0x0001000000000000, false, 0},
		{0x7FFFFFFFFFFFFFFF, false, 0xFFFFFFFFFFFFFFFF},
		{0x8000000000000000, false, 0},
		{0xFFFE800000000000, false, 0xFFFF800000000000},
		{0xFFFF000000000000, false, 0},
		{0xFFFF7FFFFFFFFFFF, false, 0x00007FFFFFFFFFFF},
		{0xFFFF800000000000, true, 0xFFFF800000000000},
		{0xFFFFFFFFFFFFFFFF, true, 0xFFFFFFFFFFFFFFFF},
		{0xABCD123456789ABC, false, 0x0000123456789ABC},
		{0x1234ABCDEF012345, false, 0xFFFFABCDEF012345},
	} {
		if Canon(c.a) != c.is {
			t.Errorf("Canon(%#x) = %v", c.a, !c.is)
		}
		if s := Sign(c.a); s != c.sign {
			t.Errorf("Sign(%#x) = %#x, not %#x", c.a, s, c.sign)
		}
	}
}

// P3.1: one bit of 47 to 63 that is another one makes an address not canonical; a lower one doesn't.
func TestCanonBits(t *testing.T) {
	for _, a := range []uint64{0, 0x123456789ABC, 0x7FFFFFFFFFFF, upperStart, 0xFFFFDEADBEEFCAFE, ^uint64(0)} {
		for i := range 64 {
			if b := a ^ power(2, i); Canon(b) != (i < 47) {
				t.Errorf("Canon(%#x) = %v", b, Canon(b))
			}
		}
	}
}

// P3.1: Canon and Sign of all the addresses.
func TestCanonAndSign(t *testing.T) {
	for _, a := range addresses() {
		if Canon(a) != canonical(a) {
			t.Errorf("Canon(%#x) = %v", a, Canon(a))
		}
		want := a % (2 * lowerEnd)
		if want >= lowerEnd {
			want += upperStart - lowerEnd
		}
		if s := Sign(a); s != want || !canonical(s) {
			t.Errorf("Sign(%#x) = %#x, not %#x", a, s, want)
		}
	}
}

// P3.1: the places of all the levels.
func TestIndex(t *testing.T) {
	for level, a := range []uint64{1: 0x1FF000, 2: 0x3FE00000, 3: 0x7FC0000000, 4: 0xFF8000000000} {
		for other := 1; level >= 1 && other <= 4; other++ {
			full, hole := 0, 511
			if other == level {
				full, hole = 511, 0
			}
			if Index(a, other) != full || Index(^a, other) != hole {
				t.Errorf("the level %d of %#x, and of all else: %d, %d", other, a, Index(a, other), Index(^a, other))
			}
		}
	}
	for _, a := range addresses() {
		for level := 1; level <= 4; level++ {
			if i := Index(a, level); i != place(a, level) {
				t.Errorf("Index(%#x, %d) = %d, not %d", a, level, i, place(a, level))
			}
		}
	}
}

// P3.1: how many bytes a page has, as figures.
func TestSize(t *testing.T) {
	if Size(1) != 4096 || Size(2) != 2097152 || Size(3) != 1073741824 || Size(4) != 0 {
		t.Errorf("the sizes are %d, %d, %d, %d", Size(1), Size(2), Size(3), Size(4))
	}
}

// P3.1: where a page begins, and how far behind that an address is.
func TestPageAndLow(t *testing.T) {
	const a = 0xFFFFFF8040603045
	for level, page := range []uint64{1: 0xFFFFFF8040603000, 2: 0xFFFFFF8040600000, 3: 0xFFFFFF8040000000} {
		if level >= 1 && (Page(a, level) != page || Low(a, level) != a-page) {
			t.Errorf("the page of the level %d: %#x and %#x", level, Page(a, level), Low(a, level))
		}
	}
	for _, a := range addresses() {
		for level := 1; level <= 3; level++ {
			left := a - a/size(level)*size(level)
			if p, l := Page(a, level), Low(a, level); p != a-left || l != left {
				t.Errorf("Page and Low(%#x, %d) = %#x, %#x, not %#x, %#x", a, level, p, l, a-left, left)
			}
		}
	}
}

func checkNoPage(t *testing.T, level int) {
	t.Helper()
	if s := Size(level); s != 0 {
		t.Errorf("Size(%d) = %#x of no page", level, s)
	}
	for _, a := range addresses() {
		if p, l := Page(a, level), Low(a, level); p != a || l != 0 {
			t.Errorf("Page and Low(%#x, %d) = %#x, %#x of no page", a, level, p, l)
		}
	}
}

// P3.1: where there is no such level, below 1 and above 4, also by much; the level 4 has no pages.
func TestNoLevel(t *testing.T) {
	levels := noLevels
	for level := -80; level <= 80; level++ {
		if level < 1 || level > 4 {
			levels = append(levels, level)
		}
	}
	for _, level := range levels {
		for _, a := range addresses() {
			if i := Index(a, level); i != 0 {
				t.Errorf("Index(%#x, %d) = %d of no level", a, level, i)
			}
		}
		checkNoPage(t, level)
	}
	checkNoPage(t, 4)
}

// P3.2: addresses of places, as figures: all 0, each 511 alone, all 511, and the halves' edge.
func TestJoinFigures(t *testing.T) {
	for _, c := range []struct {
		places    [4]int
		low, want uint64
	}{
		{[4]int{0, 0, 0, 0}, 0, 0},
		{[4]int{511, 1, 2, 3}, 0x45, 0xFFFFFF8040403045},
		{[4]int{1, 2, 3, 4}, 0x567, 0x0000008080604567},
		{[4]int{511, 0, 0, 0}, 0, 0xFFFFFF8000000000},
		{[4]int{0, 511, 0, 0}, 0, 0x7FC0000000},
		{[4]int{0, 0, 511, 0}, 0, 0x3FE00000},
		{[4]int{0, 0, 0, 511}, 0, 0x1FF000},
		{[4]int{255, 511, 511, 511}, 0xFFF, 0x00007FFFFFFFFFFF},
		{[4]int{256, 0, 0, 0}, 0, 0xFFFF800000000000},
		{[4]int{511, 511, 511, 511}, 0xFFF, 0xFFFFFFFFFFFFFFFF},
		{[4]int{0, 0, 0, 0}, 0x1000, 0},
		{[4]int{0, 0, 0, 0}, 0xFFFFFFFFFFFFF123, 0x123},
		{[4]int{512, 513, 1024, -1}, 0, 0x00000000401FF000},
		{[4]int{-512, -511, -510, -513}, 1, 0x00000000405FF001},
		{[4]int{-1, -1, -1, -1}, ^uint64(0), 0xFFFFFFFFFFFFFFFF},
		{[4]int{math.MinInt, math.MaxInt, math.MinInt + 1, math.MaxInt - 1}, 7, 0x0000007FC03FE007},
	} {
		if a := Join(c.places, c.low); a != c.want {
			t.Errorf("Join(%v, %#x) = %#x, not %#x", c.places, c.low, a, c.want)
		}
	}
}

// somePlaces are places, and numbers that are ones modulo 512: below 0 and above 511, also by much.
var somePlaces = []int{0, 1, 2, 255, 256, 257, 510, 511, 512, 513, 767, 1023, 1024, 4096, 1<<32 + 5, 1<<62 + 300,
	-1, -2, -255, -256, -257, -511, -512, -513, -1024, -1<<32 + 5, -1<<62 - 300, math.MaxInt, math.MaxInt - 511, math.MinInt, math.MinInt + 511}

// P3.2: each place by itself, beside others, with lows that are greater than a page among them.
func TestJoin(t *testing.T) {
	for at := range 4 {
		for _, p := range somePlaces {
			for _, others := range [][4]int{{}, {1, 2, 3, 4}, {255, 256, 257, 258}, {511, 511, 511, 511}} {
				places := others
				places[at] = p
				for _, low := range []uint64{0, 1, 0x45, 0xFFF, 0x1000, 0x1001, 0xABCDE, 1 << 47, 1 << 63, ^uint64(0)} {
					a := Join(places, low)
					if want := joined(places, low); a != want {
						t.Errorf("Join(%v, %#x) = %#x, not %#x", places, low, a, want)
					}
					if !Canon(a) || a%4096 != low%4096 || Index(a, 4-at) != (p%512+512)%512 {
						t.Errorf("Join(%v, %#x) = %#x: its own parts", places, low, a)
					}
				}
			}
		}
	}
}

// P3.2: the page behind, as figures; the last page of either half, and addresses that aren't canonical, have none.
func TestNextFigures(t *testing.T) {
	for _, c := range []struct {
		a, want uint64
		is      bool
	}{
		{0, 0x1000, true}, {1, 0x1000, true}, {0xFFF, 0x1000, true}, {0x1000, 0x2000, true}, {0x5678, 0x6000, true},
		{0x1FFFFF, 0x200000, true}, {0x3FFFFFFF, 0x40000000, true}, {0x7FFFFFFFFF, 0x8000000000, true},
		{0x00007FFFFFFFE000, 0x00007FFFFFFFF000, true}, {0x00007FFFFFFFEFFF, 0x00007FFFFFFFF000, true},
		{0x00007FFFFFFFF000, 0, false}, {0x00007FFFFFFFF001, 0, false}, {0x00007FFFFFFFFFFF, 0, false},
		{0x0000800000000000, 0, false}, {0x0000FFFFFFFFFFFF, 0, false}, {0x0001000000000000, 0, false},
		{0x7FFFFFFFFFFFFFFF, 0, false}, {0x8000000000000000, 0, false}, {0xFFFEFFFFFFFFFFFF, 0, false},
		{0xFFFF7FFFFFFFE000, 0, false}, {0xFFFF7FFFFFFFF000, 0, false}, {0xFFFF7FFFFFFFFFFF, 0, false},
		{0xFFFF800000000000, 0xFFFF800000001000, true}, {0xFFFF800000000FFF, 0xFFFF800000001000, true},
		{0xFFFFFFFFFFFFE000, 0xFFFFFFFFFFFFF000, true}, {0xFFFFFFFFFFFFEFFF, 0xFFFFFFFFFFFFF000, true},
		{0xFFFFFFFFFFFFF000, 0, false}, {0xFFFFFFFFFFFFF123, 0, false}, {0xFFFFFFFFFFFFFFFF, 0, false},
	} {
		if b, is := Next(c.a); b != c.want || is != c.is {
			t.Errorf("Next(%#x) = %#x, %v, not %#x, %v", c.a, b, is, c.want, c.is)
		}
	}
}

// P3.2: Next of all the addresses, by how many pages a half has.
func TestNext(t *testing.T) {
	for _, a := range addresses() {
		last := a/4096 == 0x7FFFFFFFF || a/4096 == 0xFFFFFFFFFFFFF
		want, wantIs := uint64(0), false
		if canonical(a) && !last {
			want, wantIs = (a/4096+1)*4096, true
		}
		if b, is := Next(a); b != want || is != wantIs {
			t.Errorf("Next(%#x) = %#x, %v, not %#x, %v", a, b, is, want, wantIs)
		}
	}
}

// P3.3: an address that is canonical is joined of its places; of another one that is what Sign tells.
func TestJoinedOfItsPlaces(t *testing.T) {
	for _, a := range addresses() {
		b := Join([4]int{Index(a, 4), Index(a, 3), Index(a, 2), Index(a, 1)}, Low(a, 1))
		if b != Sign(a) || Canon(a) != (b == a) {
			t.Errorf("%#x is joined of its places as %#x", a, b)
		}
	}
}

// P3.3: every place at each level is told as it was joined.
func TestPlacesAreTold(t *testing.T) {
	for at := range 4 {
		for p := range 512 {
			places := [4]int{3, 130, 257, 508}
			places[at] = p
			a := Join(places, 0x9AB)
			if got := [4]int{Index(a, 4), Index(a, 3), Index(a, 2), Index(a, 1)}; got != places || Low(a, 1) != 0x9AB {
				t.Errorf("Join(%v, 0x9AB) is told as %v, %#x", places, got, Low(a, 1))
			}
		}
	}
}

// P3.3: the pages of a level cover all addresses, and are apart: an address is in one page, as all of it are, and not in those beside it.
func TestPagesAreApart(t *testing.T) {
	for _, a := range addresses() {
		for level := 1; level <= 3; level++ {
			page, bytes := Page(a, level), Size(level)
			last := page + (bytes - 1)
			if page%bytes != 0 || a < page || a > last || a != page+Low(a, level) {
				t.Errorf("%#x isn't in its page %#x of the level %d", a, page, level)
			}
			for _, in := range []uint64{page, page + 1, page + bytes/2, last} {
				if Page(in, level) != page || Canon(in) != Canon(a) {
					t.Errorf("%#x and %#x are in one page of the level %d", a, in, level)
				}
			}
			if Page(page-1, level) != page-bytes || Page(last+1, level) != page+bytes {
				t.Errorf("beside %#x, of the level %d: %#x and %#x", page, level, Page(page-1, level), Page(last+1, level))
			}
		}
	}
}

// P3.3: going on from page to page, none is left out, over the edges of greater pages, till the half ends.
func TestNextCoversAll(t *testing.T) {
	for _, start := range []uint64{0, 0x1FE000, 0x3FFFE000, 0x7FFFFFE000, upperStart, 0xFFFFFF7FFFFFE000} {
		a := start
		for i := range 4 {
			if b, is := Next(a + uint64(i)); !is || b != start+uint64(i+1)*4096 {
				t.Fatalf("Next(%#x) = %#x, %v", a+uint64(i), b, is)
			} else {
				a = b
			}
		}
	}
	for _, end := range []uint64{lowerEnd, 0} {
		count, a, is := 0, end-5*4096, true
		for is {
			a, is = Next(a)
			count++
		}
		if count != 5 || a != 0 {
			t.Errorf("the last five pages below %#x are %d", end, count)
		}
	}
}
