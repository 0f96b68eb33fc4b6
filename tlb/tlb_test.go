package tlb

import (
	"cmp"
	"maps"
	"math"
	"math/big"
	"slices"
	"testing"

	"dormer/cache"
	"dormer/right"
)

// The calls, as the document lists them.
var (
	_ func(room int) *Tlb                                      = New
	_ func(t *Tlb, pcid int, a uint64) (Hit, bool)             = (*Tlb).Look
	_ func(t *Tlb, pcid int, a uint64, l cache.Line, pick int) = (*Tlb).Small
	_ func(t *Tlb, pcid int, a uint64, h Hit, pick int)        = (*Tlb).Great
	_ func(t *Tlb, pcid int, a uint64)                         = (*Tlb).DropPage
	_ func(t *Tlb, pcid int)                                   = (*Tlb).DropOf
	_ func(t *Tlb)                                             = (*Tlb).Clear
	_ func(t *Tlb, pick int)                                   = (*Tlb).Evict
	_ func(t *Tlb) int                                         = (*Tlb).Len
	_                                                          = Hit{Frame: uint64(0), Level: int(0), Right: right.Right{}, Dirty: false}
)

const all64 = math.MaxUint64

// noGreat are numbers that are no level of a great page, some of which would be one, if they were cut to fewer bits.
var noGreat = []int{1, 0, 4, 5, 6, 7, 8, 10, 11, -1, -2, -3, -4, 18, 19, 34, 35, 66, 67, 130, 131, 256 + 2, 256 + 3, -254, -253, 1<<16 + 2, 1<<16 + 3, 1<<32 + 2, 1<<32 + 3, -1<<32 + 2, -1<<32 + 3,
	1<<62 + 2, -1<<62 + 3, math.MaxInt, math.MaxInt - 1, math.MinInt, math.MinInt + 1, math.MinInt + 2, math.MinInt + 3}

// rooms are asked for, and what room there is then, as figures.
var rooms = []struct{ asked, room int }{
	{0, 0}, {1, 1}, {2, 2}, {3, 3}, {4, 4}, {8, 8}, {63, 63}, {64, 64}, {65, 64}, {66, 64}, {128, 64}, {256, 64}, {256 + 3, 64}, {1<<32 + 5, 64}, {math.MaxInt, 64},
	{-1, 0}, {-2, 0}, {-64, 0}, {-256 + 3, 0}, {-1<<32 + 5, 0}, {math.MinInt, 0}, {math.MinInt + 64, 0},
}

// picks are around 0, around the greatest room, and up to the greatest and least int.
var picks = []int{0, 1, 2, 3, 4, 5, 7, 63, 64, 65, 255, 256, 4095, 1 << 31, 1 << 32, 1<<32 + 1, 1 << 62, math.MaxInt - 1, math.MaxInt,
	-1, -2, -3, -4, -5, -7, -63, -64, -65, -255, -256, -4096, -1 << 31, -1 << 32, -1<<32 - 1, -1 << 62, math.MinInt + 1, math.MinInt}

// pcids are such as are some, and such as are none.
var pcids = []int{0, 1, 2, 255, 256, 4094, 4095, 4096, 1 << 32, 1<<32 + 1, math.MaxInt, -1, -2, -4095, -1 << 32, math.MinInt}

// power is two to the i, and is whether the bit i of x is 1, by doubling and division alone.
func power(i int) uint64 {
	p := uint64(1)
	for range i {
		p += p
	}
	return p
}

func is(x uint64, i int) bool { return x/power(i)%2 == 1 }

// minus is what is as far below 0, modulo 2^64.
func minus(x uint64) uint64 { return 0 - x }

// numberOf is the document's number of an address by a level: figures, so that nothing is taken from the program.
func numberOf(a uint64, level int) uint64 {
	return a / map[int]uint64{1: 32768, 2: 2097152, 3: 1073741824}[level]
}

// pageOf is the place of an address's page among its eight.
func pageOf(a uint64) int { return int(a / 4096 % 8) }

// rightOf is one of the eight rights.
func rightOf(i int) right.Right {
	return right.Right{W: i/4%2 == 1, U: i/2%2 == 1, X: i%2 == 1}
}

// numbers is a row of numbers that look unlike, the same at each run.
type numbers uint64

func (n *numbers) next() uint64 {
	*n = *n*6364136223846793005 + 1442695040888963407
	return uint64(*n) ^ uint64(*n)>>29
}

func (n *numbers) below(i int) int { return int(n.next() >> 1 % uint64(i)) }

// pick is any number: a small one, one of the list, or one of all bits.
func (n *numbers) pick() int {
	switch n.below(3) {
	case 0:
		return n.below(200) - 100
	case 1:
		return picks[n.below(len(picks))]
	}
	return int(n.next())
}

// entry is a line as the document has it: whose it is, its level, which place, and what it tells; of a run, its pages.
type entry struct {
	pcid, level int
	number      uint64
	frame       uint64
	right       right.Right
	dirty       bool
	pages       [8]bool
}

// book is a Tlb as the document says it: its lines, in the order in which they came.
type book struct {
	room int
	row  []entry
}

// at is where the line of an address is, or -1.
func (b *book) at(pcid int, a uint64, level int) int {
	return slices.IndexFunc(b.row, func(e entry) bool {
		return e.pcid == pcid && e.level == level && e.number == numberOf(a, level)
	})
}

func (b *book) look(pcid int, a uint64) (Hit, bool) {
	if i := b.at(pcid, a, 1); i >= 0 && b.row[i].pages[pageOf(a)] {
		frame := b.row[i].frame
		for range pageOf(a) {
			frame += 4096
		}
		return Hit{frame, 1, b.row[i].right, b.row[i].dirty}, true
	}
	for _, level := range []int{2, 3} {
		if i := b.at(pcid, a, level); i >= 0 {
			return Hit{b.row[i].frame, level, b.row[i].right, b.row[i].dirty}, true
		}
	}
	return Hit{}, false
}

func (b *book) small(pcid int, a uint64, l cache.Line, pick int) {
	if l.Mask == 0 {
		return
	}
	e := entry{pcid: pcid, level: 1, number: numberOf(a, 1), frame: l.Frame, right: l.Right, dirty: l.Dirty}
	for i := range e.pages {
		e.pages[i] = is(uint64(l.Mask), i)
	}
	b.put(b.at(pcid, a, 1), e, pick)
}

func (b *book) great(pcid int, a uint64, h Hit, pick int) {
	if h.Level == 2 || h.Level == 3 {
		e := entry{pcid: pcid, level: h.Level, number: numberOf(a, h.Level), frame: h.Frame, right: h.Right, dirty: h.Dirty}
		b.put(b.at(pcid, a, h.Level), e, pick)
	}
}

func (b *book) put(i int, e entry, pick int) {
	switch {
	case i >= 0:
		b.row[i] = e
	case b.room > 0:
		if len(b.row) == b.room {
			b.evict(pick)
		}
		b.row = append(b.row, e)
	}
}

// evict lets the one be gone that a number picks, by numbers without an end.
func (b *book) evict(pick int) {
	if len(b.row) > 0 {
		n := big.NewInt(int64(len(b.row)))
		i := int(new(big.Int).Mod(big.NewInt(int64(pick)), n).Int64())
		b.row = slices.Concat(b.row[:i], b.row[i+1:])
	}
}

func (b *book) drop(is func(e entry) bool) {
	b.row = slices.DeleteFunc(slices.Clone(b.row), is)
}

func (b *book) dropPage(pcid int, a uint64) {
	if i := b.at(pcid, a, 1); i >= 0 {
		b.row[i].pages[pageOf(a)] = false
	}
	b.drop(func(e entry) bool {
		return e.pcid == pcid && e.number == numberOf(a, e.level) && e.pages == [8]bool{}
	})
}

// found holds what is told of an address against this hit; lost against none.
func found(t *testing.T, what string, x *Tlb, pcid int, a uint64, want Hit) {
	t.Helper()
	if h, is := x.Look(pcid, a); h != want || !is {
		t.Fatalf("%s: Look(%d, %#x) = %+v, %v, not %+v", what, pcid, a, h, is, want)
	}
}

func lost(t *testing.T, what string, x *Tlb, pcid int, a uint64) {
	t.Helper()
	if h, is := x.Look(pcid, a); h != (Hit{}) || is {
		t.Fatalf("%s: Look(%d, %#x) = %+v, %v", what, pcid, a, h, is)
	}
}

func counts(t *testing.T, what string, x *Tlb, want int) {
	t.Helper()
	if n := x.Len(); n != want {
		t.Fatalf("%s: Len = %d, not %d", what, n, want)
	}
}

// same holds a Tlb against a book: how many lines there are, and what is told of these addresses.
func same(t *testing.T, what string, x *Tlb, b *book, pcids []int, addresses []uint64) {
	t.Helper()
	counts(t, what, x, len(b.row))
	for _, pcid := range pcids {
		for _, a := range addresses {
			want, there := b.look(pcid, a)
			if h, is := x.Look(pcid, a); h != want || is != there {
				t.Fatalf("%s: Look(%d, %#x) = %+v, %v, not %+v, %v", what, pcid, a, h, is, want, there)
			}
		}
	}
}

// one is an address of four places that aren't the same: 5, 6, 7 and 18 (of its run the page 2), and 0x123 behind them.
const one = 5<<39 + 6<<30 + 7<<21 + 18<<12 + 0x123

// runOf is a line of pages from a frame on; hitOf what is told of one of them; greatOf a great page, as it is put and told.
func runOf(frame uint64, mask uint8) cache.Line {
	return cache.Line{Frame: frame, Right: right.Right{W: true, X: true}, Dirty: true, Mask: mask}
}

func hitOf(frame uint64) Hit {
	return Hit{Frame: frame, Level: 1, Right: right.Right{W: true, X: true}, Dirty: true}
}

func greatOf(frame uint64, level int) Hit {
	return Hit{Frame: frame, Level: level, Right: right.Right{U: true}}
}

// P13.1, P13.2, P13.3: the document's example: a run of the pages 8 and 9, without 8: 9 is found.
func TestExample(t *testing.T) {
	x := New(1)
	x.Small(3, 0x8000, cache.Line{Frame: 0x20000, Mask: 3, Right: right.All()}, 0)
	found(t, "put", x, 3, 0x8FFF, Hit{Frame: 0x20000, Level: 1, Right: right.All()})
	found(t, "put", x, 3, 0x9000, Hit{Frame: 0x21000, Level: 1, Right: right.All()})
	x.DropPage(3, 0x8000)
	lost(t, "dropped", x, 3, 0x8FFF)
	found(t, "dropped", x, 3, 0x9000, Hit{Frame: 0x21000, Level: 1, Right: right.All()})
	counts(t, "dropped", x, 1)
}

// P13.1: nothing is there at first.
func TestNew(t *testing.T) {
	for _, r := range rooms {
		x := New(r.asked)
		if x == nil {
			t.Fatalf("New(%d) = nil", r.asked)
		}
		counts(t, "new", x, 0)
		for _, pcid := range pcids {
			for _, a := range []uint64{0, one, all64, 1 << 47, 1 << 63} {
				lost(t, "new", x, pcid, a)
			}
		}
	}
}

// P13.1: as many lines are kept as there is room for, those of all levels together; in a full one the oldest goes by the pick 0.
func TestRoom(t *testing.T) {
	for _, r := range rooms {
		x := New(r.asked)
		for n := range 100 {
			level := n%3 + 1
			put(x, 7, uint64(n)<<30, level, n)
			counts(t, "filled", x, min(n+1, r.room))
			for i := range n + 1 {
				if i > n-r.room {
					found(t, "there", x, 7, uint64(i)<<30, told(i%3+1, i))
				} else {
					lost(t, "gone", x, 7, uint64(i)<<30)
				}
			}
		}
	}
	for level := 1; level <= 3; level++ {
		for _, r := range rooms {
			x := New(r.asked)
			for n := range 70 {
				put(x, 7, uint64(n)<<30, level, n)
			}
			counts(t, "one level alone", x, r.room)
		}
	}
}

// put lays a line of a level over an address with the pick 0, and told is what is found of its first page then, both by a number.
func put(x *Tlb, pcid int, a uint64, level, n int) {
	if level == 1 {
		x.Small(pcid, a, runOf(uint64(n)<<15, 255), 0)
		return
	}
	x.Great(pcid, a, greatOf(uint64(n)<<15, level), 0)
}

func told(level, n int) Hit {
	if level == 1 {
		return hitOf(uint64(n) << 15)
	}
	return greatOf(uint64(n)<<15, level)
}

// P13.1, P13.2: without any room nothing is kept, and nothing else happens.
func TestNoRoom(t *testing.T) {
	for _, room := range []int{0, -1, -64, math.MinInt} {
		for _, pick := range picks {
			x := New(room)
			x.Small(0, one, runOf(0, 255), pick)
			x.Great(0, one, greatOf(0, 2), pick)
			x.Great(0, one, greatOf(0, 3), pick)
			x.Evict(pick)
			x.DropPage(0, one)
			x.DropOf(0)
			x.Clear()
			counts(t, "no room", x, 0)
			lost(t, "no room", x, 0, one)
		}
	}
}

// P13.1: room for one: each new line lets the one ahead of it be gone, whatever its level, and whatever is picked.
func TestRoomForOne(t *testing.T) {
	for _, pick := range picks {
		x := New(1)
		x.Small(1, one, runOf(0x8000, 255), pick)
		found(t, "1", x, 1, one, hitOf(0xA000))
		x.Great(1, one, greatOf(0x200000, 2), pick)
		found(t, "2", x, 1, one, greatOf(0x200000, 2))
		x.Great(1, one, greatOf(1<<30, 3), pick)
		found(t, "3", x, 1, one, greatOf(1<<30, 3))
		x.Small(1, one, runOf(0x10000, 1), pick)
		lost(t, "the run hasn't the page", x, 1, one)
		counts(t, "room for one", x, 1)
	}
}

// P13.1: of the levels of which there are lines the first one that has the page tells it; the run may be there and not have it. Of all ways, whatever the order in which they came.
func TestLevels(t *testing.T) {
	for i := range 16 { // of the run: none, one without the page, one with it alone, one with all
		mask := []uint8{0, 255 - 4, 4, 255}[i/4]
		for way := range 6 {
			order := [][3]int{{1, 2, 3}, {1, 3, 2}, {2, 1, 3}, {2, 3, 1}, {3, 1, 2}, {3, 2, 1}}[way]
			x := New(3)
			for _, level := range order {
				switch {
				case level == 1:
					x.Small(9, one, runOf(0x40000, mask), 0)
				case level == 2 && i/2%2 == 1, level == 3 && i%2 == 1:
					x.Great(9, one, greatOf(uint64(level)<<32, level), 0)
				}
			}
			switch {
			case mask == 4, mask == 255:
				found(t, "the run", x, 9, one, hitOf(0x42000))
			case i/2%2 == 1:
				found(t, "the level 2", x, 9, one, greatOf(2<<32, 2))
			case i%2 == 1:
				found(t, "the level 3", x, 9, one, greatOf(3<<32, 3))
			default:
				lost(t, "none", x, 9, one)
			}
		}
	}
}

// P13.1: each of the eight pages of a run is told the frame that it has, and nothing is told of another one; by all masks, and from the first byte of a page to its last one.
func TestRuns(t *testing.T) {
	lows := []uint64{0, 1, 7, 8, 0x7FF, 0x800, 0xFF8, 0xFFE, 0xFFF}
	for _, first := range []uint64{0, 0x8000, 0x5000, one / 32768 * 32768, power(47) - 32768, power(47), minus(power(47)), minus(32768)} {
		base := first / 32768 * 32768
		for mask := range 256 {
			x := New(1)
			x.Small(2, first, runOf(first, uint8(mask)), 0)
			for i := range uint64(8) {
				for _, low := range lows {
					a := base + i*4096 + low
					if is(uint64(mask), int(i)) {
						found(t, "run", x, 2, a, hitOf(first+i*4096))
					} else {
						lost(t, "run", x, 2, a)
					}
				}
			}
			lost(t, "ahead", x, 2, base-1)
			lost(t, "behind", x, 2, base+32768)
		}
	}
}

// P13.1: frames as figures: what group.Has tells goes round at 2^64.
func TestFrames(t *testing.T) {
	for _, c := range []struct {
		frame uint64
		page  uint64
		want  uint64
	}{
		{0, 0, 0}, {0, 1, 0x1000}, {0, 7, 0x7000}, {0x9000, 0, 0x9000}, {0x9000, 3, 0xC000}, {0x9123, 2, 0xB123}, {0x3FF000, 1, 0x400000},
		{minus(0x7000), 7, 0}, {minus(0x6000), 7, 0x1000}, {minus(0x1000), 1, 0}, {minus(0x1000), 0, minus(0x1000)}, {minus(1), 1, 0xFFF}, {power(63), 5, power(63) + 0x5000}, {0xFFFFFFFFFF000, 7, 0x10000000006000},
	} {
		x := New(1)
		x.Small(1, 0x18000+c.page*4096+0x77, runOf(c.frame, uint8(power(int(c.page)))), 0)
		found(t, "figure", x, 1, 0x18000+c.page*4096, hitOf(c.want))
	}
	for _, frame := range []uint64{0, 1, 0x123, 0x1000, 0x200000, 0x1FFFFF, power(30), power(51), power(63), minus(1), minus(0x1000)} { // a great one's is told as it was put
		for _, level := range []int{2, 3} {
			x := New(1)
			x.Great(1, one, greatOf(frame, level), 0)
			found(t, "great", x, 1, one, greatOf(frame, level))
			found(t, "great, the first byte", x, 1, one/power(9*level+3)*power(9*level+3), greatOf(frame, level))
		}
	}
}

// P13.1: a great page is found from its first byte to its last one, and not beside them.
func TestGreatPages(t *testing.T) {
	for _, c := range []struct {
		level int
		size  uint64
	}{{2, 0x200000}, {3, 0x40000000}} {
		for _, first := range []uint64{0, c.size, 2 * c.size, 5 * power(39), power(47) - c.size, power(47), minus(power(47)), minus(c.size)} {
			want := greatOf(first+7*c.size, c.level)
			for _, by := range []uint64{0, 1, 0x1000, 0x8000, 0x1FFFFF, c.size / 2, c.size - 4096, c.size - 1} {
				x := New(1)
				x.Great(4, first+by, want, 0) // put by any address in it
				for _, at := range []uint64{0, 1, 0xFFF, 0x1000, 0x7FFF, 0x8000, 0x1FF000, 0x1FFFFF, c.size / 2, c.size/2 + 1, c.size - 4096, c.size - 1} {
					found(t, "in it", x, 4, first+at, want)
				}
				lost(t, "ahead", x, 4, first-1)
				lost(t, "behind", x, 4, first+c.size)
			}
		}
	}
}

// P13.1, P13.2: rights and Dirty are told as the line has them, of each level.
func TestRights(t *testing.T) {
	for i := range 8 {
		for _, dirty := range []bool{false, true} {
			x := New(3)
			x.Small(0, 0, cache.Line{Right: rightOf(i), Dirty: dirty, Mask: 2}, 0)
			x.Great(0, power(30), Hit{Level: 2, Right: rightOf(i), Dirty: dirty}, 0)
			x.Great(0, power(31), Hit{Level: 3, Right: rightOf(i), Dirty: dirty}, 0)
			found(t, "1", x, 0, 0x1000, Hit{0x1000, 1, rightOf(i), dirty})
			found(t, "2", x, 0, power(30), Hit{0, 2, rightOf(i), dirty})
			found(t, "3", x, 0, power(31), Hit{0, 3, rightOf(i), dirty})
			x.DropPage(0, 0)
			found(t, "a page beside is gone", x, 0, 0x1000, Hit{0x1000, 1, rightOf(i), dirty})
		}
	}
}

// P13.1, P13.2: which bits of an address a key tells: those below what it is taken by play no part, all others up to bit 63 do; of a run's page bits 12 to 14 tell which.
func TestEachBit(t *testing.T) {
	for level, from := range map[int]int{1: 15, 2: 21, 3: 30} {
		for _, a := range []uint64{0, one, all64, power(47), minus(power(47)), power(63)} {
			for bit := range 64 {
				b := a ^ power(bit)
				x := New(2)
				put(x, 1, a, level, 3)
				want := told(level, 3)
				if level == 1 {
					for range pageOf(b) {
						want.Frame += 4096
					}
				}
				if bit < from {
					found(t, "below", x, 1, b, want)
				} else {
					lost(t, "above", x, 1, b)
				}
				put(x, 1, b, level, 4)
				if bit < from {
					counts(t, "the same key", x, 1)
				} else {
					counts(t, "two keys", x, 2)
					want := told(level, 3)
					if level == 1 {
						for range pageOf(a) {
							want.Frame += 4096
						}
					}
					found(t, "the first one as it was", x, 1, a, want)
				}
			}
		}
	}
}

// P13.1, P13.3: of two neighbours of a level each is found, and dropped, by itself.
func TestNeighbours(t *testing.T) {
	for level, size := range map[int]uint64{1: 0x8000, 2: 0x200000, 3: 0x40000000} {
		for _, a := range []uint64{0, power(39) - size, power(39), power(47) - size, minus(power(47)), minus(size)} { // behind the last one the first one, at 0
			x := New(2)
			put(x, 1, a, level, 1)
			put(x, 1, a+size, level, 2)
			found(t, "the one", x, 1, a, told(level, 1))
			found(t, "the other", x, 1, a+size, told(level, 2))
			x.DropPage(1, a)
			lost(t, "dropped", x, 1, a)
			found(t, "not dropped", x, 1, a+size, told(level, 2))
		}
	}
}

// P13.1: lines of other levels by the same number are others: keys have their level.
func TestNumbersOfLevels(t *testing.T) {
	for _, n := range []uint64{0, 1, 5, 511} {
		x := New(3)
		x.Small(1, n*0x8000, runOf(0x8000, 1), 0)
		x.Great(1, n*0x200000, greatOf(0x200000, 2), 0)
		x.Great(1, n*0x40000000, greatOf(0x40000000, 3), 0)
		counts(t, "three", x, 3)
		found(t, "1", x, 1, n*0x8000, hitOf(0x8000))
		if n > 0 {
			found(t, "2", x, 1, n*0x200000, greatOf(0x200000, 2))
			found(t, "3", x, 1, n*0x40000000, greatOf(0x40000000, 3))
		}
	}
}

// P13.1, P13.2: what is put for a PCID is found by it alone; PCIDs aren't cut.
func TestPcids(t *testing.T) {
	for level := 1; level <= 3; level++ {
		for i, p := range pcids {
			for k, q := range pcids {
				x := New(2)
				put(x, p, one, level, i)
				if p == q {
					continue
				}
				lost(t, "another's", x, q, one/power(15)*power(15))
				put(x, q, one, level, k)
				counts(t, "of two", x, 2)
				found(t, "the one's", x, p, one/power(15)*power(15), told(level, i))
				found(t, "the other's", x, q, one/power(15)*power(15), told(level, k))
				x.DropPage(q, one/power(15)*power(15))
				lost(t, "dropped", x, q, one/power(15)*power(15))
				found(t, "not dropped", x, p, one/power(15)*power(15), told(level, i))
			}
		}
	}
}

// P13.2: a line without any page isn't put: nothing is picked for it, and what is at that key stays.
func TestSmallOfNone(t *testing.T) {
	for _, pick := range picks {
		for _, l := range []cache.Line{{}, {Frame: 0x5000}, {Right: right.All()}, {Dirty: true}, {Frame: all64, Right: right.All(), Dirty: true}} {
			x := New(2)
			x.Small(1, one, l, pick)
			counts(t, "empty", x, 0)
			x.Small(1, one, runOf(0x8000, 4), pick)
			x.Great(1, one, greatOf(0x200000, 2), pick)
			x.Small(1, one, l, pick)
			x.Small(1, one+0x8000, l, pick)
			x.Small(2, one, l, pick)
			counts(t, "full", x, 2)
			found(t, "full", x, 1, one, hitOf(0xA000))
			x.DropPage(2, one)
			found(t, "beside", x, 1, one-0x1000, greatOf(0x200000, 2))
		}
	}
}

// P13.2: all masks, over each other: the one that was put last is there, with its frame, rights and Dirty, and nothing of the one ahead of it.
func TestSmallOver(t *testing.T) {
	for i := range 256 {
		for _, k := range []int{1, 2, 0x80, 255 - i, 255, i ^ 0x10} {
			x, b := New(2), &book{room: 2}
			for n, mask := range []int{i, k} {
				l := cache.Line{Frame: uint64(n+1) << 20, Right: rightOf(i + n), Dirty: n == i%2, Mask: uint8(mask)}
				x.Small(1, one, l, 1)
				b.small(1, one, l, 1)
			}
			same(t, "over", x, b, []int{1, 2}, pagesOf(one))
		}
	}
}

// pagesOf are addresses in each page of an address's run.
func pagesOf(a uint64) []uint64 {
	var list []uint64
	for i := range uint64(8) {
		list = append(list, a/32768*32768+i*4096+a%4096)
	}
	return list
}

// P13.2: a line at a key at which there is one is put in its place: nothing is picked, and its turn is the same.
func TestInPlace(t *testing.T) {
	for level := 1; level <= 3; level++ {
		for n := range 4 { // which of four is put again
			for _, pick := range picks {
				x, b := New(4), &book{room: 4}
				fill := func(i, as, pick int) {
					a := uint64(i) << 30
					if level == 1 {
						x.Small(1, a, runOf(uint64(as)<<15, 255), pick)
						b.small(1, a, runOf(uint64(as)<<15, 255), pick)
						return
					}
					x.Great(1, a, greatOf(uint64(as)<<15, level), pick)
					b.great(1, a, greatOf(uint64(as)<<15, level), pick)
				}
				for i := range 4 {
					fill(i, i, 0)
				}
				fill(n, 9, pick)
				addresses := []uint64{0, 1 << 30, 2 << 30, 3 << 30, 4 << 30}
				for i := range 4 {
					found(t, "again", x, 1, uint64(i)<<30, told(level, map[bool]int{true: 9, false: i}[i == n]))
				}
				fill(4, 4, pick)
				same(t, "picked then", x, b, []int{1}, addresses)
				for range 4 {
					x.Evict(0)
					b.evict(0)
					same(t, "the oldest", x, b, []int{1}, addresses)
				}
			}
		}
	}
}

// P13.2: which line is gone of a full Tlb, by each pick: those of all levels are in one row.
func TestPicks(t *testing.T) {
	for _, c := range []struct{ pick, gone int }{
		{0, 0}, {1, 1}, {2, 2}, {3, 0}, {4, 1}, {5, 2}, {-1, 2}, {-2, 1}, {-3, 0}, {-4, 2}, {300, 0}, {-300, 0}, {301, 1}, {-301, 2},
		{math.MaxInt, 1}, {math.MaxInt - 1, 0}, {math.MinInt, 1}, {math.MinInt + 1, 2}, // 2^63 is 2 modulo 3
	} {
		for level := 1; level <= 3; level++ {
			x := New(3)
			for i := range 3 {
				put(x, 1, uint64(i)<<30, i+1, i)
			}
			if level == 1 {
				x.Small(1, 3<<30, runOf(3<<15, 255), c.pick)
			} else {
				x.Great(1, 3<<30, greatOf(3<<15, level), c.pick)
			}
			counts(t, "picked", x, 3)
			found(t, "put", x, 1, 3<<30, told(level, 3))
			for i := range 3 {
				if i == c.gone {
					lost(t, "picked", x, 1, uint64(i)<<30)
				} else {
					found(t, "not picked", x, 1, uint64(i)<<30, told(i+1, i))
				}
			}
		}
		x := New(5) // room is left: nothing is picked; then by Evict
		for i := range 3 {
			put(x, 1, uint64(i)<<30, i+1, i)
		}
		x.Evict(c.pick)
		counts(t, "evicted", x, 2)
		for i := range 3 {
			if i == c.gone {
				lost(t, "evicted", x, 1, uint64(i)<<30)
			} else {
				found(t, "not evicted", x, 1, uint64(i)<<30, told(i+1, i))
			}
		}
	}
}

// P13.2: Great of levels that are none puts nothing, picks nothing, and leaves what is there.
func TestGreatOfNoLevel(t *testing.T) {
	for _, level := range noGreat {
		for _, pick := range []int{0, 1, -1, math.MaxInt, math.MinInt} {
			x := New(3)
			x.Great(1, one, greatOf(0x200000, level), pick)
			counts(t, "empty", x, 0)
			lost(t, "empty", x, 1, one)
			x.Small(1, one, runOf(0x8000, 4), pick)
			x.Great(1, one, greatOf(0x200000, 2), pick)
			x.Great(1, one, greatOf(1<<30, 3), pick)
			x.Great(1, one, greatOf(0x5000000, level), pick)
			x.Great(1, one+power(30), greatOf(0x5000000, level), pick)
			counts(t, "full", x, 3)
			found(t, "1", x, 1, one, hitOf(0xA000))
			found(t, "2", x, 1, one+0x1000, greatOf(0x200000, 2))
			found(t, "3", x, 1, one+0x200000, greatOf(1<<30, 3))
			lost(t, "behind", x, 1, one+power(30))
		}
	}
}

// P13.2: a great page's line has no mask: over it a run's page is told first, and it lies in no run itself.
func TestGreatIsNoRun(t *testing.T) {
	x := New(3)
	x.Great(1, 0, greatOf(0x200000, 2), 0)
	for _, a := range []uint64{0, 0x1000, 0x7000, 0x8000} {
		found(t, "no run", x, 1, a, greatOf(0x200000, 2))
	}
	x.Small(1, 0, runOf(0x40000, 2), 0)
	found(t, "the run", x, 1, 0x1000, hitOf(0x41000))
	found(t, "beside", x, 1, 0, greatOf(0x200000, 2))
	if l, is := x.lines.Get(cache.Key{Pcid: 1, Level: 2}); !is || l != (cache.Line{Frame: 0x200000, Right: right.Right{U: true}}) {
		t.Errorf("its line: %+v, %v", l, is)
	}
}

// P13.3: of all masks each page is dropped: one that the run has, one that it hasn't, and the last one that it has.
func TestDropPage(t *testing.T) {
	for mask := range 256 {
		for i, a := range pagesOf(one) {
			x, b := New(4), &book{room: 4}
			x.Small(1, one, runOf(0x40000, uint8(mask)), 0)
			b.small(1, one, runOf(0x40000, uint8(mask)), 0)
			x.DropPage(1, a)
			left := mask
			if is(uint64(mask), i) {
				left -= int(power(i))
			}
			if left == 0 {
				counts(t, "the last one", x, 0)
			} else {
				counts(t, "others are left", x, 1)
			}
			for k, at := range pagesOf(one) {
				if is(uint64(left), k) {
					found(t, "left", x, 1, at, hitOf(0x40000+uint64(k)*4096))
				} else {
					lost(t, "gone", x, 1, at)
				}
			}
			b.dropPage(1, a)
			same(t, "dropped", x, b, []int{1}, pagesOf(one))
			x.DropPage(1, a)
			same(t, "again", x, b, []int{1}, pagesOf(one))
		}
	}
}

// P13.3: all eight are dropped one by one, in any order: the line is gone with the last one, and no sooner.
func TestDropAllPages(t *testing.T) {
	n := numbers(5)
	for range 200 {
		x, pages := New(1), pagesOf(one)
		x.Small(1, one, runOf(0x40000, 255), 0)
		for i := range pages {
			k := i + n.below(len(pages)-i)
			pages[i], pages[k] = pages[k], pages[i]
			counts(t, "pages are left", x, 1)
			found(t, "left", x, 1, pages[i], hitOf(0x40000+uint64(pageOf(pages[i]))*4096))
			x.DropPage(1, pages[i])
			lost(t, "dropped", x, 1, pages[i])
		}
		counts(t, "none is left", x, 0)
	}
}

// P13.3: a run whose frame is 0, without rights and not dirty, is gone with its last page alone.
func TestDropPageOfZeros(t *testing.T) {
	x := New(1)
	x.Small(0, 0, cache.Line{Mask: 0x81}, 0)
	x.DropPage(0, 0)
	counts(t, "one is left", x, 1)
	found(t, "one is left", x, 0, 0x7000, Hit{Frame: 0x7000, Level: 1})
	x.DropPage(0, 0x7FFF)
	counts(t, "none", x, 0)
}

// P13.3: below great pages: of each way of the levels all lines at the address's keys are gone, but a run's other pages.
func TestDropPageOfLevels(t *testing.T) {
	for i := range 16 {
		mask := []uint8{0, 255 - 4, 4, 255}[i/4]
		x := New(6)
		x.Small(1, one, runOf(0x40000, mask), 0)
		if i/2%2 == 1 {
			x.Great(1, one, greatOf(2<<32, 2), 0)
		}
		if i%2 == 1 {
			x.Great(1, one, greatOf(3<<32, 3), 0)
		}
		x.Small(1, one+0x8000, runOf(0x80000, 255), 0) // others beside, that stay
		x.Great(1, one+0x200000, greatOf(5<<32, 2), 0)
		x.Great(1, one+0x40000000, greatOf(6<<32, 3), 0)
		x.DropPage(1, one)
		want := 3
		if mask > 4 {
			want++
		}
		counts(t, "dropped", x, want)
		for k, a := range pagesOf(one) {
			if k != 2 && mask > 4 {
				found(t, "another page", x, 1, a, hitOf(0x40000+uint64(k)*4096))
			} else {
				lost(t, "dropped", x, 1, a)
			}
		}
		found(t, "the run beside", x, 1, one+0x8000, hitOf(0x82000))
		found(t, "the level 2 beside", x, 1, one+0x200000, greatOf(5<<32, 2))
		found(t, "the level 3 beside", x, 1, one+0x40000000, greatOf(6<<32, 3))
		lost(t, "elsewhere in the page of the level 2", x, 1, one+0x10000)
		lost(t, "elsewhere in the page of the level 3", x, 1, one+0x400000)
	}
}

// P13.3: a great page is gone by any address in it, from its first byte to its last one, and by none beside it.
func TestDropGreat(t *testing.T) {
	for level, size := range map[int]uint64{2: 0x200000, 3: 0x40000000} {
		for _, first := range []uint64{0, 3 * size, power(47), minus(size)} {
			for _, at := range []uint64{0, 1, 0xFFF, 0x1000, 0x8000, size / 2, size - 0x1000, size - 1} {
				x := New(1)
				x.Great(1, first, greatOf(size, level), 0)
				x.DropPage(1, first-1)
				x.DropPage(1, first+size)
				x.DropPage(2, first)
				found(t, "beside", x, 1, first+at, greatOf(size, level))
				x.DropPage(1, first+at)
				counts(t, "in it", x, 0)
			}
		}
	}
}

// P13.3: a run that a page is taken from stays in its place: what is picked then is the same line as if it hadn't been.
func TestDropPageInPlace(t *testing.T) {
	for n := range 4 { // whose page is dropped
		for gone := range 4 {
			x := New(4)
			for i := range 4 {
				x.Small(1, uint64(i)<<15, runOf(uint64(i)<<20, 255), 0)
			}
			x.DropPage(1, uint64(n)<<15+0x3000)
			lost(t, "dropped", x, 1, uint64(n)<<15+0x3000)
			counts(t, "in its place", x, 4)
			if gone%2 == 0 {
				x.Evict(gone)
			} else {
				x.Great(1, 1<<40, greatOf(0, 2), gone)
			}
			for i := range 4 {
				if i == gone {
					lost(t, "picked", x, 1, uint64(i)<<15)
				} else {
					found(t, "not picked", x, 1, uint64(i)<<15, hitOf(uint64(i)<<20))
				}
			}
		}
	}
}

// P13.3: where there is nothing of the page, nothing is gone.
func TestDropNothing(t *testing.T) {
	x, b := New(4), &book{room: 4}
	x.DropPage(1, one)
	x.DropOf(1)
	x.Clear()
	counts(t, "empty", x, 0)
	for i := range 3 {
		put(x, 1, one, i+1, i)
		l := told(i+1, i)
		if i == 0 {
			b.small(1, one, runOf(0, 255), 0)
		} else {
			b.great(1, one, l, 0)
		}
	}
	list := append(pagesOf(one), one+0x200000, one+0x8000)
	for _, pcid := range pcids {
		if pcid != 1 {
			x.DropPage(pcid, one)
			x.DropOf(pcid)
		}
	}
	for _, a := range []uint64{one + power(30), one ^ power(39), one ^ power(47), one ^ power(48), one ^ power(63), 0, all64} {
		x.DropPage(1, a)
	}
	same(t, "others", x, b, []int{1}, list)
}

// P13.3: of a PCID all lines of all levels are gone, and no other ones.
func TestDropOf(t *testing.T) {
	for _, gone := range pcids {
		x := New(64)
		for i, p := range pcids {
			for level := 1; level <= 3; level++ {
				put(x, p, uint64(level)<<31, level, i)
			}
		}
		counts(t, "all", x, 3*len(pcids))
		x.DropOf(gone)
		counts(t, "dropped", x, 3*len(pcids)-3)
		for i, p := range pcids {
			for level := 1; level <= 3; level++ {
				if p == gone {
					lost(t, "dropped", x, p, uint64(level)<<31)
				} else {
					found(t, "others", x, p, uint64(level)<<31, told(level, i))
				}
			}
		}
	}
}

// P13.3: cleared, nothing is there, and there is all the room again.
func TestClear(t *testing.T) {
	for _, r := range rooms {
		x := New(r.asked)
		for range 3 {
			for n := range 70 {
				put(x, n%3, uint64(n)<<30, n%3+1, n)
			}
			counts(t, "full", x, r.room)
			x.Clear()
			counts(t, "cleared", x, 0)
			for n := range 70 {
				lost(t, "cleared", x, n%3, uint64(n)<<30)
			}
			x.Clear()
			counts(t, "again", x, 0)
		}
	}
}

// P13.3: one by one all are evicted; of none, nothing.
func TestEvict(t *testing.T) {
	for _, pick := range picks {
		x, b := New(6), &book{room: 6}
		var addresses []uint64
		for i := range 6 {
			a := uint64(i) << 31
			addresses = append(addresses, a)
			if i%3 == 0 {
				x.Small(1, a, runOf(a, 1), 0)
				b.small(1, a, runOf(a, 1), 0)
			} else {
				x.Great(1, a, greatOf(a, i%3+1), 0)
				b.great(1, a, greatOf(a, i%3+1), 0)
			}
		}
		for i := range 8 {
			x.Evict(pick)
			b.evict(pick)
			counts(t, "evicted", x, max(5-i, 0))
			same(t, "evicted", x, b, []int{1}, addresses)
		}
	}
}

// P13.3: Len is how many lines there are: eight pages are one, of two runs two, of each level one.
func TestLen(t *testing.T) {
	x := New(64)
	for i, a := range pagesOf(one) {
		x.Small(1, a, runOf(0, uint8(power(i))), 0)
		counts(t, "one run", x, 1)
	}
	x.Small(1, one+0x8000, runOf(0, 255), 0)
	counts(t, "two runs", x, 2)
	x.Great(1, one, greatOf(0, 2), 0)
	counts(t, "and the level 2", x, 3)
	x.Great(1, one, greatOf(0, 3), 0)
	counts(t, "and the level 3", x, 4)
	x.Great(2, one, greatOf(0, 3), 0)
	counts(t, "and another's", x, 5)
	x.Look(1, one)
	x.Look(5, one)
	counts(t, "looked at", x, 5)
}

// P13.1: who looks changes nothing: neither what is there, nor whose turn it is.
func TestLooking(t *testing.T) {
	for gone := range 3 {
		x := New(3)
		for i := range 3 {
			put(x, 1, uint64(i)<<30, i+1, i)
		}
		for k := range 20 {
			x.Look(1, uint64(k%5)<<30)
			x.Look(k, one)
		}
		x.Great(1, 9<<30, greatOf(0, 3), gone)
		for i := range 3 {
			if i == gone {
				lost(t, "picked", x, 1, uint64(i)<<30)
			} else {
				found(t, "looked at", x, 1, uint64(i)<<30, told(i+1, i))
			}
		}
	}
}

// P13.3: a Tlb that is nil has nothing, whatever is called.
func TestNil(t *testing.T) {
	var x *Tlb
	for _, pick := range picks {
		for _, a := range []uint64{0, one, all64, power(47), uint64(pick)} {
			for _, mask := range []uint8{0, 1, 255} {
				x.Small(pick, a, runOf(a, mask), pick)
			}
			for _, level := range append([]int{2, 3}, noGreat...) {
				x.Great(pick, a, greatOf(a, level), pick)
			}
			if h, is := x.Look(pick, a); is || h != (Hit{}) {
				t.Fatalf("Look(%d, %#x) = %+v, %v", pick, a, h, is)
			}
			x.DropPage(pick, a)
		}
		x.DropOf(pick)
		x.Clear()
		x.Evict(pick)
		if n := x.Len(); n != 0 {
			t.Fatalf("Len = %d", n)
		}
	}
	if x != nil {
		t.Error("it is there then")
	}
}

// P1: a zero Tlb isn't asked anything (R5), but no call of it panics.
func TestZero(t *testing.T) {
	x := &Tlb{}
	x.Small(1, one, runOf(0, 255), 1)
	x.Great(1, one, greatOf(0, 2), 1)
	x.Look(1, one)
	x.DropPage(1, one)
	x.DropOf(1)
	x.Clear()
	x.Evict(1)
	x.Len()
}

// R3, R4: what one keeps no other one has.
func TestApart(t *testing.T) {
	x, y := New(2), New(2)
	x.Small(1, one, runOf(0x8000, 255), 0)
	lost(t, "apart", y, 1, one)
	y.Great(1, one, greatOf(0, 2), 0)
	y.Clear()
	found(t, "apart", x, 1, one, hitOf(0xA000))
}

// some are addresses of few keys: in the same runs, great pages and greater ones, and beside each of them; canonical ones and such as aren't.
func some() []uint64 {
	var list []uint64
	for _, high := range []uint64{0, 1 << 30, 0xFFFF800000000000, 0x10000 << 32} {
		for _, middle := range []uint64{0, 0x200000, 0x3FE00000} {
			for _, low := range []uint64{0, 0x1FFF, 0x7000, 0x8123, 0x1FF000} {
				list = append(list, high+middle+low)
			}
		}
	}
	return list
}

// move does one call on both, and says which.
func move(n *numbers, x *Tlb, b *book, pcids []int, addresses []uint64) string {
	pcid, a, pick := pcids[n.below(len(pcids))], addresses[n.below(len(addresses))], n.pick()
	switch k := n.below(64); {
	case k < 24:
		l := cache.Line{Frame: n.next(), Right: rightOf(n.below(8)), Dirty: n.below(2) == 0, Mask: uint8(n.next())}
		if n.below(3) == 0 {
			l.Mask = uint8(power(n.below(8)))
		}
		if n.below(8) == 0 {
			l = cache.Line{Mask: uint8(n.below(3))}
		}
		x.Small(pcid, a, l, pick)
		b.small(pcid, a, l, pick)
		return "Small"
	case k < 40:
		h := Hit{Frame: n.next(), Level: 2 + n.below(2), Right: rightOf(n.below(8)), Dirty: n.below(2) == 0}
		if n.below(8) == 0 {
			h.Level = noGreat[n.below(len(noGreat))]
		}
		x.Great(pcid, a, h, pick)
		b.great(pcid, a, h, pick)
		return "Great"
	case k < 56:
		x.DropPage(pcid, a)
		b.dropPage(pcid, a)
		return "DropPage"
	case k < 61:
		x.Evict(pick)
		b.evict(pick)
		return "Evict"
	case k < 63:
		x.DropOf(pcid)
		b.drop(func(e entry) bool { return e.pcid == pcid })
		return "DropOf"
	}
	if n.below(4) == 0 {
		x.Clear()
		b.row = nil
	}
	return "Clear"
}

// P13.1 to P13.4: long rows of mixed calls, in rooms of all sizes, are what the document says.
func TestMixed(t *testing.T) {
	addresses, few := some(), []int{0, 1, 4095, -1}
	for _, r := range rooms {
		n := numbers(r.asked)
		x, b := New(r.asked), &book{room: r.room}
		full := 0
		for range 1500 {
			what := move(&n, x, b, few, addresses)
			same(t, what, x, b, few, addresses)
			if len(b.row) == r.room {
				full++
			}
		}
		if r.room < 8 && full < 100 {
			t.Errorf("a room for %d was full %d times: little is told of what is picked", r.room, full)
		}
	}
}

// page is a page of somebody, whatever its size: where it begins.
type page struct {
	pcid  int
	begin uint64
}

// P13.4: what was put is found, for each page that it has, and for no other one, until it is dropped; dropped, it isn't found, and all others are, as they were. Told by pages alone: there is room for all, so that nothing is picked, and no page lies in two lines.
func TestUntilDropped(t *testing.T) {
	for seed := range 60 {
		n := numbers(seed)
		x := New(64)
		there := map[page]Hit{}
		size := map[page]uint64{}
		for i := range 64 {
			p := page{n.below(3), uint64(i)<<30 + uint64(n.below(2))*0xFFFF000000000000}
			switch level := 1 + n.below(3); level {
			case 1:
				l := cache.Line{Frame: n.next() / 32768 * 32768, Right: rightOf(n.below(8)), Dirty: n.below(2) == 0, Mask: uint8(1 + n.below(255))}
				x.Small(p.pcid, p.begin+n.next()%32768, l, n.pick())
				for k := range 8 {
					if is(uint64(l.Mask), k) {
						at := page{p.pcid, p.begin + uint64(k)*4096}
						there[at], size[at] = Hit{l.Frame + uint64(k)*4096, 1, l.Right, l.Dirty}, 4096
					}
				}
			default:
				bytes := map[int]uint64{2: 0x200000, 3: 0x40000000}[level]
				h := Hit{n.next() / bytes * bytes, level, rightOf(n.below(8)), n.below(2) == 0}
				x.Great(p.pcid, p.begin+n.next()%bytes, h, n.pick())
				there[p], size[p] = h, bytes
			}
		}
		pages := slices.SortedFunc(maps.Keys(there), func(p, q page) int { return cmp.Compare(p.begin, q.begin) })
		for len(there) > 8 {
			for range 5 {
				k := n.below(len(pages))
				p := pages[k]
				x.DropPage(p.pcid, p.begin+n.next()%size[p])
				delete(there, p)
			}
			for _, p := range pages {
				want, is := there[p]
				for _, at := range []uint64{0, n.next() % size[p], size[p] - 1} {
					h, got := x.Look(p.pcid, p.begin+at)
					if h != want || got != is {
						t.Fatalf("the page %+v, %#x behind: %+v, %v, not %+v, %v", p, at, h, got, want, is)
					}
					lost(t, "another's", x, p.pcid+3, p.begin+at)
				}
			}
		}
	}
}

// P13.4: with room for a few, what isn't found was picked: each put takes one line at most, and what is found is as it was put last.
func TestUntilPicked(t *testing.T) {
	for room := 1; room <= 8; room++ {
		n := numbers(room)
		x := New(room)
		last := map[uint64]Hit{}
		there := 0
		for range 2000 {
			a := uint64(n.below(20)) << 30
			_, had := x.Look(1, a)
			h := Hit{n.next() / 4096 * 4096, 1, rightOf(n.below(8)), n.below(2) == 0}
			before := howMany(x, 20)
			x.Small(1, a, cache.Line{Frame: h.Frame, Right: h.Right, Dirty: h.Dirty, Mask: 1}, n.pick())
			last[a] = h
			there = howMany(x, 20)
			switch {
			case had && there != before, !had && before < room && there != before+1, !had && before == room && there != room:
				t.Fatalf("room for %d: %d are found, of %d ahead, and it was there: %v", room, there, before, had)
			}
			for i := range uint64(20) {
				if got, is := x.Look(1, i<<30); is && got != last[i<<30] {
					t.Fatalf("%#x: %+v, not %+v", i<<30, got, last[i<<30])
				}
			}
			found(t, "put", x, 1, a, h)
		}
		if there != room {
			t.Errorf("room for %d: %d are there", room, there)
		}
	}
}

// howMany is how many of the first n are found.
func howMany(x *Tlb, n int) int {
	sum := 0
	for i := range uint64(n) {
		if _, is := x.Look(1, i<<30); is {
			sum++
		}
	}
	return sum
}
