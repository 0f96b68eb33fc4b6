package entry

import (
	"math"
	"testing"

	"dormer/api"
	"dormer/va"
)

const all = math.MaxUint64

// noLevels are numbers that are no level, some of which would be one if they were cut to fewer bits.
var noLevels = []int{0, -1, -2, -3, -4, -64, 5, 6, 7, 8, 9, 10, 12, 63, 64, 256 + 1, 256 + 2, 256 + 3, 256 + 4, 1<<16 + 2, 1<<32 + 1, 1<<32 + 2, 1<<32 + 3, 1<<32 + 4,
	-1<<32 + 1, -1<<32 + 4, 1 << 62, 1<<62 + 2, -1 << 62, math.MaxInt, math.MaxInt - 1, math.MinInt, math.MinInt + 1, math.MinInt + 2, math.MinInt + 3, math.MinInt + 4}

// fewBits and manyBits are numbers of an address's bits that are taken as 12 and as 52.
var (
	fewBits  = []int{11, 10, 7, 5, 1, 0, -1, -11, -12, -40, -51, -52, -53, -64, -1 << 31, -1 << 32, -1<<32 + 20, -1 << 62, math.MinInt, math.MinInt + 1, math.MinInt + 12, math.MinInt + 52, math.MinInt + 53}
	manyBits = []int{53, 54, 62, 63, 64, 65, 76, 100, 128, 256 + 12, 1 << 20, 1<<31 - 1, 1 << 31, 1 << 32, 1<<32 + 12, 1<<32 + 20, 1 << 62, math.MaxInt, math.MaxInt - 1, math.MaxInt - 12, math.MaxInt - 52}
)

// power is two to the i, made by doubling alone: what is tested shifts.
func power(i int) uint64 {
	p := uint64(1)
	for range i {
		p += p
	}
	return p
}

// bit is whether the bit i of x is 1, by division alone.
func bit(x uint64, i int) bool { return x/power(i)%2 == 1 }

// kept is x without its bits below from and above to, as a sum.
func kept(x uint64, from, to int) uint64 {
	sum := uint64(0)
	for i := from; i <= to; i++ {
		if bit(x, i) {
			sum += power(i)
		}
	}
	return sum
}

// anyBit is whether one of the bits from from to to is 1.
func anyBit(x uint64, from, to int) bool { return kept(x, from, to) != 0 }

// isPart is whether the bit i is a flag or one of an address.
func isPart(i int) bool {
	switch i {
	case 0, 1, 2, 5, 6, 7, 63:
		return true
	}
	return i >= 12 && i <= 51
}

// parsed, leaf, reserved and frame are what the document says, by the numbers of its bits.
func parsed(x uint64) Entry {
	return Entry{P: bit(x, 0), W: bit(x, 1), U: bit(x, 2), A: bit(x, 5), D: bit(x, 6), PS: bit(x, 7), NX: bit(x, 63), Frame: kept(x, 12, 51)}
}

func leaf(x uint64, level int) bool {
	return level == 1 || (level == 2 || level == 3) && bit(x, 7)
}

func reserved(x uint64, level, bits int, nxe bool) bool {
	return anyBit(x, max(min(bits, 52), 12), 51) || bit(x, 63) && !nxe || level == 4 && bit(x, 7) ||
		level == 2 && bit(x, 7) && anyBit(x, 13, 20) || level == 3 && bit(x, 7) && anyBit(x, 13, 29)
}

func frame(x uint64, level int) uint64 {
	from := 12
	if leaf(x, level) {
		from = 12 + 9*(level-1)
	}
	return kept(x, from, 51)
}

// numbers is a row of numbers that look unlike, the same at each run.
type numbers uint64

func (n *numbers) next() uint64 {
	*n = *n*6364136223846793005 + 1442695040888963407
	return uint64(*n) ^ uint64(*n)>>29
}

// words are plain ones, each bit alone, missing, and beside PS, and such that look unlike.
func words() []uint64 {
	list := []uint64{0, 1, 0x67, 0xE7, 0x5067, 0x80, 0x1080, 0x2080, 0x201080, 0x3000, all, all >> 1,
		0x000FFFFFFFFFF000, 0x000FFFFFFFFFF0E7, 0x8000000000005067, 0x800FFFFFFFFFF0E7, 0x7FF0000000000F18, 0x0123456789ABCDEF, 0x9E3779B97F4A7C15}
	for i := range 64 {
		list = append(list, power(i), all-power(i), power(i)|0x80, (all-power(i))|0x80)
	}
	row := numbers(5)
	for range 100 {
		list = append(list, row.next())
	}
	return list
}

// entries are the flags in all the 128 ways, with frames that a word has room for and others.
func entries() []Entry {
	frames := []uint64{0, 0x1000, 0x5000, 1 << 51, 0x000FFFFFFFFFF000, 1, 0xFFF, 1 << 11, 1 << 52, 1 << 63, 0x0123456789ABCDEF, 0xFFF0000000000FFF, all}
	var list []Entry
	for i := range 128 {
		is := func(k int) bool { return i>>k&1 == 1 }
		for _, f := range frames {
			list = append(list, Entry{P: is(0), W: is(1), U: is(2), A: is(3), D: is(4), PS: is(5), NX: is(6), Frame: f})
		}
	}
	return list
}

// P5.2, P5.3: the document's examples.
func TestExamples(t *testing.T) {
	if s := Slot(0x3000, 0x1000, 1); s != 0x3008 {
		t.Errorf("Slot(0x3000, 0x1000, 1) = %#x", s)
	}
	if !Leaf(0x80, 2) {
		t.Error("Leaf(0x80, 2) = false")
	}
}

// P5.1: each of the flags by itself, told and laid, as figures; api's bits are these.
func TestFlags(t *testing.T) {
	for _, c := range []struct {
		x, same uint64
		e       Entry
	}{
		{0x01, api.BitP, Entry{P: true}}, {0x02, api.BitW, Entry{W: true}}, {0x04, api.BitU, Entry{U: true}}, {0x20, api.BitA, Entry{A: true}},
		{0x40, api.BitD, Entry{D: true}}, {0x80, api.BitPS, Entry{PS: true}}, {0x8000000000000000, api.BitNX, Entry{NX: true}},
		{0, 0, Entry{}}, {0x1000, 0x1000, Entry{Frame: 0x1000}}, {0x0008000000000000, 1 << 51, Entry{Frame: 0x0008000000000000}},
		{0x800FFFFFFFFFF0E7, 0x800FFFFFFFFFF0E7, Entry{true, true, true, true, true, true, true, 0x000FFFFFFFFFF000}},
		{0x8000000000005067, 0x8000000000005067, Entry{true, true, true, true, true, false, true, 0x5000}},
	} {
		if c.x != c.same {
			t.Errorf("%#x is not %#x", c.same, c.x)
		}
		if e := Parse(c.x); e != c.e {
			t.Errorf("Parse(%#x) = %+v", c.x, e)
		}
		if x := Word(c.e); x != c.x {
			t.Errorf("Word(%+v) = %#x, not %#x", c.e, x, c.x)
		}
	}
}

// P5.1: what is no part of an entry tells nothing, alone or with all others; the bits 11 and 52 lie right beside an address's.
func TestNoPart(t *testing.T) {
	full := Entry{true, true, true, true, true, true, true, 0x000FFFFFFFFFF000}
	for i := range 64 {
		if isPart(i) {
			continue
		}
		if e := Parse(power(i)); e != (Entry{}) {
			t.Errorf("Parse of the bit %d = %+v", i, e)
		}
		if e := Parse(all - power(i)); e != full {
			t.Errorf("Parse without the bit %d = %+v", i, e)
		}
		if Table(power(i)) != 0 || Table(all-power(i)) != full.Frame {
			t.Errorf("Table of the bit %d and of all others = %#x, %#x", i, Table(power(i)), Table(all-power(i)))
		}
		if x := Word(Entry{Frame: power(i)}); x != 0 {
			t.Errorf("Word of a frame that is the bit %d = %#x", i, x)
		}
	}
	if e := Parse(0x7FF0000000000F18); e != (Entry{}) {
		t.Errorf("all that is no part: %+v", e)
	}
}

// P5.1: an address's bits: the first, the last, and those beside them.
func TestTableEdges(t *testing.T) {
	for _, c := range [][2]uint64{
		{1 << 11, 0}, {1 << 12, 1 << 12}, {1 << 13, 1 << 13}, {1 << 50, 1 << 50}, {1 << 51, 1 << 51}, {1 << 52, 0}, {1 << 63, 0},
		{0xFFF, 0}, {0x1FFF, 0x1000}, {0xFFF0000000000000, 0}, {0xFFF8000000000000, 0x0008000000000000}, {all, 0x000FFFFFFFFFF000},
		{0x0123456789ABCDEF, 0x0003456789ABC000}, {0x201080, 0x201000},
	} {
		if x := Table(c[0]); x != c[1] {
			t.Errorf("Table(%#x) = %#x, not %#x", c[0], x, c[1])
		}
		if e := Parse(c[0]); e.Frame != c[1] {
			t.Errorf("Parse(%#x).Frame = %#x, not %#x", c[0], e.Frame, c[1])
		}
	}
}

// P5.1: words as entries and as tables.
func TestParse(t *testing.T) {
	for _, x := range words() {
		if e := Parse(x); e != parsed(x) {
			t.Errorf("Parse(%#x) = %+v, not %+v", x, e, parsed(x))
		}
		if y := Table(x); y != kept(x, 12, 51) {
			t.Errorf("Table(%#x) = %#x", x, y)
		}
	}
}

// P5.1: entries as words, in all ways of their flags; of a frame the bits 12 to 51 alone, flags that it seems to have not.
func TestWord(t *testing.T) {
	for _, e := range entries() {
		want := kept(e.Frame, 12, 51)
		for i, is := range map[int]bool{0: e.P, 1: e.W, 2: e.U, 5: e.A, 6: e.D, 7: e.PS, 63: e.NX} {
			if is {
				want += power(i)
			}
		}
		if x := Word(e); x != want {
			t.Errorf("Word(%+v) = %#x, not %#x", e, x, want)
		}
	}
}

// P5.2: leaves of each level, with PS and without, whatever else there is.
func TestLeaf(t *testing.T) {
	for _, c := range []struct {
		level       int
		with, other bool
	}{{1, true, true}, {2, true, false}, {3, true, false}, {4, false, false}} {
		for _, x := range []uint64{0x80, 0x81, 0xE7, 0x201080, 0x8000000000000080, all} {
			if Leaf(x, c.level) != c.with {
				t.Errorf("Leaf(%#x, %d) = %v", x, c.level, !c.with)
			}
		}
		for _, x := range []uint64{0, 1, 0x67, 0x40, 0x100, 0x5067, all - 0x80} {
			if Leaf(x, c.level) != c.other {
				t.Errorf("Leaf(%#x, %d) = %v", x, c.level, !c.other)
			}
		}
	}
	for _, x := range words() {
		for level := 1; level <= 4; level++ {
			if Leaf(x, level) != leaf(x, level) {
				t.Errorf("Leaf(%#x, %d) = %v", x, level, Leaf(x, level))
			}
		}
	}
}

// P5.2: what may not be, as figures, each beside the same thing that may.
func TestReservedFigures(t *testing.T) {
	for _, c := range []struct {
		x           uint64
		level, bits int
		nxe, want   bool
	}{
		{0, 1, 12, false, false}, {0x67, 1, 12, false, false}, {0x7FF0000000000FFF &^ 0x80, 4, 12, false, false},
		{1 << 12, 1, 12, true, true}, {1 << 11, 1, 12, true, false}, {1 << 12, 1, 13, true, false}, {1 << 13, 1, 13, true, true},
		{1 << 20, 1, 20, true, true}, {1 << 19, 1, 20, true, false}, {1 << 51, 1, 20, true, true}, {1 << 52, 1, 20, true, false},
		{1 << 51, 1, 51, true, true}, {1 << 50, 1, 51, true, false}, {1 << 51, 1, 52, true, false}, {1 << 52, 1, 52, true, false}, {1 << 62, 4, 12, true, false},
		{1 << 63, 1, 52, false, true}, {1 << 63, 1, 52, true, false}, {1 << 63, 4, 12, true, false}, {1 << 63, 4, 52, false, true},
		{0x80, 1, 52, true, false}, {0x80, 2, 52, true, false}, {0x80, 3, 52, true, false}, {0x80, 4, 52, true, true}, {0x40, 4, 52, true, false},
		{0x1080, 2, 52, true, false}, {0x2080, 2, 52, true, true}, {0x2000, 2, 52, true, false}, {1<<20 | 0x80, 2, 52, true, true}, {1 << 20, 2, 52, true, false},
		{1<<21 | 0x80, 2, 52, true, false}, {1<<29 | 0x80, 2, 52, true, false}, {1<<30 | 0x80, 2, 52, true, false},
		{0x1080, 3, 52, true, false}, {0x2080, 3, 52, true, true}, {0x2000, 3, 52, true, false}, {1<<20 | 0x80, 3, 52, true, true}, {1<<21 | 0x80, 3, 52, true, true},
		{1<<29 | 0x80, 3, 52, true, true}, {1 << 29, 3, 52, true, false}, {1<<30 | 0x80, 3, 52, true, false}, {1<<51 | 0x80, 3, 52, true, false},
		{0x2080, 1, 52, true, false}, {1<<20 | 0x80, 1, 52, true, false}, {1<<29 | 0x80, 1, 52, true, false}, {0x2000, 4, 52, true, false},
		{all &^ 0x80, 4, 52, true, false}, {all, 1, 52, true, false}, {all, 2, 52, true, true}, {all, 3, 52, true, true}, {all, 4, 52, true, true},
	} {
		if Reserved(c.x, c.level, c.bits, c.nxe) != c.want {
			t.Errorf("Reserved(%#x, %d, %d, %v) = %v", c.x, c.level, c.bits, c.nxe, !c.want)
		}
	}
}

// checkReserved holds Reserved against the document, with nxe and without, at all the words.
func checkReserved(t *testing.T, list []uint64, level, bits int) {
	t.Helper()
	for _, x := range list {
		for _, nxe := range []bool{false, true} {
			if is := Reserved(x, level, bits, nxe); is != reserved(x, level, bits, nxe) {
				t.Errorf("Reserved(%#x, %d, %d, %v) = %v", x, level, bits, nxe, is)
			}
		}
	}
}

// P5.2: what may not be, of all levels and bits of an address, at each bit alone and each one missing.
func TestReserved(t *testing.T) {
	list := words()
	for level := -2; level <= 7; level++ {
		for bits := 9; bits <= 55; bits++ {
			checkReserved(t, list, level, bits)
		}
	}
}

// P5.2: each reason is one by itself, and no other one takes it back: in a word of two bits, and PS beside them.
func TestReservedPairs(t *testing.T) {
	var list []uint64
	for i := range 64 {
		for k := range i {
			list = append(list, power(i)+power(k), power(i)|power(k)|0x80)
		}
	}
	for level := 1; level <= 4; level++ {
		for _, bits := range []int{12, 13, 20, 21, 30, 51, 52} {
			checkReserved(t, list, level, bits)
		}
	}
}

// P5.2: bits below 12 are as 12, above 52 as 52, also by much.
func TestReservedBitsBeyond(t *testing.T) {
	for _, c := range []struct {
		as   int
		list []int
	}{{12, fewBits}, {52, manyBits}} {
		for _, bits := range c.list {
			for i := range 64 {
				for level := 1; level <= 4; level++ {
					if Reserved(power(i), level, bits, true) != reserved(power(i), level, c.as, true) {
						t.Errorf("the bit %d on the level %d, of %d bits, is not as of %d", i, level, bits, c.as)
					}
				}
			}
			checkReserved(t, words(), 2, bits)
		}
	}
	if !Reserved(1<<12, 1, 0, true) || Reserved(1<<11, 1, 0, true) || Reserved(1<<51, 1, 53, true) || Reserved(1<<52, 1, math.MinInt, true) {
		t.Error("the bits beside an address's")
	}
}

// P5.2: the frame of a leaf of each level, and what is no leaf, as figures.
func TestFrameFigures(t *testing.T) {
	const x = 0x000FFFFFFFFFF000
	for _, c := range []struct {
		x     uint64
		level int
		want  uint64
	}{
		{0x201080, 2, 0x200000}, {0x201000, 2, 0x201000}, {0x5067, 1, 0x5000}, {0x50E7, 1, 0x5000},
		{all, 1, x}, {all, 2, 0x000FFFFFFFE00000}, {all, 3, 0x000FFFFFC0000000}, {all, 4, x},
		{all - 0x80, 1, x}, {all - 0x80, 2, x}, {all - 0x80, 3, x}, {all - 0x80, 4, x},
		{1<<11 | 0x80, 1, 0}, {1<<12 | 0x80, 1, 1 << 12}, {1<<13 | 0x80, 1, 1 << 13},
		{1<<13 | 0x80, 2, 0}, {1<<20 | 0x80, 2, 0}, {1<<21 | 0x80, 2, 1 << 21}, {1<<29 | 0x80, 2, 1 << 29}, {1<<30 | 0x80, 2, 1 << 30},
		{1<<13 | 0x80, 3, 0}, {1<<20 | 0x80, 3, 0}, {1<<21 | 0x80, 3, 0}, {1<<29 | 0x80, 3, 0}, {1<<30 | 0x80, 3, 1 << 30},
		{1<<51 | 0x80, 3, 1 << 51}, {1<<52 | 0x80, 3, 0}, {1<<63 | 0x80, 2, 0}, {1<<20 | 0x80, 4, 1 << 20}, {1<<39 | 0x80, 4, 1 << 39},
	} {
		if y := Frame(c.x, c.level); y != c.want {
			t.Errorf("Frame(%#x, %d) = %#x, not %#x", c.x, c.level, y, c.want)
		}
	}
}

// P5.2: frames of all the words.
func TestFrame(t *testing.T) {
	for _, x := range words() {
		for level := 1; level <= 4; level++ {
			if y := Frame(x, level); y != frame(x, level) {
				t.Errorf("Frame(%#x, %d) = %#x, not %#x", x, level, y, frame(x, level))
			}
		}
	}
}

// P5.2, P5.3: a level that there isn't, below 1 and above 4, also by much: no leaf, no bit of a great page, the table itself, the place 0.
func TestNoLevel(t *testing.T) {
	levels := noLevels
	for level := -80; level <= 80; level++ {
		if level < 1 || level > 4 {
			levels = append(levels, level)
		}
	}
	for _, level := range levels {
		for _, x := range words() {
			if Leaf(x, level) {
				t.Errorf("Leaf(%#x, %d) = true of no level", x, level)
			}
			if y := Frame(x, level); y != kept(x, 12, 51) {
				t.Errorf("Frame(%#x, %d) = %#x of no level", x, level, y)
			}
			if y := Slot(x, ^x, level); y != kept(x, 12, 51) {
				t.Errorf("Slot(%#x, %#x, %d) = %#x of no level", x, ^x, level, y)
			}
		}
		for _, bits := range []int{12, 20, 52} {
			checkReserved(t, words(), level, bits)
		}
	}
}

// addresses are canonical and other ones: plain ones, the ends of either half and of all, each bit alone and missing.
func addresses() []uint64 {
	list := []uint64{0, 1, 0xFFF, 0x1000, 0x1FF000, 0x200000, 0x7FFFFFFFFFFF, 0x800000000000, 0xFFFFFFFFFFFF, 0xFFFF7FFFFFFFFFFF, 0xFFFF800000000000,
		0xFFFFFF8040403045, 0x7FFFFF8040403045, 0x123456789ABC, 0x0123456789ABCDEF, 0xFEDCBA9876543210, all}
	for i := range 64 {
		list = append(list, power(i), all-power(i))
	}
	return list
}

// P5.3: slots of each level, as figures; the table's other bits play no part, nor do an address's that are no place.
func TestSlotFigures(t *testing.T) {
	const a = 0xFFFFFF8040403045 // the places 511, 1, 2 and 3
	for _, c := range []struct {
		table, a uint64
		level    int
		want     uint64
	}{
		{0x3000, 0x1000, 1, 0x3008}, {0x3000, 0, 1, 0x3000}, {0x3000, 0xFFF, 1, 0x3000}, {0x3FFF, 5 << 12, 1, 0x3028},
		{0x7000, a, 4, 0x7FF8}, {0x7000, a, 3, 0x7008}, {0x7000, a, 2, 0x7010}, {0x7000, a, 1, 0x7018}, {0x7000, a &^ (0xFFFF << 48), 4, 0x7FF8},
		{0x7000, 0x1234000000000000, 4, 0x7000}, {0x7000, 0x8000000000000000, 4, 0x7000}, {0x7000, 0x800000000000, 4, 0x7800},
		{0, all, 1, 0xFF8}, {0, all, 4, 0xFF8}, {0xFFF, 0, 1, 0}, {0xFFF0000000000FFF, 0x1000, 1, 8},
		{all, 0, 1, 0x000FFFFFFFFFF000}, {all, all, 1, 0x000FFFFFFFFFFFF8}, {all, all, 4, 0x000FFFFFFFFFFFF8},
		{1 << 51, 0x2000, 1, 1<<51 + 16}, {1 << 52, 0x2000, 1, 16}, {1 << 11, 0x2000, 1, 16}, {1 << 12, 0x2000, 1, 0x1010},
		{0x8000000000005067, 0x3000, 1, 0x5018},
	} {
		if s := Slot(c.table, c.a, c.level); s != c.want {
			t.Errorf("Slot(%#x, %#x, %d) = %#x, not %#x", c.table, c.a, c.level, s, c.want)
		}
	}
}

// P5.3: slots of all levels, tables and addresses, those that aren't canonical, too.
func TestSlot(t *testing.T) {
	for _, table := range words() {
		for _, a := range addresses() {
			for level := 1; level <= 4; level++ {
				place := a / power(12+9*(level-1)) % 512
				if s, want := Slot(table, a, level), kept(table, 12, 51)+8*place; s != want {
					t.Errorf("Slot(%#x, %#x, %d) = %#x, not %#x", table, a, level, s, want)
				}
			}
		}
	}
}

// P5.3: all 512 places of a table have a slot of their own in it, rising, eight bytes each.
func TestSlotsOfATable(t *testing.T) {
	for level := 1; level <= 4; level++ {
		for i := range 512 {
			var places [4]int
			places[4-level] = i
			if s := Slot(0x5067, va.Join(places, 0xABC), level); s != 0x5000+8*uint64(i) {
				t.Errorf("the slot %d of the level %d: %#x", i, level, s)
			}
		}
	}
}

// P5.4, P4: a word is what its entry says, and other bits; an entry is told as it was laid.
func TestThereAndBack(t *testing.T) {
	for _, x := range words() {
		other := uint64(0)
		for i := range 64 {
			if !isPart(i) && bit(x, i) {
				other += power(i)
			}
		}
		e := Parse(x)
		if y := Word(e); y+other != x || y&other != 0 {
			t.Errorf("%#x is %#x, and other bits %#x", x, y, other)
		}
		if again := Parse(Word(e)); again != e {
			t.Errorf("%+v is told back as %+v", e, again)
		}
	}
	for _, e := range entries() {
		want := e
		want.Frame = kept(e.Frame, 12, 51)
		if got := Parse(Word(e)); got != want {
			t.Errorf("%+v is told back as %+v", e, got)
		}
	}
}

// P5.4: a frame of a leaf is a multiple of its size, and the page of the word's address; nothing of it is lost that isn't reserved.
func TestFrameIsAMultiple(t *testing.T) {
	for _, x := range words() {
		for level := 1; level <= 3; level++ {
			if !Leaf(x, level) {
				continue
			}
			f := Frame(x, level)
			if f%va.Size(level) != 0 || f != va.Page(Table(x), level) || f >= power(52) {
				t.Errorf("Frame(%#x, %d) = %#x", x, level, f)
			}
			if left := Table(x) - f; !Reserved(x, level, 52, true) && left != 0 && (level == 1 || left != 0x1000) {
				t.Errorf("Frame(%#x, %d) = %#x, less %#x that may be", x, level, f, left)
			}
		}
	}
}
