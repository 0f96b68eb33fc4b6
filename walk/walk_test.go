package walk

import (
	"math"
	"slices"
	"testing"

	"dormer/api"
	"dormer/mem"
	"dormer/right"
)

const all = math.MaxUint64

// noLevels are numbers that are no level, some of which would be one if they were cut to fewer bits.
var noLevels = []int{0, -1, -2, -3, -4, -64, 5, 6, 7, 8, 9, 63, 64, 256 + 1, 256 + 4, 1<<16 + 2, 1<<32 + 1, 1<<32 + 2, 1<<32 + 3, 1<<32 + 4,
	-1<<32 + 1, -1<<32 + 4, 1 << 62, -1 << 62, math.MaxInt, math.MaxInt - 1, math.MinInt, math.MinInt + 1, math.MinInt + 4}

// allBits are the sizes of memories.
var allBits = []int{14, 15, 16, 17, 18, 19, 20, 21, 22}

// power is two to the i, and bit whether the bit i of x is 1, by doubling and division alone.
func power(i int) uint64 {
	p := uint64(1)
	for range i {
		p += p
	}
	return p
}

func bit(x uint64, i int) bool { return x/power(i)%2 == 1 }

// part is x without its bits below from and above to.
func part(x uint64, from, to int) uint64 {
	sum := uint64(0)
	for i := from; i <= to; i++ {
		if bit(x, i) {
			sum += power(i)
		}
	}
	return sum
}

// slotOf is where an address's slot of a level lies in a table.
func slotOf(table, a uint64, level int) uint64 {
	return part(table, 12, 51) + a/power(12+9*(level-1))%512*8
}

// mayNot is whether a word has a bit that may not be.
func mayNot(x uint64, level, bits int, nxe bool) bool {
	great := bit(x, 7)
	return part(x, bits, 51) != 0 || bit(x, 63) && !nxe || level == 4 && great ||
		level == 3 && great && part(x, 13, 29) != 0 || level == 2 && great && part(x, 13, 20) != 0
}

// left is what a word leaves of rights.
func left(r right.Right, x uint64) right.Right {
	return right.Right{W: r.W && bit(x, 1), U: r.U && bit(x, 2), X: r.X && !bit(x, 63)}
}

// gone is a walk as the document says it, by the numbers of bits and by going down into itself; words are read without a trace.
func gone(m *mem.Mem, p Place, a uint64, nxe bool) Path {
	if p.Level != 1 && p.Level != 2 && p.Level != 3 && p.Level != 4 {
		return Path{Why: 2}
	}
	slot := slotOf(p.Table, a, p.Level)
	if m == nil || slot >= power(m.Bits()) {
		return Path{Why: 2}
	}
	x, _ := m.Peek(slot)
	steps := []Step{{p.Level, slot, x}}
	r := left(p.Right, x)
	if !bit(x, 0) {
		return Path{Steps: steps, Why: 1}
	}
	if mayNot(x, p.Level, m.Bits(), nxe) {
		return Path{Steps: steps, Why: 2}
	}
	if p.Level == 1 || p.Level < 4 && bit(x, 7) {
		return Path{Steps: steps, Why: 0, Right: r, Level: p.Level, Frame: part(x, 12+9*(p.Level-1), 51)}
	}
	rest := gone(m, Place{p.Level - 1, part(x, 12, 51), r}, a, nxe)
	rest.Steps = append(steps, rest.Steps...)
	return rest
}

// equal is whether two paths are the same, flags and all.
func equal(p, q Path) bool {
	return p.Why == q.Why && p.Right == q.Right && p.Level == q.Level && p.Frame == q.Frame && slices.Equal(p.Steps, q.Steps)
}

// slots are where the steps of a path are.
func slots(p Path) []uint64 {
	var list []uint64
	for _, s := range p.Steps {
		list = append(list, s.Slot)
	}
	return list
}

// went is From, held against what the walk should be, with the trace of it; the bytes of the memory stay.
func went(t *testing.T, m *mem.Mem, p Place, a uint64, nxe bool, want Path) Path {
	t.Helper()
	was := m.Copy()
	m.Forget()
	got := From(m, p, a, nxe)
	if !equal(got, want) {
		t.Fatalf("%d bits: From(%+v, %#x, %v) =\n%+v, not\n%+v", m.Bits(), p, a, nxe, got, want)
	}
	if l := m.Trace(); !slices.Equal(l, slots(want)) {
		t.Fatalf("%d bits: From(%+v, %#x, %v) loads %#x, not %#x", m.Bits(), p, a, nxe, l, slots(want))
	}
	if l := mem.Diff(was, m); len(l) != 0 {
		t.Fatalf("%d bits: From(%+v, %#x, %v) writes %#x", m.Bits(), p, a, nxe, l)
	}
	return got
}

// laid is a memory with these words, each behind its slot.
func laid(t *testing.T, bits int, words ...uint64) *mem.Mem {
	t.Helper()
	m := mem.New(bits)
	for i := 0; i < len(words); i += 2 {
		if e := m.Store(words[i], words[i+1]); e != api.OK {
			t.Fatalf("Store(%#x, %#x) = %v", words[i], words[i+1], e)
		}
	}
	return m
}

// peek is a slot's word.
func peek(t *testing.T, m *mem.Mem, a uint64) uint64 {
	t.Helper()
	x, e := m.Peek(a)
	if e != api.OK {
		t.Fatalf("Peek(%#x) = %v", a, e)
	}
	return x
}

// numbers is a row of numbers that look unlike, the same at each run.
type numbers uint64

func (n *numbers) next() uint64 {
	*n = *n*6364136223846793005 + 1442695040888963407
	return uint64(*n) ^ uint64(*n)>>29
}

// one is an address of four places that aren't the same: 5, 6, 7 and 8, and 0x123 behind them.
const one = 5<<39 + 6<<30 + 7<<21 + 8<<12 + 0x123

// oneSlots are the slots of its walk through chain.
var oneSlots = [4]uint64{0x1028, 0x3030, 0x0038, 0x2040}

// chain is a memory of four tables (0x1000, 0x3000, 0, 0x2000, from the root on) in which these four words stand on one's way; where a word has no address, its table's is laid.
func chain(t *testing.T, bits int, words [4]uint64) *mem.Mem {
	t.Helper()
	m := mem.New(bits)
	for i, table := range []uint64{0x3000, 0, 0x2000, 0} {
		x := words[i]
		if part(x, 12, 51) == 0 {
			x += table
		}
		if e := m.Store(oneSlots[i], x); e != api.OK {
			t.Fatal(e)
		}
	}
	return m
}

// stepsOf are the first n steps of one's walk through chain.
func stepsOf(t *testing.T, m *mem.Mem, n int) []Step {
	t.Helper()
	var list []Step
	for i := range n {
		list = append(list, Step{Level: 4 - i, Slot: oneSlots[i], Word: peek(t, m, oneSlots[i])})
	}
	return list
}

// plain are words with all rights, of four tables and a page.
var plain = [4]uint64{7, 7, 7, 0x3007}

// with is plain with another word on a level.
func with(level int, x uint64) [4]uint64 {
	words := plain
	words[4-level] = x
	return words
}

// P8.1: the document's example, in memories of all sizes.
func TestExample(t *testing.T) {
	for _, bits := range allBits {
		m := mem.New(bits)
		for _, nxe := range []bool{false, true} {
			went(t, m, Top(0), 0, nxe, Path{Steps: []Step{{4, 0, 0}}, Why: 1})
			went(t, m, Top(0x1000), one, nxe, Path{Steps: []Step{{4, 0x1028, 0}}, Why: Absent})
			went(t, m, Top(power(bits)-0x1000), all, nxe, Path{Steps: []Step{{4, power(bits) - 8, 0}}, Why: Absent})
		}
	}
}

// P8.1: why a walk ended, as figures.
func TestWhys(t *testing.T) {
	if Found != 0 || Absent != 1 || Reserved != 2 {
		t.Errorf("Found, Absent, Reserved are %d, %d, %d", Found, Absent, Reserved)
	}
}

// P8.1: the top: of a root the bits 12 to 51 alone.
func TestTop(t *testing.T) {
	for _, c := range [][2]uint64{
		{0, 0}, {0x1000, 0x1000}, {0x1FFF, 0x1000}, {0xFFF, 0}, {0x5067, 0x5000}, {1 << 51, 1 << 51}, {1 << 52, 0}, {1 << 63, 0},
		{1<<63 + 0x3007, 0x3000}, {0xFFF0000000000FFF, 0}, {all, 0x000FFFFFFFFFF000}, {0x0123456789ABCDEF, 0x0003456789ABC000},
	} {
		want := Place{Level: 4, Table: c[1], Right: right.Right{W: true, U: true, X: true}}
		if p := Top(c[0]); p != want {
			t.Errorf("Top(%#x) = %+v", c[0], p)
		}
	}
	for i := range 64 {
		if p := Top(power(i)); p != (Place{4, part(power(i), 12, 51), right.All()}) {
			t.Errorf("Top of the bit %d = %+v", i, p)
		}
	}
}

// P8.1: a whole walk, as figures: four steps, to a page.
func TestFigures(t *testing.T) {
	m := laid(t, 16, 0x1028, 0x3007, 0x3030, 0x0027, 0x0038, 0x2067, 0x2040, 0x8005)
	want := Path{
		Steps: []Step{{4, 0x1028, 0x3007}, {3, 0x3030, 0x0027}, {2, 0x0038, 0x2067}, {1, 0x2040, 0x8005}},
		Why:   Found,
		Right: right.Right{W: false, U: true, X: true},
		Level: 1,
		Frame: 0x8000,
	}
	for _, nxe := range []bool{false, true} {
		went(t, m, Top(0x1000), one, nxe, want)
		went(t, m, Top(0x1FFF), one, nxe, want)
		went(t, m, Place{4, 0x1000, right.All()}, one-0x123, nxe, want)
	}
}

// P8.1: walks that end on each of the levels, in each way, with what they tell then.
func TestEndsOnEachLevel(t *testing.T) {
	for _, bits := range allBits {
		for level := 4; level >= 1; level-- {
			n := 5 - level
			m := chain(t, bits, with(level, 6))
			went(t, m, Top(0x1000), one, true, Path{Steps: stepsOf(t, m, n), Why: Absent})
			m = chain(t, bits, with(level, 7+power(bits)))
			went(t, m, Top(0x1000), one, true, Path{Steps: stepsOf(t, m, n), Why: Reserved})
			if level == 4 {
				continue
			}
			m = chain(t, bits, with(level, 0x87))
			if level > 1 {
				m.Store(oneSlots[4-level], 0x87) // a frame, not a table
			}
			went(t, m, Top(0x1000), one, true, Path{Steps: stepsOf(t, m, n), Why: Found, Right: right.All(), Level: level, Frame: 0})
		}
	}
}

// P8.1: leaves of each size, with frames that a memory has; the bit 12 of a great one is no part of its frame.
func TestLeaves(t *testing.T) {
	for _, c := range []struct {
		level          int
		word, frame    uint64
		why, leafLevel int
	}{
		{1, 0x3FF007, 0x3FF000, Found, 1}, {1, 0x3FF087, 0x3FF000, Found, 1}, {1, 0x1007, 0x1000, Found, 1}, {1, 0x200087, 0x200000, Found, 1},
		{2, 0x87, 0, Found, 2}, {2, 0x200087, 0x200000, Found, 2}, {2, 0x201087, 0x200000, Found, 2}, {2, 0x1087, 0, Found, 2},
		{2, 0x202087, 0, Reserved, 0}, {2, 0x300087, 0, Reserved, 0}, {2, 0x2087, 0, Reserved, 0}, {2, 0x100087, 0, Reserved, 0},
		{3, 0x87, 0, Found, 3}, {3, 0x1087, 0, Found, 3}, {3, 0x2087, 0, Reserved, 0}, {3, 0x200087, 0, Reserved, 0}, {3, 0x20000087, 0, Reserved, 0}, {3, 0x40000087, 0, Reserved, 0},
		{4, 0x87, 0, Reserved, 0}, {4, 0x1087, 0, Reserved, 0}, {4, 0x3087, 0, Reserved, 0},
	} {
		m := chain(t, 22, plain)
		m.Store(oneSlots[4-c.level], c.word)
		want := Path{Steps: stepsOf(t, m, 5-c.level), Why: c.why, Level: c.leafLevel, Frame: c.frame}
		if c.why == Found {
			want.Right = right.All()
		}
		went(t, m, Top(0x1000), one, false, want)
	}
}

// P8.1: a slot that isn't in the memory, from each level on: the walk ends ahead of it, and nothing is loaded.
func TestSlotBeyond(t *testing.T) {
	for _, bits := range allBits {
		m := mem.New(bits)
		for a := uint64(0); a < power(14); a += 8 {
			m.Store(a, 7)
		}
		for level := 1; level <= 4; level++ {
			for i := bits; i < 52; i++ {
				for _, table := range []uint64{power(i), power(i) + 0x1000, power(i) + 0xFFF, power(52) - power(i)} {
					went(t, m, Place{level, table, right.All()}, one, true, Path{Why: Reserved})
					went(t, m, Place{level, table, right.Right{}}, all, false, Path{Why: Reserved})
				}
			}
			inside := Place{level, power(bits) - 0x1000, right.All()}
			if p := went(t, m, inside, all, true, gone(m, inside, all, true)); len(p.Steps) == 0 || p.Steps[0].Slot != power(bits)-8 {
				t.Errorf("%d bits: the last slot of all: %+v", bits, p)
			}
		}
		went(t, m, Top(power(bits)), 0, true, Path{Why: Reserved})
		went(t, m, Top(all), all, true, Path{Why: Reserved})
	}
}

// P8.1: a table that isn't in the memory is not gone to: the word that names it may not be, and is the last step; the last table that is in it is.
func TestTableBeyond(t *testing.T) {
	for _, bits := range allBits {
		for level := 4; level >= 2; level-- {
			for i := bits; i < 52; i++ {
				m := chain(t, bits, with(level, 7+power(i)))
				went(t, m, Top(0x1000), one, true, Path{Steps: stepsOf(t, m, 5-level), Why: Reserved})
			}
			end := power(bits) - 0x1000
			m := chain(t, bits, with(level, 7+end))
			next := end + one/power(12+9*(level-2))%512*8
			m.Store(next, 0)
			steps := append(stepsOf(t, m, 5-level), Step{level - 1, next, 0})
			went(t, m, Top(0x1000), one, true, Path{Steps: steps, Why: Absent})
		}
	}
}

// P8.1: of a place's table the bits 12 to 51 alone are one's; the bits of an address above the root's place, and those behind a page, play no part.
func TestOtherBits(t *testing.T) {
	m := chain(t, 15, plain)
	want := Path{Steps: stepsOf(t, m, 4), Why: Found, Right: right.All(), Level: 1, Frame: 0x3000}
	for _, more := range []uint64{0, 1, 8, 0xFFF, 1 << 52, 1 << 63, 0xFFF0000000000FFF} {
		went(t, m, Place{4, 0x1000 + more, right.All()}, one, true, want)
		went(t, m, Top(0x1000+more), one, true, want)
	}
	for i := range 64 {
		if i >= 12 && i < 48 {
			continue
		}
		went(t, m, Top(0x1000), one-0x123+power(i), true, want)
	}
	went(t, m, Top(0x1000), one-0x123+0xFFF0000000000FFF+0x000F000000000000, true, want)
}

// P8.1: each bit alone beside P, on each level, in memories of all sizes, with nxe and without; and the same without P, which is Absent whatever else there is.
func TestEachBit(t *testing.T) {
	for _, bits := range allBits {
		for level := 4; level >= 1; level-- {
			for i := 1; i < 64; i++ {
				for _, great := range []uint64{0, 0x80} {
					for _, nxe := range []bool{false, true} {
						m := chain(t, bits, plain)
						x := power(i) | great | 1
						m.Store(oneSlots[4-level], x)
						p := went(t, m, Top(0x1000), one, nxe, gone(m, Top(0x1000), one, nxe))
						if mayNot(x, level, bits, nxe) != (p.Why == Reserved && len(p.Steps) == 5-level) {
							t.Fatalf("%d bits: %#x on the level %d, nxe %v: %+v", bits, x, level, nxe, p)
						}
						m.Store(oneSlots[4-level], x-1)
						went(t, m, Top(0x1000), one, nxe, Path{Steps: stepsOf(t, m, 5-level), Why: Absent})
					}
				}
			}
		}
	}
}

// P8.1: what may not be and what may, as figures.
func TestReservedFigures(t *testing.T) {
	const nx = 1 << 63
	for _, c := range []struct {
		bits, level int
		word        uint64
		nxe         bool
		why         int
	}{
		{14, 1, 0x2007, true, Found}, {14, 1, 0x4007, true, Reserved}, {15, 1, 0x4007, true, Found}, {15, 1, 0x8007, true, Reserved},
		{22, 1, 0x200007, true, Found}, {22, 1, 0x400007, true, Reserved}, {22, 1, 1<<51 + 7, true, Reserved}, {22, 1, 1<<52 + 7, true, Found}, {22, 1, 1<<62 + 7, true, Found},
		{14, 1, 0x4006, true, Absent}, {14, 1, 1<<51 + 6, false, Absent}, {14, 1, nx + 6, false, Absent}, {14, 1, all - 1, false, Absent}, {14, 4, all - 1, false, Absent},
		{14, 1, nx + 7, true, Found}, {14, 1, nx + 7, false, Reserved}, {14, 2, nx + 0x87, true, Found}, {14, 2, nx + 0x87, false, Reserved},
		{14, 3, nx + 0x87, true, Found}, {14, 3, nx + 0x87, false, Reserved}, {14, 4, nx + 0x3007, true, Found}, {14, 4, nx + 0x3007, false, Reserved},
		{14, 3, nx + 7, false, Reserved}, {14, 2, nx + 0x2007, false, Reserved}, {14, 3, nx + 7, true, Found}, {14, 2, nx + 0x2007, true, Found},
		{14, 4, 0x3087, true, Reserved}, {14, 4, 0x3007, true, Found}, {14, 4, 0x3086, true, Absent},
		{14, 2, 0x2087, true, Reserved}, {14, 2, 0x2007, true, Found}, {14, 2, 0x2086, true, Absent}, {14, 3, 0x2087, true, Reserved}, {14, 3, 0x2086, true, Absent},
		{14, 1, 0x2087, true, Found}, {14, 1, 0xFFF, false, Found}, {14, 1, 0, true, Absent},
	} {
		m := chain(t, c.bits, plain)
		m.Store(oneSlots[4-c.level], c.word)
		p := went(t, m, Top(0x1000), one, c.nxe, gone(m, Top(0x1000), one, c.nxe))
		if p.Why != c.why || c.why != Found && len(p.Steps) != 5-c.level {
			t.Errorf("%+v: %+v", c, p)
		}
		if c.why != Found && (p.Right != right.Right{} || p.Level != 0 || p.Frame != 0) {
			t.Errorf("%+v: not found, and %+v", c, p)
		}
	}
}

// P8.1: rights, as each level takes each away, in all ways, and from all that a place has.
func TestRights(t *testing.T) {
	flags := func(i int) uint64 {
		return 1 + uint64(i/4%2)*2 + uint64(i/2%2)*4 + uint64(i%2)*power(63)
	}
	m := chain(t, 14, plain)
	for i := range 8 * 8 * 8 * 8 {
		is := [4]int{i % 8, i / 8 % 8, i / 64 % 8, i / 512 % 8}
		for k, table := range []uint64{0x3000, 0, 0x2000, 0x1000} {
			m.Store(oneSlots[k], flags(is[k])+table)
		}
		has := func(bit int) bool { return is[0]/bit%2+is[1]/bit%2+is[2]/bit%2+is[3]/bit%2 == 4 }
		p := From(m, Top(0x1000), one, true)
		want := right.Right{W: has(4), U: has(2), X: is[0]%2+is[1]%2+is[2]%2+is[3]%2 == 0}
		if p.Why != Found || p.Right != want || p.Frame != 0x1000 || len(p.Steps) != 4 {
			t.Fatalf("%v: %+v, not %+v", is, p, want)
		}
	}
	for i := range 8 {
		r := right.Right{W: i/4%2 == 1, U: i/2%2 == 1, X: i%2 == 1}
		for k := range 8 {
			m.Store(oneSlots[3], flags(k)+0x1000)
			p := From(m, Place{1, 0x2000, r}, one, true)
			if want := left(r, flags(k)); p.Why != Found || p.Right != want {
				t.Fatalf("from %+v behind %#x: %+v", r, flags(k), p)
			}
		}
	}
	for level := 4; level >= 1; level-- {
		m := chain(t, 14, plain)
		r := right.Right{W: level%2 == 0, U: true, X: level%2 == 1}
		table := []uint64{0x2000, 0, 0x3000, 0x1000}[level-1]
		if p := From(m, Place{level, table, r}, one, false); p.Why != Found || p.Right != r || len(p.Steps) != level {
			t.Errorf("from the level %d with %+v: %+v", level, r, p)
		}
	}
}

// P8.1: levels that there aren't: at once, and nothing is loaded.
func TestNoLevel(t *testing.T) {
	m := chain(t, 14, plain)
	for a := uint64(0); a < power(14); a += 8 {
		m.Store(a, 7)
	}
	for _, level := range noLevels {
		for _, table := range []uint64{0, 0x1000, 1 << 14, all} {
			went(t, m, Place{level, table, right.All()}, one, true, Path{Why: Reserved})
			went(t, m, Place{level, table, right.Right{}}, 0, false, Path{Why: Reserved})
		}
	}
	went(t, m, Place{}, 0, true, Path{Why: Reserved})
}

// P8.1, P1: in a memory that is nil there is no slot.
func TestNilMemory(t *testing.T) {
	for _, level := range append([]int{1, 2, 3, 4}, noLevels...) {
		for _, a := range []uint64{0, one, all} {
			for _, nxe := range []bool{false, true} {
				if p := From(nil, Place{level, 0, right.All()}, a, nxe); !equal(p, Path{Why: Reserved}) {
					t.Errorf("From(nil) on the level %d = %+v", level, p)
				}
			}
		}
	}
	if p := From(nil, Top(0), 0, true); !equal(p, Path{Why: Reserved}) {
		t.Errorf("From(nil) = %+v", p)
	}
	Mark(nil, Path{}, true)
	Mark(nil, Path{Steps: []Step{{4, 0, 7}, {3, 8, 7}, {1, all, 7}}, Why: Found}, true)
	Mark(nil, Path{Steps: []Step{{4, 0, 7}}, Why: Absent}, false)
}

// P8.1, P8.2: a table that leads to itself is gone through once a level, and the walk ends.
func TestLoops(t *testing.T) {
	const page = 0x2007
	m := laid(t, 14, 0x2000, page)
	path := Path{Steps: []Step{{4, 0x2000, page}, {3, 0x2000, page}, {2, 0x2000, page}, {1, 0x2000, page}}, Why: Found, Right: right.All(), Level: 1, Frame: 0x2000}
	went(t, m, Top(0x2000), 0xFFF, true, path)
	Mark(m, path, true)
	if l := mem.Diff(m, laid(t, 14, 0x2000, page+0x60)); len(l) != 0 {
		t.Errorf("marked: %#x", peek(t, m, 0x2000))
	}
	if !Same(path, From(m, Top(0x2000), 0xFFF, true)) {
		t.Error("marked, it is another one")
	}
	// The last slot is the table's own, and the others are those of another one: the places 511, 511, 511, 3 and so on.
	const top = 511<<39 + 511<<30 + 511<<21 + 3<<12
	m = laid(t, 14, 0x2FF8, page, 0x2018, 0x1005)
	path = Path{Steps: []Step{{4, 0x2FF8, page}, {3, 0x2FF8, page}, {2, 0x2FF8, page}, {1, 0x2018, 0x1005}}, Why: Found, Right: right.Right{U: true, X: true}, Level: 1, Frame: 0x1000}
	went(t, m, Top(0x2000), top, false, path)
	Mark(m, path, true)
	if l := mem.Diff(m, laid(t, 14, 0x2FF8, page+0x20, 0x2018, 0x1065)); len(l) != 0 {
		t.Errorf("marked: %#x, %#x", peek(t, m, 0x2FF8), peek(t, m, 0x2018))
	}
	// A page that is its own table, and two that lead to each other.
	m = laid(t, 14, 0, 0x1007, 0x1000, 7)
	went(t, m, Top(0), 0, true, Path{Steps: []Step{{4, 0, 0x1007}, {3, 0x1000, 7}, {2, 0, 0x1007}, {1, 0x1000, 7}}, Why: Found, Right: right.All(), Level: 1, Frame: 0})
	m = laid(t, 14, 0, 0x87)
	went(t, m, Top(0), 0, true, Path{Steps: []Step{{4, 0, 0x87}}, Why: Reserved})
	went(t, m, Place{3, 0, right.All()}, 0, true, Path{Steps: []Step{{3, 0, 0x87}}, Why: Found, Right: right.All(), Level: 3})
}

// P8.2: a path that was found: A in each slot, and D in the last one, if it is dirty, and nothing else.
func TestMarkFound(t *testing.T) {
	for level := 3; level >= 1; level-- {
		for _, dirty := range []bool{false, true} {
			m := chain(t, 15, plain)
			if level > 1 {
				m.Store(oneSlots[4-level], 0x87)
			}
			p := From(m, Top(0x1000), one, true)
			if p.Why != Found || len(p.Steps) != 5-level {
				t.Fatalf("level %d: %+v", level, p)
			}
			want := m.Copy()
			for i, s := range p.Steps {
				x := s.Word + 0x20
				if dirty && i == len(p.Steps)-1 {
					x += 0x40
				}
				want.Store(s.Slot, x)
			}
			marks(t, m, p, dirty, want)
		}
	}
}

// marks is Mark, held against the memory that it should leave; its trace and the path stay.
func marks(t *testing.T, m *mem.Mem, p Path, dirty bool, want *mem.Mem) {
	t.Helper()
	m.Forget()
	m.Load(0x1008)
	was := slices.Clone(p.Steps)
	Mark(m, p, dirty)
	for _, a := range mem.Diff(m, want) {
		t.Errorf("Mark(%+v, %v): the slot %#x is %#x, not %#x", p, dirty, a, peek(t, m, a), peek(t, want, a))
	}
	if l := m.Trace(); !slices.Equal(l, []uint64{0x1008}) {
		t.Errorf("Mark(%+v, %v): the trace is %#x", p, dirty, l)
	}
	if !slices.Equal(p.Steps, was) {
		t.Errorf("Mark(%+v, %v): the path is another one: %+v", was, dirty, p)
	}
}

// P8.2: a path that wasn't found: A in each slot, too, and D in none.
func TestMarkOthers(t *testing.T) {
	for level := 4; level >= 1; level-- {
		for _, x := range []uint64{0, 6, 0x4000 - 2, 0x4007, 0x8000000000000007} {
			for _, dirty := range []bool{false, true} {
				m := chain(t, 14, plain)
				m.Store(oneSlots[4-level], x)
				p := From(m, Top(0x1000), one, false)
				if p.Why == Found || len(p.Steps) != 5-level {
					t.Fatalf("%#x on the level %d: %+v", x, level, p)
				}
				want := m.Copy()
				for _, s := range p.Steps {
					if !bit(s.Word, 5) {
						want.Store(s.Slot, s.Word+0x20)
					}
				}
				marks(t, m, p, dirty, want)
			}
		}
	}
}

// P8.2: D hangs on Why alone: a number that is none of the three isn't Found.
func TestMarkByWhy(t *testing.T) {
	for _, why := range []int{0, 1, 2, 3, -1, 256, 1 << 32, math.MaxInt, math.MinInt} {
		for _, dirty := range []bool{false, true} {
			m := laid(t, 14, 8, 7, 16, 0x80, 24, 0)
			p := Path{Steps: []Step{{4, 8, 0}, {3, 16, 0}, {2, 24, 0}}, Why: why}
			last := uint64(0x20)
			if dirty && why == 0 {
				last = 0x60
			}
			marks(t, m, p, dirty, laid(t, 14, 8, 0x27, 16, 0xA0, 24, last))
		}
	}
}

// P8.2: all ways of A and D that the slots have ahead: what is 1 stays, what is written is that alone.
func TestMarkBitsThere(t *testing.T) {
	for i := range 64 {
		for _, dirty := range []bool{false, true} {
			for _, why := range []int{Found, Absent, Reserved} {
				start, end := mem.New(14), mem.New(14)
				var p Path
				for k, f := range []uint64{uint64(i % 4), uint64(i / 4 % 4), uint64(i / 16)} {
					slot, x := uint64(k)*8, 0x8000000000001007+f*0x20
					start.Store(slot, x)
					d := f / 2
					if dirty && k == 2 && why == Found {
						d = 1
					}
					end.Store(slot, 0x8000000000001027+d*0x40)
					p.Steps = append(p.Steps, Step{3 - k, slot, x})
				}
				p.Why = why
				marks(t, start, p, dirty, end)
			}
		}
	}
}

// P8.2: a slot whose bits are so already is not written.
func TestNotWritten(t *testing.T) {
	for _, c := range []struct {
		word, bits uint64
		wrote      bool
	}{
		{0, 0x20, true}, {7, 0x20, true}, {0x40, 0x20, true}, {all - 0x20, 0x20, true}, {0x20, 0x20, false}, {0x60, 0x20, false}, {0x5027, 0x20, false}, {all, 0x20, false},
		{0, 0x60, true}, {0x20, 0x60, true}, {0x40, 0x60, true}, {all - 0x20, 0x60, true}, {all - 0x40, 0x60, true}, {0x60, 0x60, false}, {0x5067, 0x60, false}, {all, 0x60, false},
	} {
		m := laid(t, 14, 8, c.word)
		if wrote := set(m, 8, c.bits); wrote != c.wrote {
			t.Errorf("set of %#x in %#x: wrote is %v", c.bits, c.word, wrote)
		}
		if set(m, 8, c.bits) {
			t.Errorf("set of %#x in %#x, again, is written", c.bits, c.word)
		}
		if l := mem.Diff(m, laid(t, 14, 8, c.word|c.bits)); len(l) != 0 {
			t.Errorf("set of %#x in %#x: %#x", c.bits, c.word, peek(t, m, 8))
		}
	}
	if set(nil, 0, 0x20) || set(mem.New(14), 1<<14, 0x20) || set(mem.New(14), 1, 0x20) {
		t.Error("there is no slot, and it is written")
	}
}

// P8.2: bits are set in the words that the memory has then; a step's own word and level play no part.
func TestMarkIsOfTheMemory(t *testing.T) {
	for _, level := range append([]int{1, 2, 3, 4}, noLevels...) {
		m := laid(t, 14, 8, 0x1001, 16, 0x8000000000000042, 24, 0x20)
		p := Path{Steps: []Step{{level, 8, all}, {level, 16, 0}, {level, 24, 0x67}}, Why: Found, Level: level, Frame: 0x3000}
		marks(t, m, p, true, laid(t, 14, 8, 0x1021, 16, 0x8000000000000062, 24, 0x60))
	}
}

// P8.2: one slot in several steps is marked for each of them: D, if the last is one of them.
func TestMarkOneSlot(t *testing.T) {
	for _, c := range []struct {
		slots       []uint64
		first, next uint64
	}{
		{[]uint64{8}, 0x60, 0}, {[]uint64{8, 8}, 0x60, 0}, {[]uint64{8, 8, 8, 8}, 0x60, 0}, {[]uint64{8, 16, 8}, 0x60, 0x20}, {[]uint64{8, 8, 16}, 0x20, 0x60},
		{[]uint64{16, 8, 8, 16}, 0x20, 0x60}, {[]uint64{16, 8}, 0x60, 0x20}, {[]uint64{8, 16}, 0x20, 0x60},
	} {
		var p Path
		for i, s := range c.slots {
			p.Steps = append(p.Steps, Step{4 - i, s, 0})
		}
		marks(t, mem.New(14), p, true, laid(t, 14, 8, c.first, 16, c.next))
		marks(t, mem.New(14), p, false, laid(t, 14, 8, c.first/0x20%2*0x20, 16, c.next/0x20%2*0x20))
	}
}

// P8.2, P1: steps whose slots aren't in the memory, or don't lie on a slot, are left out; the others are marked. Of no steps there is nothing to mark.
func TestMarkNoSlots(t *testing.T) {
	wrong := []uint64{1, 7, 9, 0x1001, 1<<14 - 1, 1 << 14, 1<<14 + 8, 1<<14 + 1, 1 << 22, 1 << 52, 1 << 63, 1<<63 + 8, all, all - 7}
	for _, bad := range wrong {
		for _, dirty := range []bool{false, true} {
			last := uint64(0x20)
			if dirty {
				last = 0x60
			}
			marks(t, mem.New(14), Path{Steps: []Step{{1, bad, 7}}}, dirty, mem.New(14))
			marks(t, mem.New(14), Path{Steps: []Step{{2, bad, 7}, {1, 8, 7}}}, dirty, laid(t, 14, 8, last))
			marks(t, mem.New(14), Path{Steps: []Step{{3, 8, 7}, {2, bad, 7}, {1, 16, 7}}}, dirty, laid(t, 14, 8, 0x20, 16, last))
			marks(t, mem.New(14), Path{Steps: []Step{{2, 8, 7}, {1, bad, 7}}}, dirty, laid(t, 14, 8, 0x20))
		}
	}
	for _, p := range []Path{{}, {Steps: []Step{}}, {Why: Absent}, {Why: Reserved}, {Level: 1, Frame: 0x1000, Right: right.All()}} {
		marks(t, laid(t, 14, 0, 7), p, true, laid(t, 14, 0, 7))
		marks(t, laid(t, 14, 0, 7), p, false, laid(t, 14, 0, 7))
	}
}

// P8.2: paths that differ in one thing each aren't the same.
func TestSame(t *testing.T) {
	base := func() Path {
		return Path{Steps: []Step{{4, 0x1028, 0x3007}, {3, 0x3030, 0x27}, {2, 0x38, 0x2067}, {1, 0x2040, 0x1045}}, Why: Found, Right: right.Right{U: true, X: true}, Level: 1, Frame: 0x1000}
	}
	same(t, "one", base(), base(), true)
	for what, change := range map[string]func(*Path){
		"absent":        func(p *Path) { p.Why = Absent },
		"reserved":      func(p *Path) { p.Why = Reserved },
		"another why":   func(p *Path) { p.Why = -1 },
		"with W":        func(p *Path) { p.Right.W = true },
		"without U":     func(p *Path) { p.Right.U = false },
		"without X":     func(p *Path) { p.Right.X = false },
		"level":         func(p *Path) { p.Level = 2 },
		"frame":         func(p *Path) { p.Frame = 0x2000 },
		"frame's low":   func(p *Path) { p.Frame++ },
		"frame's A":     func(p *Path) { p.Frame += 0x20 },
		"a step less":   func(p *Path) { p.Steps = p.Steps[:3] },
		"a first less":  func(p *Path) { p.Steps = p.Steps[1:] },
		"no steps":      func(p *Path) { p.Steps = nil },
		"a step more":   func(p *Path) { p.Steps = append(p.Steps, Step{}) },
		"a step twice":  func(p *Path) { p.Steps = append(p.Steps, p.Steps[3]) },
		"another order": func(p *Path) { p.Steps[1], p.Steps[2] = p.Steps[2], p.Steps[1] },
	} {
		p := base()
		change(&p)
		same(t, what, base(), p, false)
	}
	for i := range 4 {
		for _, level := range []int{0, 5, -1, math.MaxInt, math.MinInt} {
			p := base()
			p.Steps[i].Level = level
			same(t, "a step's level", base(), p, false)
		}
		for k := range 64 {
			p := base()
			p.Steps[i].Slot ^= power(k)
			same(t, "a step's slot", base(), p, false)
			p = base()
			p.Steps[i].Word ^= power(k)
			same(t, "a step's word", base(), p, k == 5 || k == 6)
		}
	}
}

// same is Same of both, in both orders, and leaves them as they are.
func same(t *testing.T, what string, p, q Path, want bool) {
	t.Helper()
	was, other := slices.Clone(p.Steps), slices.Clone(q.Steps)
	if Same(p, q) != want || Same(q, p) != want {
		t.Errorf("%s: Same(%+v, %+v) = %v, %v", what, p, q, Same(p, q), Same(q, p))
	}
	if !slices.Equal(was, p.Steps) || !slices.Equal(other, q.Steps) {
		t.Errorf("%s: Same changes a path", what)
	}
}

// P8.2, R2: paths that differ in A and D alone are the same, in all steps at once, too; and no steps are no steps.
func TestSameButForFlags(t *testing.T) {
	for i := range 256 {
		p, q := Path{Why: Reserved}, Path{Why: Reserved}
		for k := range 4 {
			f := uint64(i) / []uint64{1, 4, 16, 64}[k] % 4
			p.Steps = append(p.Steps, Step{4 - k, uint64(k) * 8, 0x1007})
			q.Steps = append(q.Steps, Step{4 - k, uint64(k) * 8, 0x1007 + f*0x20})
		}
		same(t, "flags", p, q, true)
		q.Steps[i%4].Word ^= 1
		same(t, "flags and P", p, q, false)
	}
	same(t, "nothing", Path{}, Path{}, true)
	same(t, "nil and empty", Path{Why: Absent}, Path{Why: Absent, Steps: []Step{}}, true)
	same(t, "nil and one", Path{}, Path{Steps: []Step{{}}}, false)
}

// wild is a memory whose words are such as walks go through, of all kinds: tables mostly, some absent, some that may not be.
func wild(row *numbers, bits int) *mem.Mem {
	m := mem.New(bits)
	for a := uint64(0); a < power(bits); a += 8 {
		x := part(row.next(), 12, bits-1) + row.next()%128*2 + 1
		if row.next()%4 != 0 && bit(x, 7) {
			x -= 0x80
		}
		switch row.next() % 16 {
		case 0:
			x--
		case 1:
			x += power(int(row.next()%uint64(52-bits)) + bits)
		case 2, 3:
			x += power(63)
		case 4:
			x = row.next()
		case 5:
			x = part(x, 0, 12) // a great page that may be
		}
		m.Store(a, x)
	}
	return m
}

// walks does something with many walks through many memories, each with the place it began at.
func walks(t *testing.T, do func(m *mem.Mem, p Place, a uint64, nxe bool)) {
	t.Helper()
	row := numbers(8)
	for i := range 45 {
		bits := allBits[i%4]
		if i%15 == 0 {
			bits = allBits[i/15*4]
		}
		m := wild(&row, bits)
		for range 120 {
			do(m, Top(part(row.next(), 0, bits-1)), row.next(), row.next()%4 != 0)
		}
	}
}

// P8.1: walks of all kinds are what the document says; each way to end is among them, on each level.
func TestWild(t *testing.T) {
	ends := map[[2]int]int{}
	walks(t, func(m *mem.Mem, p Place, a uint64, nxe bool) {
		m.Forget()
		got, want := From(m, p, a, nxe), gone(m, p, a, nxe)
		if !equal(got, want) {
			t.Fatalf("From(%+v, %#x, %v) =\n%+v, not\n%+v", p, a, nxe, got, want)
		}
		if l := m.Trace(); !slices.Equal(l, slots(got)) {
			t.Fatalf("From(%+v, %#x, %v) loads %#x", p, a, nxe, l)
		}
		ends[[2]int{got.Why, len(got.Steps)}]++
	})
	for _, why := range []int{Found, Absent, Reserved} {
		for n := 1; n <= 4; n++ {
			if got := ends[[2]int{why, n}]; (got == 0) != (why == Found && n == 1) {
				t.Errorf("%d walks of %d steps end so: %d", got, n, why)
			}
		}
	}
}

// P8.3: from the place to which a step leads a walk goes on as the whole one does.
func TestGoesOn(t *testing.T) {
	walks(t, func(m *mem.Mem, p Place, a uint64, nxe bool) {
		whole := From(m, p, a, nxe)
		for i, s := range whole.Steps {
			rest := whole
			rest.Steps = whole.Steps[i:]
			if got := From(m, p, a, nxe); !equal(got, rest) || !Same(got, rest) {
				t.Fatalf("from %+v, of %#x:\n%+v, not\n%+v", p, a, got, rest)
			}
			p = Place{s.Level - 1, part(s.Word, 12, 51), left(p.Right, s.Word)}
		}
	})
}

// P8.3: a walk hangs on no A and no D: with others in all slots of the memory it is the same, and ends with the same things.
func TestHangsOnNoFlags(t *testing.T) {
	row := numbers(83)
	for i := range 12 {
		bits := allBits[i%3]
		m := wild(&row, bits)
		n := m.Copy()
		for a := uint64(0); a < power(bits); a += 8 {
			x := peek(t, n, a)
			n.Store(a, x^row.next()%4*0x20)
		}
		for range 300 {
			p, a, nxe := Top(part(row.next(), 0, bits-1)), row.next(), row.next()%4 != 0
			one, other := From(m, p, a, nxe), From(n, p, a, nxe)
			if !Same(one, other) {
				t.Fatalf("From(%+v, %#x, %v) =\n%+v, and with other flags\n%+v", p, a, nxe, one, other)
			}
		}
	}
}

// P8.3, P8.2: a walk that is marked is the same, as often as it is; what marking changes are flags of its own slots alone.
func TestMarkedIsTheSame(t *testing.T) {
	row := numbers(88)
	walks(t, func(m *mem.Mem, p Place, a uint64, nxe bool) {
		path, was := From(m, p, a, nxe), m.Copy()
		dirty := row.next()%2 == 0
		Mark(m, path, dirty)
		for _, slot := range mem.Diff(was, m) {
			before, now := peek(t, was, slot), peek(t, m, slot)
			if !slices.Contains(slots(path), slot) || before&^0x60 != now&^0x60 || before&now != before {
				t.Fatalf("Mark(%+v, %v): the slot %#x is %#x, it was %#x", path, dirty, slot, now, before)
			}
		}
		again := From(m, p, a, nxe)
		if !Same(path, again) {
			t.Fatalf("From(%+v, %#x, %v) =\n%+v, and marked\n%+v", p, a, nxe, path, again)
		}
		for i, s := range again.Steps {
			last := i == len(again.Steps)-1
			if !bit(s.Word, 5) || last && dirty && path.Why == Found && !bit(s.Word, 6) {
				t.Fatalf("marked, dirty %v: %+v", dirty, again)
			}
		}
		was = m.Copy()
		Mark(m, again, dirty)
		if l := mem.Diff(was, m); len(l) != 0 {
			t.Fatalf("marked again: %#x", l)
		}
	})
}

// R3: what is told is the caller's own.
func TestPathsAreApart(t *testing.T) {
	m := chain(t, 14, plain)
	p, q := From(m, Top(0x1000), one, true), From(m, Top(0x1000), one, true)
	want := stepsOf(t, m, 4)
	clear(p.Steps)
	p.Steps = append(p.Steps[:2], Step{9, 9, 9}, Step{9, 9, 9})
	if !slices.Equal(q.Steps, want) {
		t.Errorf("another walk has %+v", q.Steps)
	}
	if l := From(m, Top(0x1000), one, true).Steps; !slices.Equal(l, want) {
		t.Errorf("a later walk has %+v", l)
	}
}
