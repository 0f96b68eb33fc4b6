package psc

import (
	"maps"
	"math"
	"math/big"
	"slices"
	"testing"

	"dormer/api"
	"dormer/cache"
	"dormer/mem"
	"dormer/right"
	"dormer/walk"
)

// The calls, as the document lists them, and the array that its ways ask for.
var (
	_ func(room int) *Psc                                                          = New
	_ func(p *Psc, pcid int, a uint64, w walk.Path, from walk.Place, picks [3]int) = (*Psc).Fill
	_ func(p *Psc, pcid int, a uint64) (walk.Place, bool)                          = (*Psc).Deepest
	_ func(p *Psc, pcid int, a uint64)                                             = (*Psc).DropPage
	_ func(p *Psc, pcid int)                                                       = (*Psc).DropOf
	_ func(p *Psc)                                                                 = (*Psc).Clear
	_ func(p *Psc, level, pick int)                                                = (*Psc).Evict
	_ func(p *Psc, level int) int                                                  = (*Psc).Len
	_ [3]*cache.Cache                                                              = Psc{}.caches
)

const all = math.MaxUint64

// noLevels are numbers that have no lines, some of which would have, if they were cut to fewer bits, or taken from 4 and wrapped round.
var noLevels = []int{1, 5, 0, -1, -2, -3, -4, -64, 6, 7, 8, 9, 63, 64, 256 + 2, 256 + 3, 256 + 4, 1<<16 + 2, 1<<32 + 2, 1<<32 + 3, 1<<32 + 4,
	-1<<32 + 2, -1<<32 + 4, 1 << 62, -1 << 62, math.MaxInt, math.MaxInt - 1, math.MinInt, math.MinInt + 1, math.MinInt + 2, math.MinInt + 3, math.MinInt + 4, math.MinInt + 5}

// allLevels are those that have lines, and those that have none.
var allLevels = append([]int{4, 3, 2}, noLevels...)

// rooms are asked for, and what room there is then on each level, as figures.
var rooms = []struct{ asked, room int }{
	{0, 0}, {1, 1}, {2, 2}, {3, 3}, {4, 4}, {8, 8}, {63, 63}, {64, 64}, {65, 64}, {66, 64}, {128, 64}, {256, 64}, {256 + 3, 64}, {1<<32 + 5, 64}, {math.MaxInt, 64},
	{-1, 0}, {-2, 0}, {-64, 0}, {-256 + 3, 0}, {-1<<32 + 5, 0}, {math.MinInt, 0}, {math.MinInt + 64, 0},
}

// picks are around 0, around the greatest room, and up to the greatest and least int.
var picks = []int{0, 1, 2, 3, 4, 5, 7, 63, 64, 65, 255, 256, 4095, 1 << 31, 1 << 32, 1<<32 + 1, 1 << 62, math.MaxInt - 1, math.MaxInt,
	-1, -2, -3, -4, -5, -7, -63, -64, -65, -255, -256, -4096, -1 << 31, -1 << 32, -1<<32 - 1, -1 << 62, math.MinInt + 1, math.MinInt}

// pcids are such as are some, and such as are none.
var pcids = []int{0, 1, 2, 255, 256, 4094, 4095, 4096, 1 << 32, 1<<32 + 1, math.MaxInt, -1, -2, -4095, -1 << 32, math.MinInt}

// power is two to the i, and bit whether the bit i of x is 1, by doubling and division alone.
func power(i int) uint64 {
	p := uint64(1)
	for range i {
		p += p
	}
	return p
}

func bit(x uint64, i int) bool { return x/power(i)%2 == 1 }

// part is x without its bits below from and above to.
func part(x uint64, from, to int) uint64 {
	sum := uint64(0)
	for i := from; i <= to; i++ {
		if bit(x, i) {
			sum += power(i)
		}
	}
	return sum
}

// numberOf is the document's number of a line of a level.
func numberOf(a uint64, level int) uint64 {
	by := uint64(4096)
	for range level - 1 {
		by *= 512
	}
	return a % power(48) / by
}

// narrow is what a word leaves of rights.
func narrow(r right.Right, x uint64) right.Right {
	return right.Right{W: r.W && bit(x, 1), U: r.U && bit(x, 2), X: r.X && !bit(x, 63)}
}

// rightOf and flagsOf are the eight rights, and the bits of a word beside P that leave these.
func rightOf(i int) right.Right {
	return right.Right{W: i/4%2 == 1, U: i/2%2 == 1, X: i%2 == 1}
}

func flagsOf(i int) uint64 {
	return uint64(i/4%2)*2 + uint64(i/2%2)*4 + uint64(1-i%2)*power(63)
}

// numbers is a row of numbers that look unlike, the same at each run.
type numbers uint64

func (n *numbers) next() uint64 {
	*n = *n*6364136223846793005 + 1442695040888963407
	return uint64(*n) ^ uint64(*n)>>29
}

func (n *numbers) below(i int) int { return int(n.next() >> 1 % uint64(i)) }

// pick is any number: a small one, one of the list, or one of all bits.
func (n *numbers) pick() int {
	switch n.below(3) {
	case 0:
		return n.below(200) - 100
	case 1:
		return picks[n.below(len(picks))]
	}
	return int(n.next())
}

// line is one of a level, as the document has it.
type line struct {
	pcid   int
	number uint64
	table  uint64
	right  right.Right
}

// book is a Psc as the document says it: of each level its lines in the order in which they came.
type book struct {
	room int
	rows [5][]line
}

func (b *book) fill(pcid int, a uint64, w walk.Path, from walk.Place, picks [3]int) {
	r := from.Right
	for i, s := range w.Steps {
		if i == len(w.Steps)-1 || !bit(s.Word, 0) || s.Level != 4 && s.Level != 3 && s.Level != 2 || s.Level != 4 && bit(s.Word, 7) {
			return
		}
		r = narrow(r, s.Word)
		b.put(s.Level, line{pcid, numberOf(a, s.Level), part(s.Word, 12, 51), r}, picks[4-s.Level])
	}
}

func (b *book) put(level int, l line, pick int) {
	row := b.rows[level]
	for i := range row {
		if row[i].pcid == l.pcid && row[i].number == l.number {
			row[i] = l
			return
		}
	}
	if b.room == 0 {
		return
	}
	if len(row) == b.room {
		b.evict(level, pick)
	}
	b.rows[level] = append(b.rows[level], l)
}

// evict lets the one be gone that a number picks, by numbers without an end.
func (b *book) evict(level, pick int) {
	if level != 4 && level != 3 && level != 2 || len(b.rows[level]) == 0 {
		return
	}
	n := big.NewInt(int64(len(b.rows[level])))
	i := int(new(big.Int).Mod(big.NewInt(int64(pick)), n).Int64())
	b.rows[level] = slices.Concat(b.rows[level][:i], b.rows[level][i+1:])
}

// drop leaves of each level those that aren't so.
func (b *book) drop(is func(level int, l line) bool) {
	for level, row := range b.rows {
		b.rows[level] = slices.DeleteFunc(slices.Clone(row), func(l line) bool { return is(level, l) })
	}
}

func (b *book) dropPage(pcid int, a uint64) {
	b.drop(func(level int, l line) bool { return l.pcid == pcid && l.number == numberOf(a, level) })
}

func (b *book) deepest(pcid int, a uint64) (walk.Place, bool) {
	for _, level := range []int{2, 3, 4} {
		for _, l := range b.rows[level] {
			if l.pcid == pcid && l.number == numberOf(a, level) {
				return walk.Place{Level: level - 1, Table: l.table, Right: l.right}, true
			}
		}
	}
	return walk.Place{}, false
}

// same holds a Psc against a book: how many lines there are, and where walks of these addresses go on.
func same(t *testing.T, what string, p *Psc, b *book, pcids []int, addresses []uint64) {
	t.Helper()
	counts(t, what, p, len(b.rows[4]), len(b.rows[3]), len(b.rows[2]))
	for _, pcid := range pcids {
		for _, a := range addresses {
			want, there := b.deepest(pcid, a)
			if x, is := p.Deepest(pcid, a); x != want || is != there {
				t.Fatalf("%s: Deepest(%d, %#x) = %+v, %v, not %+v, %v", what, pcid, a, x, is, want, there)
			}
		}
	}
}

// counts holds how many lines there are of the levels 4, 3 and 2 against these; of others there are none.
func counts(t *testing.T, what string, p *Psc, four, three, two int) {
	t.Helper()
	if p.Len(4) != four || p.Len(3) != three || p.Len(2) != two {
		t.Fatalf("%s: Len of 4, 3, 2 is %d, %d, %d, not %d, %d, %d", what, p.Len(4), p.Len(3), p.Len(2), four, three, two)
	}
	for _, level := range noLevels {
		if n := p.Len(level); n != 0 {
			t.Fatalf("%s: Len(%d) = %d", what, level, n)
		}
	}
}

// one is an address of four places that aren't the same: 5, 6, 7 and 8, and 0x123 behind them; nth has places of its own for each number below 256.
const one = 5<<39 + 6<<30 + 7<<21 + 8<<12 + 0x123

func nth(n int) uint64 { return uint64(n) * (1<<39 + 1<<30 + 1<<21 + 1<<12) }

// beside is an address whose place of a level alone is another one.
func beside(a uint64, level int) uint64 { return a ^ power(12+9*(level-1)+8) }

// steps are such that lead from the level 4 down to these ones: that of a level has the table of 0x1000 by its level, and all rights.
func steps(levels ...int) []walk.Step {
	var list []walk.Step
	for _, level := range levels {
		list = append(list, walk.Step{Level: level, Slot: uint64(level) * 8, Word: uint64(level)*0x1000 + 7})
	}
	return list
}

// placeOf is where a line that such a step lays leads.
func placeOf(level int) walk.Place {
	return walk.Place{Level: level - 1, Table: uint64(level) * 0x1000, Right: right.All()}
}

// lay fills with such steps of these levels, and one more, which isn't kept.
func lay(p *Psc, pcid int, a uint64, levels ...int) {
	p.Fill(pcid, a, walk.Path{Steps: steps(append(levels, 1)...)}, walk.Top(0), [3]int{})
}

// kept is which lines there are over an address, by their levels: that of the level 2 is told of the address itself, others of those beside it, in the place of the level below theirs.
func kept(p *Psc, pcid int, a uint64) map[int]walk.Place {
	told := map[int]walk.Place{}
	for level := 2; level <= 4; level++ {
		at := a
		if level > 2 {
			at = beside(a, level-1)
		}
		if x, is := p.Deepest(pcid, at); is && x.Level == level-1 {
			told[level] = x
		}
	}
	return told
}

// has holds the lines over an address against these ones of lay.
func has(t *testing.T, what string, p *Psc, pcid int, a uint64, levels ...int) {
	t.Helper()
	want := map[int]walk.Place{}
	for _, level := range levels {
		want[level] = placeOf(level)
	}
	hasPlaces(t, what, p, pcid, a, want)
}

func hasPlaces(t *testing.T, what string, p *Psc, pcid int, a uint64, want map[int]walk.Place) {
	t.Helper()
	if told := kept(p, pcid, a); !maps.Equal(told, want) {
		t.Fatalf("%s: of %d and %#x: %+v, not %+v", what, pcid, a, told, want)
	}
}

// subsets are all sets of the levels 4, 3 and 2.
func subsets() [][]int {
	var list [][]int
	for i := range 8 {
		var set []int
		for k, level := range []int{4, 3, 2} {
			if i/[]int{4, 2, 1}[k]%2 == 1 {
				set = append(set, level)
			}
		}
		list = append(list, set)
	}
	return list
}

// oneSlots are the slots of one's walk through chain.
var oneSlots = [4]uint64{0x1028, 0x3030, 0x0038, 0x2040}

// chain is a memory of four tables (0x1000, 0x3000, 0, 0x2000, from the root on), and a page, on one's way, with all rights.
func chain(t *testing.T, bits int) *mem.Mem {
	t.Helper()
	m := mem.New(bits)
	for i, x := range []uint64{0x3007, 0x0007, 0x2007, 0x3007} {
		store(t, m, oneSlots[i], x)
	}
	return m
}

func store(t *testing.T, m *mem.Mem, a, x uint64) {
	t.Helper()
	if e := m.Store(a, x); e != api.OK {
		t.Fatalf("Store(%#x, %#x) = %v", a, x, e)
	}
}

// P11.1, P11.2: the document's example: behind a walk of four steps, filled, a walk goes on at the level 1.
func TestExample(t *testing.T) {
	m, p, top := chain(t, 14), New(1), walk.Top(0x1000)
	w := walk.From(m, top, one, true)
	if len(w.Steps) != 4 || w.Why != walk.Found {
		t.Fatalf("the walk: %+v", w)
	}
	p.Fill(3, one, w, top, [3]int{})
	want := walk.Place{Level: 1, Table: 0x2000, Right: right.All()}
	if x, is := p.Deepest(3, one); !is || x != want {
		t.Errorf("Deepest = %+v, %v", x, is)
	}
	hasPlaces(t, "filled", p, 3, one, map[int]walk.Place{4: {Level: 3, Table: 0x3000, Right: right.All()}, 3: {Level: 2, Table: 0, Right: right.All()}, 2: want})
	counts(t, "filled", p, 1, 1, 1)
}

// P11.1: there are no lines at first, and no place.
func TestNew(t *testing.T) {
	for _, r := range rooms {
		p := New(r.asked)
		if p == nil {
			t.Fatalf("New(%d) = nil", r.asked)
		}
		counts(t, "new", p, 0, 0, 0)
		for _, pcid := range pcids {
			for _, a := range []uint64{0, one, all, 1 << 47, 1 << 63} {
				if x, is := p.Deepest(pcid, a); is || x != (walk.Place{}) {
					t.Errorf("New(%d).Deepest(%d, %#x) = %+v, %v", r.asked, pcid, a, x, is)
				}
			}
		}
	}
}

// P11.1: as many lines are kept of each level as there is room for, each level by itself; in a full one the oldest goes by the pick 0.
func TestRoom(t *testing.T) {
	for _, r := range rooms {
		p := New(r.asked)
		for n := range 100 {
			lay(p, 7, nth(n), 4, 3, 2)
			full := min(n+1, r.room)
			counts(t, "filled", p, full, full, full)
			for i := range n + 1 {
				if i > n-r.room {
					has(t, "there", p, 7, nth(i), 4, 3, 2)
				} else {
					has(t, "gone", p, 7, nth(i))
				}
			}
		}
	}
	for _, level := range []int{4, 3, 2} {
		for _, r := range rooms {
			p := New(r.asked)
			for n := range 70 {
				lay(p, 7, nth(n), level)
			}
			lens := map[int]int{level: r.room}
			counts(t, "one level alone", p, lens[4], lens[3], lens[2])
		}
	}
}

// P11.1, P11.2: without any room nothing is kept, and nothing else happens.
func TestNoRoom(t *testing.T) {
	for _, room := range []int{0, -1, -64, math.MinInt} {
		for _, pick := range picks {
			p := New(room)
			p.Fill(0, one, walk.Path{Steps: steps(4, 3, 2, 1)}, walk.Top(0), [3]int{pick, pick, pick})
			p.Evict(4, pick)
			p.DropPage(0, one)
			p.DropOf(0)
			p.Clear()
			counts(t, "no room", p, 0, 0, 0)
			has(t, "no room", p, 0, one)
		}
	}
}

// P11.1: paths of no step up to such that are longer than any walk: what is kept are the steps but the last, where they lead.
func TestLengths(t *testing.T) {
	for _, c := range []struct{ levels, kept []int }{
		{nil, nil}, {[]int{}, nil}, {[]int{4}, nil}, {[]int{3}, nil}, {[]int{2}, nil}, {[]int{1}, nil},
		{[]int{4, 3}, []int{4}}, {[]int{4, 3, 2}, []int{4, 3}}, {[]int{4, 3, 2, 1}, []int{4, 3, 2}}, {[]int{4, 3, 2, 2}, []int{4, 3, 2}},
		{[]int{4, 3, 2, 1, 0}, []int{4, 3, 2}}, {[]int{4, 3, 2, 1, 4, 3, 2, 1}, []int{4, 3, 2}}, {[]int{4, 3, 2, 4, 3, 2}, []int{4, 3, 2}},
		{[]int{2, 3, 4, 1}, []int{2, 3, 4}}, {[]int{4, 4, 4, 4, 4, 4, 4}, []int{4}}, {[]int{3, 3, 3}, []int{3}}, {[]int{2, 2, 2}, []int{2}}, {[]int{2, 4, 2, 4, 3}, []int{2, 4}},
		{[]int{4, 4}, []int{4}}, {[]int{3, 4}, []int{3}}, {[]int{3, 2}, []int{3}}, {[]int{2, 1}, []int{2}}, {[]int{3, 2, 1}, []int{3, 2}}, {[]int{1, 2, 3, 4}, nil},
	} {
		for _, why := range []int{walk.Found, walk.Absent, walk.Reserved, 3, -1} { // why it ended plays no part
			p := New(3)
			w := walk.Path{Steps: steps(c.levels...), Why: why, Level: 1, Frame: 0x9000}
			p.Fill(5, one, w, walk.Top(0), [3]int{})
			has(t, "path", p, 5, one, c.kept...)
			lens := map[int]int{}
			for _, level := range c.kept {
				lens[level] = 1
			}
			counts(t, "path", p, lens[4], lens[3], lens[2])
		}
	}
	long := walk.Path{}
	for range 1000 {
		long.Steps = append(long.Steps, steps(4, 3, 2)...)
	}
	p := New(1)
	p.Fill(5, one, long, walk.Top(0), [3]int{1, 2, 3})
	has(t, "long", p, 5, one, 4, 3, 2)
	counts(t, "long", p, 1, 1, 1)
}

// P11.1: of steps of one level each is put in the place of the one ahead of it: the last one of them stays, with the rights that all have left.
func TestOneLevelTwice(t *testing.T) {
	for _, level := range []int{4, 3, 2} {
		p := New(2)
		w := walk.Path{Steps: []walk.Step{{Level: level, Word: 0x5007}, {Level: level, Word: 0x6005}, {Level: level, Word: 0x7003}, {Level: level, Word: 0x8007}}}
		p.Fill(0, one, w, walk.Top(0), [3]int{})
		hasPlaces(t, "twice", p, 0, one, map[int]walk.Place{level: {Level: level - 1, Table: 0x7000, Right: right.Right{X: true}}})
		if p.Len(level) != 1 {
			t.Errorf("Len(%d) = %d", level, p.Len(level))
		}
	}
}

// P11.1: a path that is longer than any walk is gone to its end, through each level many times: the last step of each, but the last of all, stays.
func TestLongPath(t *testing.T) {
	for n := range 40 {
		var w walk.Path
		want := map[int]walk.Place{}
		for i := range n {
			level := []int{4, 2, 3}[i%3]
			x := uint64(i+1)*0x1000 + 7
			w.Steps = append(w.Steps, walk.Step{Level: level, Word: x})
			if i < n-1 {
				want[level] = walk.Place{Level: level - 1, Table: x - 7, Right: right.All()}
			}
		}
		p := New(1)
		p.Fill(0, one, w, walk.Top(0), [3]int{1, 2, 3})
		hasPlaces(t, "long", p, 0, one, want)
	}
}

// P11.1: the last step is never kept, whatever its word, and though it leads on; with a step behind it it is.
func TestLastStep(t *testing.T) {
	for _, ahead := range [][]int{{}, {4}, {4, 3}} {
		level := 4 - len(ahead)
		for i := range 64 {
			for _, word := range []uint64{power(i), power(i) | 1, power(i) | 7, all ^ 0x80, all, 0, 1} {
				p, q := New(3), New(3)
				last := walk.Step{Level: level, Word: word}
				p.Fill(1, one, walk.Path{Steps: append(steps(ahead...), last)}, walk.Top(0), [3]int{})
				has(t, "the last one", p, 1, one, ahead...)
				q.Fill(1, one, walk.Path{Steps: append(steps(ahead...), last, walk.Step{})}, walk.Top(0), [3]int{})
				leads := bit(word, 0) && (level == 4 || !bit(word, 7))
				if _, is := kept(q, 1, one)[level]; is != leads {
					t.Fatalf("%#x on the level %d, with a step behind it, is kept: %v", word, level, is)
				}
			}
		}
	}
}

// P11.1: where steps end in the midst of a path (a word without P, a leaf, a level that is none), what was put ahead of it stays, and nothing is put behind it.
func TestEndsInTheMidst(t *testing.T) {
	ends := []walk.Step{{Level: 1, Word: 0x9007}, {Level: 1, Word: 0x9087}, {Level: 1, Word: 0}}
	for _, level := range noLevels {
		ends = append(ends, walk.Step{Level: level, Word: 0x9007}, walk.Step{Level: level, Word: all}, walk.Step{Level: level})
	}
	for _, level := range []int{4, 3, 2} {
		ends = append(ends, walk.Step{Level: level, Word: 0x9006}, walk.Step{Level: level, Word: all - 1}, walk.Step{Level: level}, walk.Step{Level: level, Word: 0x9086})
		if level != 4 {
			ends = append(ends, walk.Step{Level: level, Word: 0x9087}, walk.Step{Level: level, Word: all}, walk.Step{Level: level, Word: 0x81})
		}
	}
	for _, end := range ends {
		for at, there := range [][]int{{}, {4}, {4, 3}, {4, 3, 2}} {
			path := slices.Insert(steps(4, 3, 2, 1), at, end)
			p := New(4)
			p.Fill(9, one, walk.Path{Steps: path}, walk.Top(0), [3]int{})
			has(t, "ended", p, 9, one, there...)
			path = append(slices.Concat(steps(there...), []walk.Step{end}), steps(4, 3, 2, 4, 3, 2, 1)...)
			p = New(4)
			p.Fill(9, one, walk.Path{Steps: path}, walk.Top(0), [3]int{})
			has(t, "ended, and more behind it", p, 9, one, there...)
			p = New(4)
			lay(p, 9, one, 4, 3, 2)
			p.Fill(9, one, walk.Path{Steps: path[at:]}, walk.Place{Level: 4}, [3]int{}) // what is put now has no rights
			has(t, "ended at once: what was there stays", p, 9, one, 4, 3, 2)
		}
	}
}

// P11.1: on the level 4 there is no leaf: a word with PS is a table's.
func TestGreatOnTop(t *testing.T) {
	p := New(1)
	p.Fill(0, one, walk.Path{Steps: []walk.Step{{Level: 4, Word: 0x9087}, {Level: 3, Word: 0xA007}, {Level: 2}}}, walk.Top(0), [3]int{})
	hasPlaces(t, "PS on the level 4", p, 0, one, map[int]walk.Place{4: {Level: 3, Table: 0x9000, Right: right.All()}, 3: {Level: 2, Table: 0xA000, Right: right.All()}})
}

// P11.1: of a word the bits 12 to 51 are the table's, each of them; no other one plays a part in it.
func TestTables(t *testing.T) {
	for _, level := range []int{4, 3, 2} {
		for i := range 64 {
			for _, word := range []uint64{power(i) | 1, all ^ power(i) | 1} {
				word = word &^ 0x80
				p := New(1)
				p.Fill(0, one, walk.Path{Steps: []walk.Step{{Level: level, Slot: all, Word: word}, {}}}, walk.Top(0x5000), [3]int{})
				want := walk.Place{Level: level - 1, Table: part(word, 12, 51), Right: narrow(right.All(), word)}
				hasPlaces(t, "table", p, 0, one, map[int]walk.Place{level: want})
			}
		}
	}
}

// P11.1: rights are those of the begin, narrowed step by step, in all ways of three words and a begin.
func TestRights(t *testing.T) {
	for i := range 8 * 8 * 8 * 8 {
		begin, words := i/512, [3]uint64{flagsOf(i/64%8) + 0x4001, flagsOf(i/8%8) + 0x3001, flagsOf(i%8) + 0x2001}
		p := New(1)
		var path walk.Path
		want, r := map[int]walk.Place{}, rightOf(begin)
		for k, x := range words {
			path.Steps = append(path.Steps, walk.Step{Level: 4 - k, Word: x})
			left := []int{i / 64 % 8, i / 64 % 8 & (i / 8), i / 64 % 8 & (i / 8) & i}[k] & begin
			r = narrow(r, x)
			if r != rightOf(left) {
				t.Fatalf("%d: the test's own rights %+v, %+v", i, r, rightOf(left))
			}
			want[4-k] = walk.Place{Level: 3 - k, Table: uint64(4-k) * 0x1000, Right: r}
		}
		path.Steps = append(path.Steps, walk.Step{Level: 1, Word: 0x1001})
		path.Right = rightOf(i * 5 % 8) // a path's own rights play no part
		p.Fill(0, one, path, walk.Place{Level: 4, Right: rightOf(begin)}, [3]int{})
		hasPlaces(t, "rights", p, 0, one, want)
	}
}

// P11.1: a step that ends a path takes no rights from what was put ahead of it, and one that is the last neither.
func TestRightsOfTheEnd(t *testing.T) {
	for _, end := range []walk.Step{{Level: 2, Word: 0x9000}, {Level: 2, Word: power(63) + 0x81}, {Level: 1, Word: 1}, {Level: 2, Word: power(63) + 1}} {
		p := New(1)
		p.Fill(0, one, walk.Path{Steps: append(steps(4, 3), end)}, walk.Top(0), [3]int{})
		has(t, "the end", p, 0, one, 4, 3)
	}
}

// P11.1: paths that begin below the level 4, with any rights at their begin; of the begin its rights alone play a part.
func TestBegins(t *testing.T) {
	for i := range 8 {
		r := rightOf(i)
		for _, c := range []struct{ levels, kept []int }{{[]int{4, 3, 2, 1}, []int{4, 3, 2}}, {[]int{3, 2, 1}, []int{3, 2}}, {[]int{3, 2}, []int{3}}, {[]int{2, 1}, []int{2}}, {[]int{1}, nil}, {nil, nil}} {
			for _, level := range append([]int{4, 3, 2}, noLevels...) {
				p := New(2)
				from := walk.Place{Level: level, Table: all, Right: r}
				p.Fill(6, one, walk.Path{Steps: steps(c.levels...)}, from, [3]int{})
				want := map[int]walk.Place{}
				for _, k := range c.kept {
					want[k] = walk.Place{Level: k - 1, Table: uint64(k) * 0x1000, Right: r}
				}
				hasPlaces(t, "begin", p, 6, one, want)
			}
		}
	}
}

// P11.1: what was there on a level above stays, when a path that begins below it is filled.
func TestBeginsBelow(t *testing.T) {
	p := New(1)
	lay(p, 0, one, 4, 3, 2)
	less := right.Right{U: true}
	p.Fill(0, one, walk.Path{Steps: []walk.Step{{Level: 2, Word: 0x8007}, {Level: 1}}}, walk.Place{Level: 2, Right: less}, [3]int{})
	hasPlaces(t, "below", p, 0, one, map[int]walk.Place{4: placeOf(4), 3: placeOf(3), 2: {Level: 1, Table: 0x8000, Right: less}})
	p.Fill(0, one, walk.Path{Steps: []walk.Step{{Level: 3, Word: 0x9001}, {Level: 2, Word: 0xA007}}}, walk.Top(0), [3]int{})
	hasPlaces(t, "above", p, 0, one, map[int]walk.Place{4: placeOf(4), 3: {Level: 2, Table: 0x9000, Right: right.Right{X: true}}, 2: {Level: 1, Table: 0x8000, Right: less}})
}

// without is the numbers of 0 to n - 1 without one of them, and n behind them.
func without(n, gone int) []int {
	var list []int
	for i := range n + 1 {
		if i != gone {
			list = append(list, i)
		}
	}
	return list
}

// thereOf is which of the numbers below n have a line of a level.
func thereOf(p *Psc, n, level int) []int {
	var list []int
	for i := range n {
		if _, is := kept(p, 0, nth(i))[level]; is {
			list = append(list, i)
		}
	}
	return list
}

// P11.1: which pick is which level's, and which line goes by it, as figures and by numbers without an end.
func TestPicks(t *testing.T) {
	p := New(3)
	for i := range 3 {
		lay(p, 0, nth(i), 4, 3, 2)
	}
	p.Fill(0, nth(3), walk.Path{Steps: steps(4, 3, 2, 1)}, walk.Top(0), [3]int{0, 1, -1})
	for level, want := range map[int][]int{4: {1, 2, 3}, 3: {0, 2, 3}, 2: {0, 1, 3}} {
		if l := thereOf(p, 4, level); !slices.Equal(l, want) {
			t.Errorf("of the level %d there are %v, not %v", level, l, want)
		}
	}
	for _, n := range []int{1, 2, 3, 5} {
		for i, pick := range picks {
			three := [3]int{pick, picks[(i+7)%len(picks)], picks[(i+19)%len(picks)]}
			p := New(n)
			for k := range n {
				p.Fill(0, nth(k), walk.Path{Steps: steps(4, 3, 2, 1)}, walk.Top(0), three) // with room nothing is picked
			}
			p.Fill(0, nth(n), walk.Path{Steps: steps(4, 3, 2, 1)}, walk.Top(0), three)
			for k, level := range []int{4, 3, 2} {
				gone := new(big.Int).Mod(big.NewInt(int64(three[k])), big.NewInt(int64(n)))
				if l := thereOf(p, n+1, level); !slices.Equal(l, without(n, int(gone.Int64()))) {
					t.Errorf("%d lines, picks %d: of the level %d there are %v", n, three, level, l)
				}
			}
		}
	}
}

// P11.1: the pick is the level's, not the step's: of a path that begins below the level 4, and of one in another order, too.
func TestPicksBelow(t *testing.T) {
	for _, levels := range [][]int{{3, 2, 1}, {2, 1}, {3, 1}, {4, 2, 1}, {2, 3, 4, 1}, {4, 1}} {
		p := New(3)
		for i := range 3 {
			lay(p, 0, nth(i), 4, 3, 2)
		}
		p.Fill(0, nth(3), walk.Path{Steps: steps(levels...)}, walk.Place{Level: levels[0], Right: right.All()}, [3]int{2, 0, 1})
		for _, level := range []int{4, 3, 2} {
			want := []int{0, 1, 2}
			if slices.Contains(levels, level) {
				want = map[int][]int{4: {0, 1, 3}, 3: {1, 2, 3}, 2: {0, 2, 3}}[level]
			}
			if l := thereOf(p, 4, level); !slices.Equal(l, want) {
				t.Errorf("%v: of the level %d there are %v, not %v", levels, level, l, want)
			}
		}
	}
}

// P11.1: a line that is there already is another one in its place, also in a full cache, and whatever is picked; the others stay, and so does the order.
func TestFillAgain(t *testing.T) {
	for _, pick := range picks {
		for at := range 3 {
			p := New(3)
			for i := range 3 {
				lay(p, 0, nth(i), 4, 3, 2)
			}
			other := walk.Path{Steps: []walk.Step{{Level: 4, Word: 0xB005}, {Level: 3, Word: 0xC007}, {Level: 2, Word: 0xD007}, {Level: 1}}}
			p.Fill(0, nth(at), other, walk.Top(0), [3]int{pick, pick, pick})
			less := right.Right{U: true, X: true}
			for i := range 3 {
				want := map[int]walk.Place{4: placeOf(4), 3: placeOf(3), 2: placeOf(2)}
				if i == at {
					want = map[int]walk.Place{4: {Level: 3, Table: 0xB000, Right: less}, 3: {Level: 2, Table: 0xC000, Right: less}, 2: {Level: 1, Table: 0xD000, Right: less}}
				}
				hasPlaces(t, "again", p, 0, nth(i), want)
			}
			lay(p, 0, nth(3), 4, 3, 2) // by the pick 0 the first one that came goes
			for _, level := range []int{4, 3, 2} {
				if l := thereOf(p, 4, level); !slices.Equal(l, []int{1, 2, 3}) {
					t.Fatalf("filled again at %d: of the level %d there are %v", at, level, l)
				}
			}
		}
	}
}

// P11.1 and 'Words': the keys and lines as they stand in the caches.
func TestKeys(t *testing.T) {
	for _, a := range []uint64{0, one, all, 1 << 47, 1<<47 - 1, 1 << 48, 0xFFFF800000000000, 0x0123456789ABCDEF, nth(511), nth(255), 511 << 39, 511 << 30, 511 << 21, 511 << 12, 0xFFF} {
		for _, pcid := range pcids {
			p := New(2)
			lay(p, pcid, a, 4, 3, 2)
			for i, level := range []int{4, 3, 2} {
				k := cache.Key{Pcid: pcid, Level: level, Tag: numberOf(a, level)}
				if l := p.caches[i].Keys(); !slices.Equal(l, []cache.Key{k}) {
					t.Fatalf("of %#x: %+v, not %+v", a, l, k)
				}
				want := cache.Line{Frame: uint64(level) * 0x1000, Right: right.All()}
				if l, is := p.caches[i].Get(k); !is || l != want {
					t.Fatalf("of %#x: %+v, %v, not %+v", a, l, is, want)
				}
			}
		}
	}
	p := New(1)
	lay(p, 3, one, 4, 3, 2)
	for i, k := range []cache.Key{{Pcid: 3, Level: 4, Tag: 5}, {Pcid: 3, Level: 3, Tag: 2566}, {Pcid: 3, Level: 2, Tag: 1313799}} {
		if l := p.caches[i].Keys(); !slices.Equal(l, []cache.Key{k}) {
			t.Errorf("of one: %+v, not %+v", l, k)
		}
	}
}

// goesOn is which level a walk goes on at, when an address was filled that differs in one bit alone: 0 of none.
func goesOn(i int) int {
	switch {
	case i < 21 || i >= 48: // within what the table of the level 1 maps, or above all places
		return 1
	case i < 30:
		return 2
	case i < 39:
		return 3
	}
	return 0
}

// P11.2, and 'Words': addresses that differ in one bit: below bit 21, or above bit 47, they have the same lines; in the place of a level, those above it.
func TestEachBit(t *testing.T) {
	for _, a := range []uint64{0, one, all, 0x0123456789ABCDEF, 1 << 47} {
		for i := range 64 {
			p := New(64)
			lay(p, 2, a, 4, 3, 2)
			level, want := goesOn(i), walk.Place{}
			if level > 0 {
				want = placeOf(level + 1)
			}
			if x, is := p.Deepest(2, a^power(i)); x != want || is != (level > 0) {
				t.Errorf("filled %#x: Deepest(%#x) = %+v, %v, not %+v", a, a^power(i), x, is, want)
			}
			lay(p, 2, a^power(i), 4, 3, 2)
			lens := map[int][3]int{0: {2, 2, 2}, 3: {1, 2, 2}, 2: {1, 1, 2}, 1: {1, 1, 1}}[level]
			counts(t, "both filled", p, lens[0], lens[1], lens[2])
			p.DropPage(2, a^power(i))
			left := map[int][]int{0: {4, 3, 2}, 3: {3, 2}, 2: {2}, 1: {}}[level]
			has(t, "dropped", p, 2, a, left...)
		}
	}
}

// P11.2: as figures: what differs below bit 12, in one place of each level, and above bit 47.
func TestDeepestFigures(t *testing.T) {
	p := New(2)
	p.Fill(3, one, walk.Path{Steps: []walk.Step{{Level: 4, Word: 0x4007}, {Level: 3, Word: 0x3005}, {Level: 2, Word: power(63) + 0x2007}, {Level: 1, Word: 0x1007}}}, walk.Top(0), [3]int{})
	four := walk.Place{Level: 3, Table: 0x4000, Right: right.All()}
	three := walk.Place{Level: 2, Table: 0x3000, Right: right.Right{U: true, X: true}}
	two := walk.Place{Level: 1, Table: 0x2000, Right: right.Right{U: true}}
	for _, c := range []struct {
		a     uint64
		place walk.Place
		is    bool
	}{
		{one, two, true}, {5<<39 + 6<<30 + 7<<21 + 8<<12, two, true}, {5<<39 + 6<<30 + 7<<21 + 8<<12 + 0xFFF, two, true},
		{5<<39 + 6<<30 + 7<<21, two, true}, {5<<39 + 6<<30 + 7<<21 + 511<<12, two, true}, {5<<39 + 6<<30 + 8<<21 - 1, two, true}, {5<<39 + 6<<30 + 9<<12, three, true},
		{5<<39 + 6<<30 + 8<<21, three, true}, {5<<39 + 6<<30 + 7<<21 - 1, three, true}, {5<<39 + 6<<30, three, true}, {5<<39 + 7<<30 - 1, three, true},
		{5<<39 + 7<<30 + 7<<21 + 8<<12, four, true}, {5<<39 + 6<<30 - 1, four, true}, {5 << 39, four, true}, {6<<39 - 1, four, true},
		{6<<39 + 6<<30 + 7<<21 + 8<<12, walk.Place{}, false}, {5<<39 - 1, walk.Place{}, false}, {6 << 39, walk.Place{}, false}, {0, walk.Place{}, false}, {all, walk.Place{}, false},
		{one + 1<<48, two, true}, {one + 1<<63, two, true}, {one + 0xFFFF<<48, two, true}, {one + 1<<47, walk.Place{}, false}, {one + 0x1FFFF<<47, walk.Place{}, false},
	} {
		if x, is := p.Deepest(3, c.a); x != c.place || is != c.is {
			t.Errorf("Deepest(%#x) = %+v, %v, not %+v, %v", c.a, x, is, c.place, c.is)
		}
	}
}

// P11.2: where lines of several levels are there, that of the lowest one; of one alone, that; of none, none.
func TestDeepestOfSubsets(t *testing.T) {
	for _, set := range subsets() {
		for _, more := range []bool{false, true} {
			p := New(8)
			if more { // others' lines, and those of addresses beside it, play no part
				lay(p, 1, one, 4, 3, 2)
				for level := 2; level <= 4; level++ {
					lay(p, 0, beside(one, level), level)
				}
			}
			lay(p, 0, one, set...)
			want, there := walk.Place{}, len(set) > 0
			if there {
				want = placeOf(slices.Min(set))
			}
			if x, is := p.Deepest(0, one); x != want || is != there {
				t.Errorf("of %v: Deepest = %+v, %v, not %+v", set, x, is, want)
			}
		}
	}
}

// P11.2: a line that names the table 0, without any rights, is one.
func TestDeepestOfZeros(t *testing.T) {
	for _, level := range []int{4, 3, 2} {
		p := New(1)
		p.Fill(0, 0, walk.Path{Steps: []walk.Step{{Level: level, Word: 1}, {}}}, walk.Place{}, [3]int{})
		if x, is := p.Deepest(0, 0); !is || x != (walk.Place{Level: level - 1}) {
			t.Errorf("level %d: Deepest = %+v, %v", level, x, is)
		}
	}
}

// P11.2: asking changes nothing: neither what is there nor the order.
func TestAsking(t *testing.T) {
	p := New(3)
	for i := range 3 {
		lay(p, 0, nth(i), 4, 3, 2)
	}
	for range 3 {
		for i := range 5 {
			p.Deepest(0, nth(i))
			p.Deepest(1, nth(i))
			p.Len(i)
		}
		p.Deepest(0, nth(0))
	}
	counts(t, "asked", p, 3, 3, 3)
	lay(p, 0, nth(3), 4, 3, 2)
	for _, level := range []int{4, 3, 2} {
		if l := thereOf(p, 4, level); !slices.Equal(l, []int{1, 2, 3}) {
			t.Errorf("of the level %d there are %v", level, l)
		}
	}
}

// P11.1 to P11.3: PCIDs are apart, those that are none, too: what one fills no other one has, and what one drops the others keep.
func TestPcids(t *testing.T) {
	p := New(64)
	for n, pcid := range pcids {
		for _, other := range pcids[n:] {
			has(t, "ahead", p, other, one)
		}
		lay(p, pcid, one, 4, 3, 2)
		counts(t, "filled", p, n+1, n+1, n+1)
	}
	for n, pcid := range pcids {
		has(t, "there", p, pcid, one, 4, 3, 2)
		if n%2 == 0 {
			p.DropPage(pcid, one)
		} else {
			p.DropOf(pcid)
		}
		for i, other := range pcids {
			if i <= n {
				has(t, "gone", p, other, one)
			} else {
				has(t, "stays", p, other, one, 4, 3, 2)
			}
		}
		left := len(pcids) - 1 - n
		counts(t, "dropped", p, left, left, left)
	}
}

// P11.3: of an address whose lines are there in part those are gone, of all levels; of one beside it those that both have.
func TestDropPage(t *testing.T) {
	for _, set := range subsets() {
		for _, c := range []struct {
			a     uint64
			stays []int // lines that aren't over the address that is dropped
		}{{one, nil}, {one ^ 0xFFF, nil}, {beside(one, 1), nil}, {one ^ 1<<63, nil}, {beside(one, 2), []int{2}}, {beside(one, 3), []int{3, 2}}, {beside(one, 4), []int{4, 3, 2}}} {
			p := New(9)
			lay(p, 0, one, set...)
			lay(p, 1, one, 4, 3, 2)
			p.DropPage(0, c.a)
			want := slices.DeleteFunc(slices.Clone(set), func(level int) bool { return !slices.Contains(c.stays, level) })
			has(t, "dropped", p, 0, one, want...)
			has(t, "another's", p, 1, one, 4, 3, 2)
			p.DropPage(0, one)
			has(t, "dropped itself", p, 0, one)
			p.DropPage(0, one)
			has(t, "dropped again", p, 0, one)
			counts(t, "another's", p, 1, 1, 1)
			lay(p, 0, one, set...)
			has(t, "laid again", p, 0, one, set...)
		}
	}
}

// P11.3: a dropped address takes the tables above with it, though others had them, too, and leaves the lower ones of these.
func TestDropPageBesides(t *testing.T) {
	p := New(9)
	lay(p, 0, one, 4, 3, 2)
	for level := 2; level <= 4; level++ {
		lay(p, 0, beside(one, level), 4, 3, 2)
	}
	counts(t, "laid", p, 2, 3, 4)
	p.DropPage(0, one)
	counts(t, "dropped", p, 1, 2, 3)
	has(t, "beside by the level 4", p, 0, beside(one, 4), 4, 3, 2)
	for _, level := range []int{3, 2} {
		if x, is := p.Deepest(0, beside(one, level)); !is || x != placeOf(2) {
			t.Errorf("beside by the level %d: %+v, %v", level, x, is)
		}
	}
	if x, is := p.Deepest(0, one); is {
		t.Errorf("dropped: %+v", x)
	}
}

// P11.3: all lines of a PCID are gone, of all addresses and levels; a PCID that has none drops none.
func TestDropOf(t *testing.T) {
	for _, gone := range pcids {
		p := New(64)
		for i := range 4 {
			for _, pcid := range pcids {
				lay(p, pcid, nth(i), subsets()[(i+5)%8]...)
			}
		}
		p.DropOf(77)
		p.DropOf(gone ^ 77<<20)
		four, three, two := p.Len(4), p.Len(3), p.Len(2)
		p.DropOf(gone)
		for i := range 4 {
			for _, pcid := range pcids {
				if pcid == gone {
					has(t, "gone", p, pcid, nth(i))
				} else {
					has(t, "stays", p, pcid, nth(i), subsets()[(i+5)%8]...)
				}
			}
		}
		counts(t, "dropped", p, four-four/len(pcids), three-three/len(pcids), two-two/len(pcids))
	}
}

// P11.3: all lines are gone, and there is room for as many as ahead.
func TestClear(t *testing.T) {
	for _, room := range []int{1, 3, 64} {
		p := New(room)
		for range 2 {
			for i := range room {
				lay(p, i%3, nth(i), 4, 3, 2)
			}
			counts(t, "full", p, room, room, room)
			p.Clear()
			counts(t, "cleared", p, 0, 0, 0)
			for i := range room {
				has(t, "cleared", p, i%3, nth(i))
			}
			p.Clear()
		}
	}
}

// P11.3: one of that level is gone, the one that is picked; those of other levels stay; of a level that is none nothing.
func TestEvict(t *testing.T) {
	for _, n := range []int{1, 2, 3, 7} {
		for _, pick := range picks {
			for _, level := range allLevels {
				p := New(64)
				for i := range n {
					lay(p, 0, nth(i), 4, 3, 2)
				}
				p.Evict(level, pick)
				gone := int(new(big.Int).Mod(big.NewInt(int64(pick)), big.NewInt(int64(n))).Int64())
				for _, k := range []int{4, 3, 2} {
					want := without(n-1, n)
					if k == level {
						want = slices.DeleteFunc(want, func(i int) bool { return i == gone })
					}
					if l := thereOf(p, n, k); !slices.Equal(l, want) {
						t.Fatalf("Evict(%d, %d) of %d lines: of the level %d there are %v, not %v", level, pick, n, k, l, want)
					}
				}
			}
		}
	}
}

// P11.3: where there are no lines there is none to evict or drop.
func TestNoneThere(t *testing.T) {
	p := New(2)
	lay(p, 0, one, 3)
	for _, pick := range picks {
		p.Evict(4, pick)
		p.Evict(2, pick)
		p.DropPage(0, beside(one, 3))
		p.DropPage(1, one)
		p.DropOf(1)
		has(t, "others'", p, 0, one, 3)
		counts(t, "others'", p, 0, 1, 0)
	}
	p.Evict(3, 9)
	for _, pick := range picks {
		for _, level := range allLevels {
			p.Evict(level, pick)
		}
		p.DropPage(pick, uint64(pick))
		p.DropOf(pick)
		p.Clear()
		counts(t, "none", p, 0, 0, 0)
	}
}

// P11.3: how many there are of each level, each by itself.
func TestLen(t *testing.T) {
	p := New(64)
	for i := range 60 {
		lay(p, i, nth(i), 4)
		if i%2 == 0 {
			lay(p, i, nth(i), 3)
		}
		if i%3 == 0 {
			lay(p, i, nth(i), 2)
		}
		counts(t, "laid", p, i+1, i/2+1, i/3+1)
	}
}

// P11.3, P1: of a Psc that is nil: nothing, false, 0, at every call.
func TestNil(t *testing.T) {
	var p *Psc
	for _, pick := range picks {
		for _, level := range allLevels {
			for _, path := range []walk.Path{{}, {Steps: steps(4, 3, 2, 1)}, {Steps: steps(level, level, level)}, {Steps: steps(4, level, 1, 1)}} {
				p.Fill(pick, uint64(level), path, walk.Place{Level: level, Right: right.All()}, [3]int{pick, pick, pick})
			}
			p.Evict(level, pick)
			if n := p.Len(level); n != 0 {
				t.Fatalf("Len(%d) = %d", level, n)
			}
		}
		for _, a := range []uint64{0, one, all, uint64(pick)} {
			p.Fill(pick, a, walk.Path{Steps: steps(4, 3, 2, 1)}, walk.Top(a), [3]int{pick, -pick, 0})
			if x, is := p.Deepest(pick, a); is || x != (walk.Place{}) {
				t.Fatalf("Deepest(%d, %#x) = %+v, %v", pick, a, x, is)
			}
			p.DropPage(pick, a)
		}
		p.DropOf(pick)
		p.Clear()
	}
	if p != nil {
		t.Error("it is there then")
	}
}

// P1: a zero Psc isn't asked anything, but nothing panics either.
func TestZero(t *testing.T) {
	p := &Psc{}
	lay(p, 0, one, 4, 3, 2)
	for _, level := range allLevels {
		p.Evict(level, 1)
	}
	p.DropPage(0, one)
	p.DropOf(0)
	p.Clear()
	has(t, "zero", p, 0, one)
	counts(t, "zero", p, 0, 0, 0)
}

// R3: a path stays as it is, and isn't kept: what is written into it behind Fill isn't there.
func TestPathStays(t *testing.T) {
	p := New(2)
	w := walk.Path{Steps: make([]walk.Step, 4, 9), Why: walk.Found, Level: 1, Frame: 0x1000}
	copy(w.Steps, steps(4, 3, 2, 1))
	w.Steps[:9][4] = walk.Step{Level: 9, Slot: 9, Word: 9}
	was := slices.Clone(w.Steps[:9])
	p.Fill(0, one, w, walk.Top(0), [3]int{})
	if !slices.Equal(w.Steps[:9], was) {
		t.Fatalf("the path is %+v then", w.Steps[:9])
	}
	clear(w.Steps[:9])
	has(t, "the path written", p, 0, one, 4, 3, 2)
}

// R4: two of them are apart.
func TestApart(t *testing.T) {
	p, q := New(2), New(2)
	lay(p, 0, one, 4, 3, 2)
	has(t, "q", q, 0, one)
	lay(q, 0, one, 4)
	p.Clear()
	has(t, "q", q, 0, one, 4)
	has(t, "p", p, 0, one)
}

// some are addresses of few places, such that are alike but below the bit 12 and above bit 47 among them.
func some() []uint64 {
	var list []uint64
	for i := range 16 {
		a := uint64(i/8)*(5<<39) + uint64(i/4%2)*(511<<30) + uint64(i/2%2)*(7<<21) + uint64(i%2)*(8<<12)
		list = append(list, a+uint64(i)*0xFF)
	}
	return append(list, list[9]+1<<48, list[6]+0xFFFF<<48, 1<<47, all)
}

// path is one by hand: mostly as a walk goes, down from a level, with words of all kinds.
func (n *numbers) path(from walk.Place) walk.Path {
	var w walk.Path
	for i := range n.below(6) {
		s := walk.Step{Level: from.Level - i, Slot: n.next(), Word: n.next() | 1}
		switch n.below(12) {
		case 0:
			s.Word--
		case 1:
			s.Level = allLevels[n.below(len(allLevels))]
		case 2:
		default:
			s.Word &^= 0x80
		}
		w.Steps = append(w.Steps, s)
	}
	return w
}

// move does one thing to both, which seldom empties them, and tells its name.
func move(n *numbers, p *Psc, b *book, pcids []int, addresses []uint64) string {
	pcid, a, pick := pcids[n.below(len(pcids))], addresses[n.below(len(addresses))], n.pick()
	switch i := n.below(100); {
	case i < 70:
		from := walk.Place{Level: 4 - n.below(4)*n.below(2), Right: rightOf(n.below(8) | n.below(8))}
		w, three := n.path(from), [3]int{n.pick(), n.pick(), pick}
		p.Fill(pcid, a, w, from, three)
		b.fill(pcid, a, w, from, three)
		return "Fill"
	case i < 80:
		p.DropPage(pcid, a)
		b.dropPage(pcid, a)
		return "DropPage"
	case i < 96:
		level := []int{4, 3, 2, 4, 3, 2, allLevels[n.below(len(allLevels))]}[n.below(7)]
		p.Evict(level, pick)
		b.evict(level, pick)
		return "Evict"
	case i < 99:
		p.DropOf(pcid)
		b.drop(func(_ int, l line) bool { return l.pcid == pcid })
		return "DropOf"
	}
	p.Clear()
	b.drop(func(int, line) bool { return true })
	return "Clear"
}

// P11.1 to P11.3: long rows of mixed calls, in rooms of all sizes, held against the document's words behind each.
func TestMixed(t *testing.T) {
	addresses, few := some(), []int{0, 1, 4095, -1}
	for _, r := range rooms {
		n := numbers(r.asked)
		p, b := New(r.asked), &book{room: r.room}
		seen := map[int]int{}
		for range 1200 {
			what := move(&n, p, b, few, addresses)
			same(t, what, p, b, few, addresses)
			for level := 2; level <= 4; level++ {
				if len(b.rows[level]) == r.room {
					seen[level]++
				}
			}
		}
		if r.room < 8 && (seen[4] < 20 || seen[3] < 20 || seen[2] < 20) {
			t.Errorf("a room for %d was full so often: %v: nothing is told of what is picked", r.room, seen)
		}
	}
}

// onward is a walk from where Deepest says, held against the whole one, and where it began: it has that one's last steps, and ends as it does.
func onward(t *testing.T, p *Psc, m *mem.Mem, pcid int, root, a uint64, nxe bool) (walk.Path, walk.Place) {
	t.Helper()
	from, is := p.Deepest(pcid, a)
	if !is {
		from = walk.Top(root)
	}
	whole, rest := walk.From(m, walk.Top(root), a, nxe), walk.From(m, from, a, nxe)
	if from.Level < 1 || 4-from.Level > len(whole.Steps) {
		t.Fatalf("%#x: the whole walk is %+v, and it should go on from %+v", a, whole, from)
	}
	want := whole
	want.Steps = whole.Steps[4-from.Level:]
	if rest.Why != want.Why || rest.Right != want.Right || rest.Level != want.Level || rest.Frame != want.Frame || !slices.Equal(rest.Steps, want.Steps) || !walk.Same(rest, want) {
		t.Fatalf("%#x from %+v:\n%+v, and the whole walk:\n%+v", a, from, rest, whole)
	}
	return rest, from
}

// P11.4: walks that end on each level, in each way: filled, a walk goes on at what it ended on, and ends as it did; filled with what went on, it does so again.
func TestEndsAsTheWhole(t *testing.T) {
	for _, bits := range []int{14, 15, 22} {
		for level := 4; level >= 1; level-- {
			for _, word := range []uint64{0, 6, 0x87, 0x86, 0x3087, 7 + power(bits), 7 + power(51), power(63) + 7, power(63) + 0x87, power(63) + 0x3001, 0x1FF7 &^ 0x80, 0x2003, 0x3005} {
				for _, nxe := range []bool{false, true} {
					m, p := chain(t, bits), New(1)
					store(t, m, oneSlots[4-level], word)
					whole := walk.From(m, walk.Top(0x1000), one, nxe)
					p.Fill(8, one, whole, walk.Top(0x1000), [3]int{})
					for range 3 {
						rest, from := onward(t, p, m, 8, 0x1000, one, nxe)
						if n := len(whole.Steps); len(rest.Steps) != 1 || from.Level != 5-n {
							t.Fatalf("%#x on the level %d: it goes on from %+v", word, level, from)
						}
						p.Fill(8, one, rest, from, [3]int{1, 2, 3})
					}
				}
			}
		}
	}
}

// P11.4: what a walk ended on isn't kept: where that slot is written, and no other one was, a walk from where Deepest says ends as a whole one does.
func TestWhatItEndedOnIsWritten(t *testing.T) {
	plain := [4]uint64{0x3007, 0x0007, 0x2007, 0x3007}
	for level := 4; level >= 1; level-- {
		for _, word := range []uint64{0, 0x3006, 0x87, 0x87 + power(51), 0x3087, power(51) + 7} {
			m, p := chain(t, 16), New(2)
			store(t, m, oneSlots[4-level], word)
			ended := walk.From(m, walk.Top(0x1000), one, true)
			p.Fill(0, one, ended, walk.Top(0x1000), [3]int{})
			if len(ended.Steps) != 5-level && level > 1 && word != 0x3087 {
				t.Fatalf("%#x on the level %d: %+v", word, level, ended)
			}
			last := ended.Steps[len(ended.Steps)-1]
			store(t, m, last.Slot, plain[4-last.Level])
			for range 4 { // what was filled leads one level deeper each time
				rest, from := onward(t, p, m, 0, 0x1000, one, true)
				p.Fill(0, one, rest, from, [3]int{})
			}
			if x, is := p.Deepest(0, one); !is || x != (walk.Place{Level: 1, Table: 0x2000, Right: right.All()}) {
				t.Errorf("%#x on the level %d, written: Deepest = %+v, %v", word, level, x, is)
			}
		}
	}
}

// P11.4: tables that lead to themselves.
func TestLoops(t *testing.T) {
	for _, c := range []struct{ root, a uint64 }{{0x2000, 0xFFF}, {0x2000, all}, {0, 0}, {0x2000, 1 << 12}, {0x2000, 511<<39 + 511<<30 + 511<<21 + 3<<12}} {
		m := mem.New(14)
		for slot, x := range map[uint64]uint64{0: 0x1007, 0x1000: 7, 0x2000: 0x2007, 0x2FF8: 0x2005, 0x2008: 0x1003, 0x2018: 0x3007} {
			store(t, m, slot, x)
		}
		p := New(1)
		for i := range 5 {
			rest, from := onward(t, p, m, 1, c.root, c.a, true)
			if i > 0 && rest.Why == walk.Found && from.Level != 1 {
				t.Errorf("%+v: it goes on from %+v", c, from)
			}
			p.Fill(1, c.a, rest, from, [3]int{})
			walk.Mark(m, rest, true)
		}
	}
}

// wild is a memory whose words are such as walks go through: tables mostly, some great pages, some absent, some that may not be.
func wild(n *numbers, bits int) *mem.Mem {
	m := mem.New(bits)
	for a := uint64(0); a < power(bits); a += 8 {
		x := part(n.next(), 12, bits-1) + n.next()%128*2&^0x80 + 1
		switch n.below(24) {
		case 0, 1:
			x--
		case 2:
			x += power(n.below(52-bits) + bits)
		case 3:
			x += power(63)
		case 4:
			x = n.next()
		case 5, 6:
			x = part(x, 0, 11) | 0x80 // a great page that may be
		}
		m.Store(a, x)
	}
	return m
}

// address is one of few places, which are told apart by their highest and lowest bits, with anything below and above them.
func (n *numbers) address() uint64 {
	a := uint64(n.below(0x1000))
	for level := 1; level <= 4; level++ {
		a += []uint64{0, 0, 1, 256}[n.below(4)] * power(12+9*(level-1))
	}
	return a + []uint64{0, 0xFFFF, n.next()}[n.below(3)]*power(48)
}

// P11.4: in memories of all kinds, whatever was filled, dropped, evicted and marked ahead: the walk from where Deepest says ends as the whole one does, also once it is filled itself.
func TestGoesOn(t *testing.T) {
	ends := map[[2]int]int{} // by the level it goes on at, and why it ends
	for i := range 40 {
		n := numbers(i)
		bits, room, nxe := 14+i%9, []int{64, 1, 2, 5, 0, 16}[i%6], i%5 != 0
		m, p := wild(&n, bits), New(room)
		roots := [3]uint64{part(n.next(), 0, bits-1), part(n.next(), 0, bits-1), part(n.next(), 0, bits-1)}
		if i%7 == 0 {
			roots[2] = power(bits) // beyond the memory
		}
		for range 400 {
			q, a := n.below(3), n.address()
			rest, from := onward(t, p, m, q, roots[q], a, nxe)
			ends[[2]int{from.Level, rest.Why}]++
			three := [3]int{n.pick(), n.pick(), n.pick()}
			switch k := n.below(40); {
			case k < 28:
				p.Fill(q, a, rest, from, three)
			case k < 32: // the whole one, into what is there
				p.Fill(q, a, walk.From(m, walk.Top(roots[q]), a, nxe), walk.Top(roots[q]), three)
			case k < 34:
				p.DropPage(q, a)
			case k < 38:
				p.Evict(2+n.below(3), three[0])
			case k < 39:
				p.DropOf(q)
			default:
				walk.Mark(m, rest, three[0]%2 == 0) // bits A and D alone, on which no walk hangs
			}
			onward(t, p, m, q, roots[q], a, nxe)
		}
	}
	for level := 1; level <= 4; level++ {
		for _, why := range []int{walk.Found, walk.Absent, walk.Reserved} {
			if got := ends[[2]int{level, why}]; got < 40 {
				t.Errorf("%d walks that go on at the level %d end so: %d", got, level, why)
			}
		}
	}
}
