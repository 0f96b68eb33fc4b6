package opt

import (
	"errors"
	"math"
	"math/big"
	"slices"
	"testing"

	"dormer/api"
	"dormer/cache"
	"dormer/fault"
	"dormer/mem"
	"dormer/psc"
	"dormer/refwalk"
	"dormer/right"
	"dormer/tlb"
	"dormer/walk"
)

// The calls, as the document lists them, and the array that its ways ask for.
var (
	_ func(small, tables int) Caches                                             = New
	_ func(m *mem.Mem, c Caches, w Who, u refwalk.Use, a uint64) (uint64, error) = Translate
	_ func(m *mem.Mem, c Caches, w Who, u refwalk.Use, a uint64) bool            = Fire
	_                                                                            = Caches{T: (*tlb.Tlb)(nil), P: (*psc.Psc)(nil)}
	_                                                                            = Who{Pcid: int(0), Picks: [4]int{}}
)

const all = math.MaxUint64

// kinds are those of accesses; noKinds are numbers that are none, some of which would be one if they were cut to fewer bits.
var (
	kinds   = []int{1, 2, 3}
	noKinds = []int{0, 4, 5, 6, 7, 18, 64, -1, -2, -3, 256 + 1, 256 + 2, 256 + 3, 1<<32 + 1, 1<<32 + 2, 1<<32 + 3, -1<<32 + 2, math.MaxInt, math.MaxInt - 1, math.MinInt, math.MinInt + 2}
)

// rooms are asked for, and what room there is then, as figures.
var rooms = []struct{ asked, room int }{
	{0, 0}, {1, 1}, {2, 2}, {3, 3}, {8, 8}, {63, 63}, {64, 64}, {65, 64}, {66, 64}, {256 + 3, 64}, {1<<32 + 5, 64}, {math.MaxInt, 64},
	{-1, 0}, {-2, 0}, {-64, 0}, {-256 + 3, 0}, {-1<<32 + 5, 0}, {math.MinInt, 0}, {math.MinInt + 64, 0},
}

// picks are around 0, around the greatest room, and up to the greatest and least int.
var picks = []int{0, 1, 2, 3, 4, 5, 7, 63, 64, 65, 255, 256, 4095, 1 << 31, 1 << 32, 1<<32 + 1, 1 << 62, math.MaxInt - 1, math.MaxInt,
	-1, -2, -3, -4, -5, -7, -63, -64, -65, -255, -256, -4096, -1 << 31, -1 << 32, -1<<32 - 1, -1 << 62, math.MinInt + 1, math.MinInt}

// pcids are such as are some, and such as are none.
var pcids = []int{0, 1, 2, 255, 256, 4094, 4095, 4096, 1 << 32, 1<<32 + 1, math.MaxInt, -1, -2, -4095, -1 << 32, math.MinInt}

// wild are addresses that aren't canonical.
var wild = []uint64{1 << 47, 1 << 48, 1 << 63, 0x800000000000, 0xFFFF7FFFFFFFFFFF, 0x7FFF800000000000, 0xFFFE800000000000, 0x0001000000000000, 0x8000000000000123, one | 1<<48, one | 1<<63, one | 0xFFFF<<48, 0xFFFF << 48}

// power is two to the i, and bit whether the bit i of x is 1, by doubling and division alone.
func power(i int) uint64 {
	p := uint64(1)
	for range i {
		p += p
	}
	return p
}

func bit(x uint64, i int) bool { return x/power(i)%2 == 1 }

// part is x without its bits below from and above to.
func part(x uint64, from, to int) uint64 {
	sum := uint64(0)
	for i := from; i <= to; i++ {
		if bit(x, i) {
			sum += power(i)
		}
	}
	return sum
}

// with is x with the bit i.
func with(x uint64, i int) uint64 {
	if bit(x, i) {
		return x
	}
	return x + power(i)
}

// canonical is whether all bits from 47 on are alike.
func canonical(a uint64) bool { return a/power(47) == 0 || a/power(47) == power(17)-1 }

// bytesOf is how many bytes a page of a level has, and the table of the level below the next one.
func bytesOf(level int) uint64 { return power(12 + 9*(level-1)) }

// narrow is what a word leaves of rights.
func narrow(r right.Right, x uint64) right.Right {
	return right.Right{W: r.W && bit(x, 1), U: r.U && bit(x, 2), X: r.X && !bit(x, 63)}
}

// rightOf are the eight rights.
func rightOf(i int) right.Right {
	return right.Right{W: i/4%2 == 1, U: i/2%2 == 1, X: i%2 == 1}
}

func controlOf(i int) api.Ctl {
	return api.Ctl{WP: i/8%2 == 1, NXE: i/4%2 == 1, SMEP: i/2%2 == 1, SMAP: i%2 == 1}
}

// accesses of these kinds are all four of each.
func accesses(kinds []int) []api.Access {
	var list []api.Access
	for _, k := range kinds {
		for i := range 4 {
			list = append(list, api.Access{Kind: k, User: i/2%2 == 1, AC: i%2 == 1})
		}
	}
	return list
}

// numbers is a row of numbers that look unlike, the same at each run.
type numbers uint64

func (n *numbers) next() uint64 {
	*n = *n*6364136223846793005 + 1442695040888963407
	return uint64(*n) ^ uint64(*n)>>29
}

func (n *numbers) below(i int) int { return int(n.next() >> 1 % uint64(i)) }

// once is so one time of i.
func (n *numbers) once(i int) bool { return n.below(i) == 0 }

// pick is any number: a small one, one of the list, or one of all bits.
func (n *numbers) pick() int {
	switch n.below(3) {
	case 0:
		return n.below(200) - 100
	case 1:
		return picks[n.below(len(picks))]
	}
	return int(n.next())
}

// access is any one, now and then of no kind; control any control bits.
func (n *numbers) access() api.Access {
	k := kinds[n.below(3)]
	if n.once(20) {
		k = noKinds[n.below(len(noKinds))]
	}
	return api.Access{Kind: k, User: n.once(2), AC: n.once(2)}
}

// who is one of a PCID, with any picks.
func (n *numbers) who(pcid int) Who {
	return Who{Pcid: pcid, Picks: [4]int{n.pick(), n.pick(), n.pick(), n.pick()}}
}

// keptFrom are the document's reasons for which an access may not be, one by one.
func keptFrom(r right.Right, a api.Access, c api.Ctl) bool {
	load, store, fetch := a.Kind == 1, a.Kind == 2, a.Kind == 3
	return slices.Contains([]bool{
		!load && !store && !fetch,
		a.User && !r.U,
		a.User && store && !r.W,
		a.User && fetch && !r.X,
		!a.User && r.U && load && c.SMAP && !a.AC,
		!a.User && r.U && store && c.SMAP && !a.AC,
		!a.User && r.U && fetch && c.SMEP,
		!a.User && store && c.WP && !r.W,
		!a.User && fetch && !r.X,
	}, true)
}

// base is what of a fault's code is the access's own.
func base(a api.Access, c api.Ctl) int {
	sum := 0
	if a.Kind == 2 {
		sum += 2
	}
	if a.User {
		sum += 4
	}
	if a.Kind == 3 && (c.SMEP || c.NXE) {
		sum += 16
	}
	return sum
}

// What a translation comes to, if it isn't a code.
const (
	good = -1
	gp   = -2
)

// line is a translation as the document has it, a run's frames one by one, as its words tell them; table is a table.
type line struct {
	pcid, level int
	number      uint64
	has         [8]bool
	frames      [8]uint64 // of a great page the first one
	right       right.Right
	dirty       bool
}

type table struct {
	pcid   int
	number uint64
	place  walk.Place
}

// book is caches as the document says them, in the order in which lines came, and a memory of their own.
type book struct {
	room, tables int
	lines        []line
	rows         [5][]table
	m            *mem.Mem
	reads        []uint64
}

func newBook(room, tables int, m *mem.Mem) *book {
	return &book{room: min(max(room, 0), 64), tables: min(max(tables, 0), 64), m: m.Copy()}
}

// numberOf is the key of a translation of a level, and tableOf of a table.
func numberOf(a uint64, level int) uint64 {
	if level == 1 {
		return a / 32768
	}
	return a / bytesOf(level)
}

func tableOf(a uint64, level int) uint64 { return a % power(48) / bytesOf(level) }

// picked is which one of so many a number picks, by numbers without an end.
func picked(pick, of int) int {
	return int(new(big.Int).Mod(big.NewInt(int64(pick)), big.NewInt(int64(of))).Int64())
}

func (b *book) put(l line, pick int) {
	for i, x := range b.lines {
		if x.pcid == l.pcid && x.level == l.level && x.number == l.number {
			b.lines[i] = l
			return
		}
	}
	if b.room == 0 {
		return
	}
	if len(b.lines) == b.room {
		b.evict(pick)
	}
	b.lines = append(b.lines, l)
}

func (b *book) evict(pick int) {
	if len(b.lines) > 0 {
		i := picked(pick, len(b.lines))
		b.lines = slices.Concat(b.lines[:i], b.lines[i+1:])
	}
}

func (b *book) putTable(level int, x table, pick int) {
	for i, y := range b.rows[level] {
		if y.pcid == x.pcid && y.number == x.number {
			b.rows[level][i] = x
			return
		}
	}
	if b.tables == 0 {
		return
	}
	if len(b.rows[level]) == b.tables {
		b.evictTable(level, pick)
	}
	b.rows[level] = append(b.rows[level], x)
}

func (b *book) evictTable(level, pick int) {
	if row := b.rows[level]; len(row) > 0 {
		i := picked(pick, len(row))
		b.rows[level] = slices.Concat(row[:i], row[i+1:])
	}
}

// drop leaves the lines and tables that aren't so.
func (b *book) drop(isLine func(l line) bool, isTable func(level int, x table) bool) {
	b.lines = slices.DeleteFunc(slices.Clone(b.lines), isLine)
	for level, row := range b.rows {
		b.rows[level] = slices.DeleteFunc(slices.Clone(row), func(x table) bool { return isTable(level, x) })
	}
}

func (b *book) dropPage(pcid int, a uint64) {
	for i, l := range b.lines {
		if l.pcid == pcid && l.level == 1 && l.number == numberOf(a, 1) {
			b.lines[i].has[a/4096%8] = false
		}
	}
	b.drop(func(l line) bool {
		return l.level == 1 && l.has == [8]bool{} || l.level > 1 && l.pcid == pcid && l.number == numberOf(a, l.level)
	}, func(level int, x table) bool { return x.pcid == pcid && x.number == tableOf(a, level) })
}

func (b *book) dropOf(pcid int) {
	b.drop(func(l line) bool { return l.pcid == pcid }, func(level int, x table) bool { return x.pcid == pcid })
}

func (b *book) clear() {
	b.lines, b.rows = nil, [5][]table{}
}

func (b *book) look(pcid int, a uint64) (tlb.Hit, bool) {
	for level := 1; level <= 3; level++ {
		for _, l := range b.lines {
			if l.pcid != pcid || l.level != level || l.number != numberOf(a, level) {
				continue
			}
			if level > 1 {
				return tlb.Hit{Frame: l.frames[0], Level: level, Right: l.right, Dirty: l.dirty}, true
			}
			if i := a / 4096 % 8; l.has[i] {
				return tlb.Hit{Frame: l.frames[i], Level: 1, Right: l.right, Dirty: l.dirty}, true
			}
		}
	}
	return tlb.Hit{}, false
}

func (b *book) deepest(pcid int, a uint64) (walk.Place, bool) {
	for _, level := range []int{2, 3, 4} {
		for _, x := range b.rows[level] {
			if x.pcid == pcid && x.number == tableOf(a, level) {
				return x.place, true
			}
		}
	}
	return walk.Place{}, false
}

// load reads a slot.
func (b *book) load(slot uint64) (uint64, bool) {
	x, e := b.m.Peek(slot)
	if e != api.OK {
		return 0, false
	}
	b.reads = append(b.reads, slot)
	return x, true
}

// reserved is whether a word has a bit on a level that may not be.
func (b *book) reserved(x uint64, level int, nxe bool) bool {
	great := bit(x, 7)
	return part(x, b.m.Bits(), 51) != 0 || bit(x, 63) && !nxe || level == 4 && great || level == 3 && great && part(x, 13, 29) != 0 || level == 2 && great && part(x, 13, 20) != 0
}

// walk is a walk from the deepest, and from where.
func (b *book) walk(pcid int, u refwalk.Use, a uint64) (walk.Place, walk.Path) {
	from, is := b.deepest(pcid, a)
	if !is {
		from = walk.Place{Level: 4, Table: part(u.Root, 12, 51), Right: right.Right{W: true, U: true, X: true}}
	}
	var p walk.Path
	at := from
	for {
		slot := at.Table + a/bytesOf(at.Level)%512*8
		x, is := b.load(slot)
		if !is {
			p.Why = 2
			return from, p
		}
		p.Steps = append(p.Steps, walk.Step{Level: at.Level, Slot: slot, Word: x})
		if !bit(x, 0) {
			p.Why = 1
			return from, p
		}
		if b.reserved(x, at.Level, u.Ctl.NXE) {
			p.Why = 2
			return from, p
		}
		at.Right = narrow(at.Right, x)
		if at.Level == 1 || bit(x, 7) {
			p.Right, p.Level, p.Frame = at.Right, at.Level, part(x, 12+9*(at.Level-1), 51)
			return from, p
		}
		at.Level, at.Table = at.Level-1, part(x, 12, 51)
	}
}

// take marks a path and keeps what it found.
func (b *book) take(w Who, u refwalk.Use, a uint64, from walk.Place, p walk.Path, dirty bool) {
	for _, s := range p.Steps {
		x, _ := b.m.Peek(s.Slot)
		b.m.Store(s.Slot, with(x, 5))
	}
	last := p.Steps[len(p.Steps)-1]
	x, _ := b.m.Peek(last.Slot)
	if dirty {
		x = with(x, 6)
		b.m.Store(last.Slot, x)
	}
	r := from.Right
	for _, s := range p.Steps[:len(p.Steps)-1] {
		r = narrow(r, s.Word)
		b.putTable(s.Level, table{w.Pcid, tableOf(a, s.Level), walk.Place{Level: s.Level - 1, Table: part(s.Word, 12, 51), Right: r}}, w.Picks[5-s.Level])
	}
	l := line{pcid: w.Pcid, level: p.Level, number: numberOf(a, p.Level), right: p.Right, dirty: bit(x, 6)}
	if p.Level == 1 {
		b.run(&l, u.Ctl.NXE, last.Slot, x)
	} else {
		l.frames[0] = p.Frame
	}
	b.put(l, w.Picks[0])
}

// run tells a line the pages that go together with that of a slot and its word.
func (b *book) run(l *line, nxe bool, slot, word uint64) {
	for i := range l.has {
		at := slot/64*64 + uint64(i)*8
		x := word
		if at != slot {
			x, _ = b.load(at)
		}
		l.frames[i] = part(x, 12, 51)
		l.has[i] = at == slot || bit(x, 0) && bit(x, 5) && !b.reserved(x, 1, nxe) &&
			bit(x, 1) == bit(word, 1) && bit(x, 2) == bit(word, 2) && bit(x, 6) == bit(word, 6) && bit(x, 63) == bit(word, 63) &&
			l.frames[i]+512*slot == part(word, 12, 51)+512*at
	}
}

// translate is an address, and good, gp, or a code.
func (b *book) translate(w Who, u refwalk.Use, a uint64) (uint64, int) {
	if !canonical(a) {
		return 0, gp
	}
	h, is := b.look(w.Pcid, a)
	if is && keptFrom(h.Right, u.Acc, u.Ctl) {
		return 0, base(u.Acc, u.Ctl) + 1
	}
	if is && (u.Acc.Kind != 2 || h.Dirty) {
		return h.Frame + a%bytesOf(h.Level), good
	}
	from, p := b.walk(w.Pcid, u, a)
	switch {
	case p.Why == 1:
		return 0, base(u.Acc, u.Ctl)
	case p.Why == 2:
		return 0, base(u.Acc, u.Ctl) + 9
	case keptFrom(p.Right, u.Acc, u.Ctl):
		return 0, base(u.Acc, u.Ctl) + 1
	}
	b.take(w, u, a, from, p, u.Acc.Kind == 2)
	return p.Frame + a%bytesOf(p.Level), good
}

func (b *book) fire(w Who, u refwalk.Use, a uint64) bool {
	if !canonical(a) {
		return false
	}
	if _, is := b.look(w.Pcid, a); is {
		return false
	}
	from, p := b.walk(w.Pcid, u, a)
	if p.Why != 0 {
		return false
	}
	b.take(w, u, a, from, p, false)
	return true
}

// isFault is whether an error is the page fault of an address and a code, and nothing else.
func isFault(err error, a uint64, code int) bool {
	p, is := fault.Of(err)
	return is && p == (fault.Page{Addr: a, Code: code}) && fault.Kind(err) == api.ErrFault && errors.Is(err, api.ErrFault) && err.Error() == fault.At(a, code).Error()
}

// isGP is whether an error is that of an address that isn't canonical.
func isGP(err error) bool {
	_, is := fault.Of(err)
	return !is && fault.Kind(err) == api.ErrGP && errors.Is(err, api.ErrGP) && err.Error() == "address: general protection"
}

// answered is whether an address and an error are what a translation comes to.
func answered(at uint64, err error, a, want uint64, code int) bool {
	switch code {
	case good:
		return at == want && err == nil
	case gp:
		return at == 0 && isGP(err)
	}
	return at == 0 && isFault(err, a, code)
}

// pair is a memory, caches, and a book of both.
type pair struct {
	m *mem.Mem
	c Caches
	b *book
}

func pairOf(m *mem.Mem, room, tables int) *pair {
	return &pair{m, New(room, tables), newBook(room, tables, m)}
}

// translate is Translate, held against what it should be: address or error, what is read, and what is written. It tells what it came to.
func (p *pair) translate(t *testing.T, w Who, u refwalk.Use, a uint64) int {
	t.Helper()
	p.m.Forget()
	p.b.reads = nil
	want, code := p.b.translate(w, u, a)
	at, err := Translate(p.m, p.c, w, u, a)
	if !answered(at, err, a, want, code) {
		t.Fatalf("Translate(%+v, %+v, %#x) = %#x, %v, not %#x, %d", w, u, a, at, err, want, code)
	}
	p.memories(t, a)
	return code
}

func (p *pair) fire(t *testing.T, w Who, u refwalk.Use, a uint64) bool {
	t.Helper()
	p.m.Forget()
	p.b.reads = nil
	want := p.b.fire(w, u, a)
	if is := Fire(p.m, p.c, w, u, a); is != want {
		t.Fatalf("Fire(%+v, %+v, %#x) = %v", w, u, a, is)
	}
	p.memories(t, a)
	return want
}

// memories holds the trace and the words of the memory against those of the book.
func (p *pair) memories(t *testing.T, a uint64) {
	t.Helper()
	if l := p.m.Trace(); !slices.Equal(l, p.b.reads) {
		t.Fatalf("%#x: reads %#x, not %#x", a, l, p.b.reads)
	}
	if l := mem.Diff(p.m, p.b.m); len(l) != 0 {
		t.Fatalf("%#x: other words at %#x", a, l)
	}
}

// same holds what is kept against the book.
func (p *pair) same(t *testing.T, pcids []int, addresses []uint64) {
	t.Helper()
	if n := p.c.T.Len(); n != len(p.b.lines) {
		t.Fatalf("%d lines, not %d", n, len(p.b.lines))
	}
	for level := 2; level <= 4; level++ {
		if n := p.c.P.Len(level); n != len(p.b.rows[level]) {
			t.Fatalf("%d tables of the level %d, not %d", n, level, len(p.b.rows[level]))
		}
	}
	for _, pcid := range pcids {
		for _, a := range addresses {
			h, there := p.b.look(pcid, a)
			if x, is := p.c.T.Look(pcid, a); x != h || is != there {
				t.Fatalf("%d, %#x: hit %+v, %v, not %+v, %v", pcid, a, x, is, h, there)
			}
			d, there := p.b.deepest(pcid, a)
			if x, is := p.c.P.Deepest(pcid, a); x != d || is != there {
				t.Fatalf("%d, %#x: deepest %+v, %v, not %+v, %v", pcid, a, x, is, d, there)
			}
		}
	}
}

// one is an address of the places 5, 6, 7 and 8, and 0x123 behind them; nextTo is one of another place of the level 1.
const one = 5<<39 + 6<<30 + 7<<21 + 8<<12 + 0x123

func nextTo(place int) uint64 { return 5<<39 + 6<<30 + 7<<21 + uint64(place)<<12 + 0x123 }

// middle and large are addresses of great pages of house, of the levels 2 and 3.
const (
	middle = 5<<39 + 6<<30 + 9<<21 + 0x12345
	large  = 5<<39 + 10<<30 + 0x1234567
)

// The slots of house on one's way, and those of its great pages.
const (
	root       = 0x1000
	top        = 0x1028
	third      = 0x2030
	second     = 0x3038
	first      = 0x4040
	middleSlot = 0x3048
	largeSlot  = 0x2050
)

// house is a memory of four tables, with the eight pages of one's group, whose frames are one behind the other from 0x10000 on, and a great page of either level: all with all rights, and not used.
func house() *mem.Mem {
	m := mem.New(22)
	m.Store(top, 0x2007)
	m.Store(third, 0x3007)
	m.Store(second, 0x4007)
	for i := range uint64(8) {
		m.Store(first+i*8, 0x10007+i*0x1000)
	}
	m.Store(middleSlot, 0x200087)
	m.Store(largeSlot, 0x87)
	return m
}

// user is a user's access of a kind from house's root.
func user(kind int) refwalk.Use {
	return refwalk.Use{Root: root, Acc: api.Access{Kind: kind, User: true}}
}

// others are the slots of a slot's group, but that one, rising.
func others(slot uint64) []uint64 {
	var list []uint64
	for s := slot / 64 * 64; s < slot/64*64+64; s += 8 {
		if s != slot {
			list = append(list, s)
		}
	}
	return list
}

// peek is a slot's word.
func peek(t *testing.T, m *mem.Mem, slot uint64) uint64 {
	t.Helper()
	x, e := m.Peek(slot)
	if e != api.OK {
		t.Fatalf("Peek(%#x) = %v", slot, e)
	}
	return x
}

// words holds words of a memory against these ones.
func words(t *testing.T, what string, m *mem.Mem, want map[uint64]uint64) {
	t.Helper()
	for slot, x := range want {
		if y := peek(t, m, slot); y != x {
			t.Errorf("%s: the word at %#x is %#x, not %#x", what, slot, y, x)
		}
	}
}

// counts holds how much is kept against these numbers: of translations, and of tables of the levels 4, 3 and 2.
func counts(t *testing.T, what string, c Caches, lines, four, three, two int) {
	t.Helper()
	told := [4]int{c.T.Len(), c.P.Len(4), c.P.Len(3), c.P.Len(2)}
	if told != [4]int{lines, four, three, two} {
		t.Errorf("%s: kept are %d, not %d, %d, %d, %d", what, told, lines, four, three, two)
	}
}

// pages are which of one's group are found, by their places in it.
func pages(c Caches, pcid int) []int {
	var list []int
	for i := range 8 {
		if _, is := c.T.Look(pcid, nextTo(8+i)); is {
			list = append(list, i)
		}
	}
	return list
}

// does is Translate, held against these figures: an address, or an error's code, and what is read.
func does(t *testing.T, what string, m *mem.Mem, c Caches, w Who, u refwalk.Use, a, want uint64, code int, reads ...uint64) {
	t.Helper()
	m.Forget()
	at, err := Translate(m, c, w, u, a)
	if !answered(at, err, a, want, code) {
		t.Errorf("%s: Translate(%+v, %#x) = %#x, %v, not %#x, %d", what, u, a, at, err, want, code)
	}
	if l := m.Trace(); !slices.Equal(l, reads) {
		t.Errorf("%s: Translate(%+v, %#x) reads %#x, not %#x", what, u, a, l, reads)
	}
}

func fires(t *testing.T, what string, m *mem.Mem, c Caches, w Who, u refwalk.Use, a uint64, want bool, reads ...uint64) {
	t.Helper()
	m.Forget()
	if is := Fire(m, c, w, u, a); is != want {
		t.Errorf("%s: Fire(%+v, %#x) = %v", what, u, a, is)
	}
	if l := m.Trace(); !slices.Equal(l, reads) {
		t.Errorf("%s: Fire(%+v, %#x) reads %#x, not %#x", what, u, a, l, reads)
	}
}

// P14.1: with no room for anything each translation is the plain one: the document's example.
func TestExample(t *testing.T) {
	r := numbers(1)
	for n := range 60 {
		m := town(&r, 14+n%9)
		plain, c, list := m.Copy(), New(0, 0), places(&r)
		for range 200 {
			u := refwalk.Use{Root: r.root(), Acc: r.access(), Ctl: controlOf(r.below(16))}
			a := list[r.below(len(list))]
			m.Forget()
			plain.Forget()
			at, err := Translate(m, c, r.who(r.below(3)), u, a)
			want, p, fail := refwalk.Translate(plain, u, a)
			if at != want || !alike(err, fail) {
				t.Fatalf("%+v, %#x: %#x, %v, not %#x, %v", u, a, at, err, want, fail)
			}
			reads := plain.Trace()
			if fail == nil && p.Level == 1 { // the seven others of the group are read, though nothing is kept
				reads = append(reads, others(p.Steps[3].Slot)...)
			}
			if l := m.Trace(); !slices.Equal(l, reads) {
				t.Fatalf("%+v, %#x: reads %#x, not %#x", u, a, l, reads)
			}
			if l := mem.Diff(m, plain); len(l) != 0 {
				t.Fatalf("%+v, %#x: other words at %#x", u, a, l)
			}
			counts(t, "no room", c, 0, 0, 0, 0)
		}
	}
}

// P14.1: a room of either kind is what was asked for, and another one's is not: as many are kept as there is room for.
func TestNew(t *testing.T) {
	for _, r := range rooms {
		for _, o := range []struct{ asked, room int }{{0, 0}, {1, 1}, {5, 5}, {64, 64}, {100, 64}, {math.MaxInt, 64}, {-1, 0}, {math.MinInt, 0}} {
			c := New(r.asked, o.asked)
			if c.T == nil || c.P == nil {
				t.Fatalf("New(%d, %d) = %+v", r.asked, o.asked, c)
			}
			counts(t, "new", c, 0, 0, 0, 0)
			m := mem.New(14)
			for n := range uint64(70) { // one table, whose entries lead back to it
				m.Store(0x1000+n*8, 0x1007)
				at, err := Translate(m, c, Who{Pcid: 1}, user(api.Load), nth(n))
				if at != 0x1000 || err != nil {
					t.Fatalf("%#x: %#x, %v", nth(n), at, err)
				}
				full := min(int(n)+1, o.room)
				counts(t, "filled", c, min(int(n)+1, r.room), full, full, full)
			}
		}
	}
	c, d := New(1, 1), New(1, 1) // each has lines of its own
	Fire(house(), c, Who{}, user(api.Load), one)
	counts(t, "filled", c, 1, 1, 1, 1)
	counts(t, "another one", d, 0, 0, 0, 0)
}

// nth has places of its own on all levels for each number below 512.
func nth(n uint64) uint64 { return n * (1<<39 + 1<<30 + 1<<21 + 1<<12) }

// P14.1: an address that isn't canonical comes ahead of all else: also of a hit, which allows it or not, and nothing is read.
func TestNotCanonical(t *testing.T) {
	for _, a := range wild {
		for _, r := range []right.Right{{}, right.All()} {
			for level := 0; level <= 3; level++ {
				m, c := house(), New(2, 2)
				lay(c, 3, a, level, r, true)
				for _, acc := range append(accesses(kinds), accesses(noKinds)...) {
					u := refwalk.Use{Root: root, Acc: acc}
					does(t, "wild", m, c, Who{Pcid: 3}, u, a, 0, gp)
					fires(t, "wild", m, c, Who{Pcid: 3}, u, a, false)
					does(t, "wild, nil", nil, Caches{}, Who{Pcid: 3}, u, a, 0, gp)
				}
				if l := mem.Diff(m, house()); len(l) != 0 {
					t.Errorf("%#x: written at %#x", a, l)
				}
				counts(t, "wild", c, min(level, 1), 0, 0, 0)
			}
		}
	}
}

// lay lets a hit of an address be there, of a level, with these rights: of the level 1 a run of all eight pages, one behind the other from 0x50000 on; of the level 0 there is none.
func lay(c Caches, pcid int, a uint64, level int, r right.Right, dirty bool) {
	if level == 1 {
		c.T.Small(pcid, a, cache.Line{Frame: 0x50000, Right: r, Dirty: dirty, Mask: 255}, 0)
		return
	}
	c.T.Great(pcid, a, tlb.Hit{Frame: 4 << 30, Level: level, Right: r, Dirty: dirty}, 0)
}

// laidAt is where lay's pages lie.
func laidAt(a uint64, level int) uint64 {
	if level == 1 {
		return 0x50000 + a%32768
	}
	return 4<<30 + a%bytesOf(level)
}

// P14.1: a hit of each level, with each of the rights, dirty or not, asked for by each access under all control bits: what its rights forbid faults, with its address and code; else what isn't a store, and what is dirty, is told; a store to what isn't dirty walks, here to where nothing is. A hit reads nothing.
func TestHits(t *testing.T) {
	empty := mem.New(14)
	for level := 1; level <= 3; level++ {
		for i := range 16 {
			r, dirty := rightOf(i%8), i/8 == 1
			c := New(1, 1)
			lay(c, 9, one, level, r, dirty)
			for _, acc := range append(accesses(kinds), accesses(noKinds)...) {
				for k := range 16 {
					u := refwalk.Use{Root: root, Acc: acc, Ctl: controlOf(k)}
					own := base(acc, u.Ctl)
					switch {
					case keptFrom(r, acc, u.Ctl):
						does(t, "forbidden", empty, c, Who{Pcid: 9}, u, one, 0, own+1)
					case acc.Kind == 2 && !dirty:
						does(t, "not dirty", empty, c, Who{Pcid: 9}, u, one, 0, own, top)
					default:
						does(t, "allowed", empty, c, Who{Pcid: 9}, u, one, laidAt(one, level), good)
						does(t, "allowed, no memory", nil, c, Who{Pcid: 9}, u, one, laidAt(one, level), good)
					}
					fires(t, "there", empty, c, Who{Pcid: 9}, u, one, false)
				}
			}
			counts(t, "asked", c, 1, 0, 0, 0)
		}
	}
	if l := mem.Diff(empty, mem.New(14)); len(l) != 0 {
		t.Errorf("written at %#x", l)
	}
}

// P14.1: the codes of a hit that is forbidden, as figures.
func TestHitCodes(t *testing.T) {
	readOnly, supervisor := right.Right{U: true, X: true}, right.Right{W: true, X: true}
	for _, c := range []struct {
		r    right.Right
		acc  api.Access
		ctl  api.Ctl
		code int
	}{
		{readOnly, api.Access{Kind: api.Store, User: true}, api.Ctl{}, 7}, {readOnly, api.Access{Kind: api.Store}, api.Ctl{WP: true}, 3},
		{supervisor, api.Access{Kind: api.Load, User: true}, api.Ctl{}, 5}, {supervisor, api.Access{Kind: api.Store, User: true}, api.Ctl{}, 7}, {supervisor, api.Access{Kind: api.Fetch, User: true}, api.Ctl{}, 5},
		{supervisor, api.Access{Kind: api.Fetch, User: true}, api.Ctl{NXE: true}, 21}, {right.Right{}, api.Access{Kind: api.Fetch}, api.Ctl{NXE: true}, 17}, {right.Right{}, api.Access{Kind: api.Fetch}, api.Ctl{}, 1},
		{right.All(), api.Access{Kind: api.Fetch}, api.Ctl{SMEP: true}, 17}, {right.All(), api.Access{Kind: api.Load}, api.Ctl{SMAP: true}, 1}, {right.All(), api.Access{Kind: api.Store}, api.Ctl{SMAP: true}, 3},
		{right.All(), api.Access{Kind: 0}, api.Ctl{}, 1}, {right.All(), api.Access{Kind: 7, User: true}, api.Ctl{}, 5},
	} {
		for level := 1; level <= 3; level++ {
			caches := New(1, 1)
			lay(caches, 0, one, level, c.r, true)
			does(t, "forbidden", house(), caches, Who{}, refwalk.Use{Root: root, Acc: c.acc, Ctl: c.ctl}, one, 0, c.code)
		}
	}
}

// P14.1: a hit's address, of each level, from its page's first byte to its last, in both halves.
func TestHitAddress(t *testing.T) {
	for _, half := range []uint64{0, 0xFFFF800000000000} {
		for level := 1; level <= 3; level++ {
			size := bytesOf(level)
			c := New(1, 1)
			begin := half + 7<<30
			lay(c, 5, begin, level, right.All(), false)
			for _, low := range []uint64{0, 1, 2, 7, 8, 63, 64, 0x7FF, 0x800, 0xFFE, 0xFFF, size / 2, size/2 - 1, size - 4096, size - 2, size - 1} {
				does(t, "hit", nil, c, Who{Pcid: 5}, user(api.Load), begin+low, laidAt(low, level), good)
				does(t, "hit", nil, c, Who{Pcid: 5}, user(api.Fetch), begin+low, laidAt(low, level), good)
			}
			if level == 1 { // the other pages of the run
				for i := range uint64(8) {
					does(t, "run", nil, c, Who{Pcid: 5}, user(api.Load), begin+i*4096+0xABC, 0x50ABC+i*4096, good)
				}
			}
		}
	}
}

// P14.1: what is read by each call, slot by slot: a whole walk and its group; with a table known, the last slot and its group; a page that is known, nothing; a store to what isn't dirty, once.
func TestReads(t *testing.T) {
	m, c, w := house(), New(8, 8), Who{Pcid: 1}
	does(t, "first", m, c, w, user(api.Load), one, 0x10123, good, append([]uint64{top, third, second, first}, others(first)...)...)
	does(t, "again", m, c, w, user(api.Load), one+1, 0x10124, good)
	does(t, "beside", m, c, w, user(api.Load), nextTo(9), 0x11123, good, append([]uint64{first + 8}, others(first+8)...)...)
	does(t, "both", m, c, w, user(api.Fetch), one, 0x10123, good)
	does(t, "store", m, c, w, user(api.Store), one, 0x10123, good, append([]uint64{first}, others(first)...)...)
	does(t, "stored", m, c, w, user(api.Store), one, 0x10123, good)
	does(t, "loaded", m, c, w, user(api.Load), one, 0x10123, good)
	does(t, "middle", m, c, w, user(api.Load), middle, 0x212345, good, middleSlot)
	does(t, "middle again", m, c, w, user(api.Load), middle+5, 0x21234A, good)
	does(t, "middle stored", m, c, w, user(api.Store), middle, 0x212345, good, middleSlot)
	does(t, "middle stored again", m, c, w, user(api.Store), middle, 0x212345, good)
	does(t, "large", m, c, w, user(api.Load), large, 0x1234567, good, largeSlot)
	does(t, "large again", m, c, w, user(api.Fetch), large+1, 0x1234568, good)
	does(t, "large stored", m, c, w, user(api.Store), large, 0x1234567, good, largeSlot)
	does(t, "large stored again", m, c, w, user(api.Store), large, 0x1234567, good)
	does(t, "absent", m, c, w, user(api.Load), nextTo(16), 0, 4, 0x4080)
	does(t, "absent above", m, c, w, user(api.Load), 5<<39+6<<30+10<<21, 0, 4, 0x3050)
	does(t, "another top", m, c, w, user(api.Load), 6<<39, 0, 4, 0x1030)
	does(t, "the middle in new caches", house(), New(1, 1), w, user(api.Load), middle, 0x212345, good, top, third, middleSlot)
	does(t, "the large in new caches", house(), New(1, 1), w, user(api.Load), large, 0x1234567, good, top, largeSlot)
	words(t, "after all", m, map[uint64]uint64{top: 0x2027, third: 0x3027, second: 0x4027, first: 0x10067, first + 8: 0x11027, first + 16: 0x12007, middleSlot: 0x2000E7, largeSlot: 0xE7})
}

// P14.1: the other slots are read at each place in the group, rising, and whatever room there is.
func TestReadsOfGroup(t *testing.T) {
	for i := range uint64(8) {
		for _, kind := range kinds {
			for _, room := range []int{0, 1, 64} {
				slot := first + i*8
				does(t, "whole", house(), New(room, 0), Who{}, user(kind), nextTo(8+int(i)), 0x10123+i*0x1000, good, append([]uint64{top, third, second, slot}, others(slot)...)...)
				fires(t, "whole", house(), New(room, 0), Who{}, user(kind), nextTo(8+int(i)), true, append([]uint64{top, third, second, slot}, others(slot)...)...)
			}
			does(t, "no caches", house(), Caches{}, Who{}, user(kind), nextTo(8+int(i)), 0x10123+i*0x1000, good, append([]uint64{top, third, second, first + i*8}, others(first+i*8)...)...)
		}
	}
}

// knows lets a table be known of one's walk, on the level below this one, behind these rights.
func knows(c Caches, pcid, level int, at uint64, r right.Right) {
	path := walk.Path{Steps: []walk.Step{{Level: level, Word: at + 7}, {Level: level - 1}}}
	c.P.Fill(pcid, one, path, walk.Place{Right: r}, [3]int{})
}

// P14.1, P14.2: a walk goes on from a table of each level, behind its rights, and not through the tables above: Root plays no part then. The tables below it are kept, and so is the page.
func TestFromEach(t *testing.T) {
	for _, c := range []struct {
		level int
		slots []uint64 // behind the table, whose words lead to 0xB000, 0xC000 and 0xD000
		lens  [3]int
	}{
		{4, []uint64{0xA030, 0xB038, 0xC040}, [3]int{1, 1, 1}}, {3, []uint64{0xA038, 0xB040}, [3]int{0, 1, 1}}, {2, []uint64{0xA040}, [3]int{0, 0, 1}},
	} {
		m, page := mem.New(16), uint64(0xA000)
		for _, slot := range c.slots {
			page += 0x1000
			m.Store(slot, page+7)
		}
		last := c.slots[len(c.slots)-1]
		reads := slices.Concat(c.slots, others(last))
		for i := range 8 {
			r := rightOf(i)
			for _, away := range []uint64{0, 0x1000, 1 << 40, all} {
				u := refwalk.Use{Root: away, Acc: api.Access{Kind: api.Load}}
				for _, isFire := range []bool{false, true} {
					n, caches := m.Copy(), New(1, 1)
					knows(caches, 4, c.level, 0xA000, r)
					if isFire {
						fires(t, "from a table", n, caches, Who{Pcid: 4}, u, one, true, reads...)
					} else {
						does(t, "from a table", n, caches, Who{Pcid: 4}, u, one, page+0x123, good, reads...)
					}
					h, is := caches.T.Look(4, one)
					if want := (tlb.Hit{Frame: page, Level: 1, Right: r}); !is || h != want {
						t.Errorf("from the level %d: hit %+v, %v, not %+v", c.level, h, is, want)
					}
					counts(t, "from a table", caches, 1, c.lens[0], c.lens[1], c.lens[2])
					if x, is := caches.P.Deepest(4, one); !is || x != (walk.Place{Level: 1, Table: page - 0x1000, Right: r}) {
						t.Errorf("from the level %d: deepest %+v, %v", c.level, x, is)
					}
					if l := mem.Diff(n, m); !slices.Equal(l, sorted(c.slots)) {
						t.Errorf("from the level %d: written at %#x", c.level, l)
					}
				}
			}
		}
	}
}

func sorted(list []uint64) []uint64 {
	list = slices.Clone(list)
	slices.Sort(list)
	return list
}

// P14.1: of another PCID, and of another place above, the table isn't that of the walk.
func TestFromOthers(t *testing.T) {
	for level := 2; level <= 4; level++ {
		c := New(4, 4)
		knows(c, 4, level, 0xA000, right.All())
		does(t, "another PCID", house(), c, Who{Pcid: 5}, user(api.Load), one, 0x10123, good, append([]uint64{top, third, second, first}, others(first)...)...)
		c = New(4, 4)
		knows(c, 4, level, 0xA000, right.All())
		a := one ^ bytesOf(level)<<3
		does(t, "another place", mem.New(14), c, Who{Pcid: 4}, user(api.Load), a, 0, 4, 0x1000+a>>39%512*8)
	}
}

// P14.1: a walk that isn't found, that has a reserved bit, or that the rights forbid, from Root or from a table: its error; nothing is written, and nothing is kept, but what was.
func TestFaults(t *testing.T) {
	cases := []struct {
		x    uint64
		part int // what the code has more than the access's own
	}{{0, 0}, {0x10006, 0}, {all - 1, 0}, {0x10007 | 1<<22, 9}, {0x10007 | 1<<51, 9}, {0x10007 | 1<<63, 9}, {0x10005, 1}, {0x10003, 1}, {0x10001, 1}}
	slots := []uint64{top, third, second, first}
	for i, slot := range slots {
		for _, w := range cases {
			m := house()
			m.Store(slot, w.x)
			if w.part == 1 { // it leads on, without a right
				m.Store(slot, peek(t, house(), slot)&^6|w.x&6)
			}
			reads := slots[:i+1]
			if w.part == 1 {
				reads = slots
			}
			was := m.Copy()
			u := user(api.Store)
			c := New(4, 4)
			does(t, "fault", m, c, Who{Pcid: 2}, u, one, 0, 6+w.part, reads...)
			counts(t, "fault", c, 0, 0, 0, 0)
			does(t, "the same again", m, c, Who{Pcid: 2}, u, one, 0, 6+w.part, reads...)
			counts(t, "fault", c, 0, 0, 0, 0)
			for level := 4; level > 4-i; level-- { // from each table above the slot
				at := slots[5-level] / 4096 * 4096
				knows(c, 2, level, at, right.All())
				from := 5 - level
				does(t, "fault from a table", m, c, Who{Pcid: 2}, u, one, 0, 6+w.part, reads[from:]...)
			}
			counts(t, "fault from a table", c, 0, min(i, 1), min(i, 2)/2, min(i, 3)/3)
			if l := mem.Diff(m, was); len(l) != 0 {
				t.Errorf("%#x, %#x: written at %#x", slot, w.x, l)
			}
		}
	}
}

// P14.1: the rights behind a table count: what they forbid is forbidden, though the last word has all.
func TestTableForbids(t *testing.T) {
	for i := range 8 {
		r := rightOf(i)
		for _, acc := range append(accesses(kinds), accesses(noKinds)...) {
			for k := range 16 {
				m, c := mem.New(16), New(2, 2)
				m.Store(0xA040, 0xB007)
				knows(c, 0, 2, 0xA000, r)
				u := refwalk.Use{Acc: acc, Ctl: controlOf(k)}
				if !keptFrom(r, acc, u.Ctl) {
					does(t, "allowed", m, c, Who{}, u, one, 0xB123, good, append([]uint64{0xA040}, others(0xA040)...)...)
					continue
				}
				does(t, "forbidden", m, c, Who{}, u, one, 0, base(acc, u.Ctl)+1, 0xA040)
				counts(t, "forbidden", c, 0, 0, 0, 1)
				words(t, "forbidden", m, map[uint64]uint64{0xA040: 0xB007})
			}
		}
	}
}

// P14.1: what a store to what isn't dirty finds is judged anew, since the memory may have been written: its error, and what was kept stays.
func TestNotDirtyJudged(t *testing.T) {
	for _, c := range []struct {
		word uint64
		code int
	}{{0, 6}, {0x10005, 7}, {0x10003, 7}, {0x10007 | 1<<30, 15}} {
		m, caches := house(), New(1, 0)
		lay(caches, 0, one, 1, right.All(), false)
		m.Store(first, c.word)
		does(t, "not dirty", m, caches, Who{}, user(api.Store), one, 0, c.code, top, third, second, first)
		does(t, "loaded", m, caches, Who{}, user(api.Load), one, laidAt(one, 1), good)
		words(t, "not dirty", m, map[uint64]uint64{top: 0x2007, first: c.word})
	}
	m, caches := house(), New(1, 0)
	lay(caches, 0, one, 1, right.All(), false)
	does(t, "stored elsewhere", m, caches, Who{}, user(api.Store), one, 0x10123, good, append([]uint64{top, third, second, first}, others(first)...)...)
	does(t, "and there from then on", m, caches, Who{}, user(api.Load), one, 0x10123, good)
}

// P14.1: of a page of 4096 bytes those of its group are kept that go together with it, at each place: as the word stands once it is marked, by a load and by a store.
func TestGroup(t *testing.T) {
	for at := range 8 {
		slot := first + uint64(at)*8
		for _, c := range []struct {
			what        string
			others, own uint64 // what the words are more than 7
			load, store bool   // whether all go together, behind either access, or the one stands alone
			dirty       bool   // behind a load; behind a store it always is
		}{
			{"none is used", 0, 0, false, false, false},
			{"the one is used", 0, 0x20, false, false, false},
			{"the others are used", 0x20, 0, true, false, false},
			{"all are used", 0x20, 0x20, true, false, false},
			{"the others are dirty", 0x60, 0, false, true, false},
			{"all are dirty", 0x60, 0x60, true, true, true},
			{"the one is dirty", 0x20, 0x60, false, false, true},
			{"dirty, not used", 0x40, 0x40, false, false, true},
			{"all are used, and none may be fetched", 1<<63 + 0x20, 1 << 63, true, false, false},
			{"the others may not be fetched", 1<<63 + 0x20, 0, false, false, false},
			{"other bits play no part", 0xF98 + 0x20 + 0x7FF<<52, 0, true, false, false},
		} {
			for _, kind := range []int{api.Load, api.Store} {
				m := house()
				for i := range uint64(8) {
					more := c.others
					if int(i) == at {
						more = c.own
					}
					m.Store(first+i*8, 0x10007+i*0x1000+more)
				}
				u := user(kind)
				u.Ctl.NXE = true
				caches := New(1, 1)
				a := nextTo(8 + at)
				does(t, c.what, m, caches, Who{}, u, a, 0x10123+uint64(at)*0x1000, good, append([]uint64{top, third, second, slot}, others(slot)...)...)
				want := []int{at}
				if kind == api.Load && c.load || kind == api.Store && c.store {
					want = []int{0, 1, 2, 3, 4, 5, 6, 7}
				}
				dirty := c.dirty || kind == api.Store
				if l := pages(caches, 0); !slices.Equal(l, want) {
					t.Errorf("%s, at %d, %d: kept are %d, not %d", c.what, at, kind, l, want)
				}
				r := right.Right{W: true, U: true, X: c.own < 1<<63}
				for _, i := range want {
					h, _ := caches.T.Look(0, nextTo(8+i))
					if h != (tlb.Hit{Frame: 0x10000 + uint64(i)*0x1000, Level: 1, Right: r, Dirty: dirty}) {
						t.Errorf("%s, at %d, %d: hit %+v of %d", c.what, at, kind, h, i)
					}
				}
				counts(t, c.what, caches, 1, 1, 1, 1)
				words(t, c.what, m, map[uint64]uint64{top: 0x2027, third: 0x3027, second: 0x4027, slot: peek(t, house(), slot) + marked(c.own, kind)})
			}
		}
	}
}

// marked is what a word has more, behind an access of a kind.
func marked(more uint64, kind int) uint64 {
	more = with(more, 5)
	if kind == api.Store {
		return with(more, 6)
	}
	return more
}

// P14.1: what may not be is no part of a run: the memory's bits, and NXE, are those of the walk.
func TestGroupReserved(t *testing.T) {
	for bits := 17; bits <= 22; bits++ {
		for b := 12; b < 52; b++ {
			m := mem.New(bits)
			for _, slot := range []uint64{top, third, second} {
				m.Store(slot, peek(t, house(), slot))
			}
			m.Store(first, 0x10027)
			m.Store(first+8, 0x11027|power(b))
			m.Store(first+16, 0x12027)
			c := New(1, 1)
			Translate(m, c, Who{}, user(api.Load), one)
			want := []int{0, 2}
			if b == 12 || b == 16 { // bits that it has
				want = []int{0, 1, 2}
			}
			if l := pages(c, 0); !slices.Equal(l, want) {
				t.Errorf("%d bits, the bit %d: kept are %d", bits, b, l)
			}
		}
	}
	for bits := 16; bits <= 21; bits++ { // a word of the frame behind the memory's last one is reserved, where there isn't a bit more
		for more, want := range [][]int{{0}, {0, 1}} {
			m, end := mem.New(bits+more), power(bits)
			for i, x := range []uint64{0x2007, 0x3007, 0x4007, end - 0x1000 + 0x27, end + 0x27} {
				m.Store([]uint64{top, third, second, first, first + 8}[i], x)
			}
			c := New(1, 1)
			does(t, "the last frame", m, c, Who{}, user(api.Load), one, end-0x1000+0x123, good, append([]uint64{top, third, second, first}, others(first)...)...)
			if l := pages(c, 0); !slices.Equal(l, want) {
				t.Errorf("the last frame of %d bits of %d: kept are %d", bits, bits+more, l)
			}
		}
	}
}

// P14.1, P14.2: a walk is marked ahead of being kept: where a table's own slot lies in the group of the last one, its word goes together with that as it stands then; so does a slot that a walk passes more than once.
func TestMarkedFirst(t *testing.T) {
	for _, c := range []struct {
		a     uint64
		kind  int // 0: looked for ahead
		reads []uint64
		found []uint64
		dirty bool
	}{
		{0x1000, api.Load, []uint64{0x1000, 0x1000, 0x1000, 0x1008}, []uint64{0, 0x1000}, false},
		{0x1000, api.Store, []uint64{0x1000, 0x1000, 0x1000, 0x1008}, []uint64{0x1000}, true},
		{0x1000, 0, []uint64{0x1000, 0x1000, 0x1000, 0x1008}, []uint64{0, 0x1000}, false},
		{0, api.Load, []uint64{0x1000, 0x1000, 0x1000, 0x1000}, []uint64{0}, false},
		{0, api.Store, []uint64{0x1000, 0x1000, 0x1000, 0x1000}, []uint64{0}, true},
	} {
		m, caches := mem.New(14), New(1, 1)
		m.Store(0x1000, 0x1007)
		m.Store(0x1008, 0x2007)
		reads := slices.Concat(c.reads, others(c.reads[3]))
		if c.kind == 0 {
			fires(t, "itself", m, caches, Who{}, user(api.Store), c.a, true, reads...)
		} else {
			does(t, "itself", m, caches, Who{}, user(c.kind), c.a, c.a+0x1000, good, reads...)
		}
		var found []uint64
		for a := uint64(0); a < 0x8000; a += 0x1000 {
			if h, is := caches.T.Look(0, a); is {
				found = append(found, a)
				if h != (tlb.Hit{Frame: a + 0x1000, Level: 1, Right: right.All(), Dirty: c.dirty}) {
					t.Errorf("%+v: hit %+v at %#x", c, h, a)
				}
			}
		}
		if !slices.Equal(found, c.found) {
			t.Errorf("%+v: found at %#x", c, found)
		}
	}
}

// P14.1: a great page is kept with its rights, dirty as its word is once it is marked; of its neighbours nothing.
func TestGreat(t *testing.T) {
	for _, c := range []struct {
		a, slot, frame uint64
		level          int
		lens           [3]int
	}{{middle, middleSlot, 0x200000, 2, [3]int{1, 1, 0}}, {large, largeSlot, 0, 3, [3]int{1, 0, 0}}} {
		for i := range 8 {
			r := rightOf(i)
			for _, flags := range []uint64{0, 0x20, 0x40, 0x60} {
				for _, kind := range kinds {
					m, caches := house(), New(1, 1)
					word := c.frame + 0x81 + flags
					for k, is := range []bool{r.W, r.U} {
						if is {
							word += power(k + 1)
						}
					}
					if !r.X {
						word += 1 << 63
					}
					m.Store(c.slot, word)
					u := refwalk.Use{Root: root, Acc: api.Access{Kind: kind}, Ctl: api.Ctl{NXE: true}}
					if kind == api.Fetch && !r.X {
						continue
					}
					at, err := Translate(m, caches, Who{Pcid: 6}, u, c.a)
					if at != c.frame+c.a%bytesOf(c.level) || err != nil {
						t.Errorf("%+v: %#x, %v", c, at, err)
					}
					want := tlb.Hit{Frame: c.frame, Level: c.level, Right: r, Dirty: flags >= 0x40 || kind == api.Store}
					begin := c.a / bytesOf(c.level) * bytesOf(c.level)
					for _, low := range []uint64{0, 0x1000, c.a % bytesOf(c.level), bytesOf(c.level) - 1} {
						if h, is := caches.T.Look(6, begin+low); !is || h != want {
							t.Errorf("%+v: hit %+v, %v at %#x, not %+v", c, h, is, low, want)
						}
					}
					for _, away := range []uint64{begin - 1, begin + bytesOf(c.level)} {
						if _, is := caches.T.Look(6, away); is {
							t.Errorf("%+v: a hit at %#x", c, away)
						}
					}
					counts(t, "great", caches, 1, c.lens[0], c.lens[1], c.lens[2])
					words(t, "great", m, map[uint64]uint64{top: 0x2027, c.slot: word - flags + marked(flags, kind)})
				}
			}
		}
	}
}

// selfish is a memory of one table whose entries lead back to it, so that nth's walks have tables of their own on all levels.
func selfish() *mem.Mem {
	m := mem.New(14)
	for n := range uint64(512) {
		m.Store(root+n*8, 0x1007)
	}
	return m
}

// kept tells which of the translations and tables of an address there are: a translation, and tables of the levels 4, 3 and 2.
func kept(c Caches, pcid int, a uint64) [4]bool {
	var list [4]bool
	_, list[0] = c.T.Look(pcid, a)
	for level := 2; level <= 4; level++ {
		at := a
		if level > 2 { // beside it on the level below, where the tables of that one tell nothing
			at ^= bytesOf(level-1) << 8
		}
		x, is := c.P.Deepest(pcid, at)
		list[5-level] = is && x.Level == level-1
	}
	return list
}

// P14.1, P14.2: each of the four picks, by what it drops: of translations, and of tables of the levels 4, 3 and 2.
func TestPicks(t *testing.T) {
	for _, four := range [][4]int{{0, 1, 2, 3}, {3, 2, 1, 0}, {1, 0, 3, 2}, {2, 3, 0, 1}, {0, 0, 0, 0}, {3, 0, 0, 0}, {0, 3, 0, 0}, {0, 0, 3, 0}, {0, 0, 0, 3}, {-1, -2, -3, -4}, {math.MaxInt, math.MinInt, 1 << 40, -1<<40 - 1}} {
		for _, isFire := range []bool{false, true} {
			m, c := selfish(), New(4, 4)
			for n := range uint64(4) {
				Translate(m, c, Who{Pcid: 1, Picks: [4]int{9, 9, 9, 9}}, user(api.Load), nth(n)) // where there is room, a pick plays no part
			}
			w := Who{Pcid: 1, Picks: four}
			if isFire {
				fires(t, "full", m, c, w, user(api.Load), nth(9), true, append(slotsOf(9), others(root+9*8)...)...)
			} else {
				does(t, "full", m, c, w, user(api.Load), nth(9), 0x1000, good, append(slotsOf(9), others(root+9*8)...)...)
			}
			for n := range 4 {
				var want [4]bool
				for i, pick := range four {
					want[i] = picked(pick, 4) != n
				}
				if k := kept(c, 1, nth(uint64(n))); k != want {
					t.Errorf("%d: of %d there are %v, not %v", four, n, k, want)
				}
			}
			if k := kept(c, 1, nth(9)); k != [4]bool{true, true, true, true} {
				t.Errorf("%d: of the new one there are %v", four, k)
			}
			counts(t, "full", c, 4, 4, 4, 4)
		}
	}
}

// slotsOf are those of nth's walk through selfish.
func slotsOf(n uint64) []uint64 {
	return []uint64{root + n*8, root + n*8, root + n*8, root + n*8}
}

// P14.1: a great page takes the pick of translations, too.
func TestPickOfGreat(t *testing.T) {
	for _, a := range []uint64{middle, large} {
		for pick := range 3 {
			m, c := house(), New(3, 0)
			for i := range 3 {
				lay(c, 1, nth(uint64(i)+20), 1, right.All(), false)
			}
			Translate(m, c, Who{Pcid: 1, Picks: [4]int{pick, 7, 7, 7}}, user(api.Load), a)
			for i := range 3 {
				if _, is := c.T.Look(1, nth(uint64(i)+20)); is == (i == pick) {
					t.Errorf("%#x, %d: of %d %v", a, pick, i, is)
				}
			}
			if _, is := c.T.Look(1, a); !is {
				t.Errorf("%#x, %d: not kept", a, pick)
			}
		}
	}
}

// P14.2: an address that is found already is not looked for: neither its rights nor the access play a part, and nothing is read, or changed.
func TestFireThere(t *testing.T) {
	for level := 1; level <= 3; level++ {
		for i := range 16 {
			m, c := house(), New(2, 2)
			lay(c, 8, one, level, rightOf(i%8), i/8 == 1)
			was, _ := c.T.Look(8, one)
			for _, acc := range append(accesses(kinds), accesses(noKinds)...) {
				u := refwalk.Use{Root: root, Acc: acc, Ctl: controlOf(i)}
				fires(t, "there", m, c, Who{Pcid: 8, Picks: [4]int{1, 2, 3, 4}}, u, one, false)
				fires(t, "there, no memory", nil, c, Who{Pcid: 8}, u, one+0xEDC, false)
			}
			if h, is := c.T.Look(8, one); !is || h != was {
				t.Errorf("level %d: hit %+v, %v, not %+v", level, h, is, was)
			}
			counts(t, "there", c, 1, 0, 0, 0)
			if l := mem.Diff(m, house()); len(l) != 0 {
				t.Errorf("written at %#x", l)
			}
		}
	}
}

// P14.2: a walk that isn't found, from Root or from a table: false; nothing is written, and nothing kept.
func TestFireNotFound(t *testing.T) {
	slots := []uint64{top, third, second, first}
	for i, slot := range slots {
		for _, x := range []uint64{0, all - 1, 0x10006, 0x10007 | 1<<22, 0x10007 | 1<<51, 0x10007 | 1<<63} {
			m, c := house(), New(4, 4)
			m.Store(slot, x)
			was := m.Copy()
			fires(t, "not found", m, c, Who{}, user(api.Store), one, false, slots[:i+1]...)
			counts(t, "not found", c, 0, 0, 0, 0)
			if i == 3 {
				knows(c, 0, 2, 0x4000, right.All())
				fires(t, "not found from a table", m, c, Who{}, user(api.Load), one, false, first)
				counts(t, "not found from a table", c, 0, 0, 0, 1)
			}
			if l := mem.Diff(m, was); len(l) != 0 {
				t.Errorf("%#x, %#x: written at %#x", slot, x, l)
			}
		}
	}
	fires(t, "a root beyond the memory", house(), New(4, 4), Who{}, refwalk.Use{Root: 1 << 22}, one, false)
	fires(t, "no memory", nil, New(4, 4), Who{}, user(api.Load), one, false)
}

// P14.2: what is found is marked, but never dirty, and is kept: by each access, also by one that its rights forbid, and by none.
func TestFireFound(t *testing.T) {
	for _, f := range []struct {
		a, slot uint64
		level   int
		reads   []uint64
		lens    [3]int
	}{
		{one, first, 1, append([]uint64{top, third, second, first}, others(first)...), [3]int{1, 1, 1}},
		{middle, middleSlot, 2, []uint64{top, third, middleSlot}, [3]int{1, 1, 0}},
		{large, largeSlot, 3, []uint64{top, largeSlot}, [3]int{1, 0, 0}},
	} {
		for _, acc := range append(accesses(kinds), accesses(noKinds)...) {
			for i := range 64 { // by all control bits, and all flags that a word may have
				m, c := house(), New(1, 1)
				word := peek(t, m, f.slot)&^6 | uint64(i/16)*0x20 | uint64(i%4)*2
				m.Store(f.slot, word)
				u := refwalk.Use{Root: root, Acc: acc, Ctl: controlOf(i % 16)}
				fires(t, "found", m, c, Who{Pcid: 3}, u, f.a, true, f.reads...)
				want := tlb.Hit{Frame: word / 0x1000 * 0x1000, Level: f.level, Right: right.Right{W: i%2 == 1, U: i/2%2 == 1, X: true}, Dirty: i >= 32}
				if h, is := c.T.Look(3, f.a); !is || h != want {
					t.Errorf("%#x, %+v: hit %+v, %v, not %+v", word, acc, h, is, want)
				}
				counts(t, "found", c, 1, f.lens[0], f.lens[1], f.lens[2])
				words(t, "found", m, map[uint64]uint64{top: 0x2027, f.slot: word | 0x20})
				fires(t, "at once again", m, c, Who{Pcid: 3}, u, f.a, false)
			}
		}
	}
}

// P14.2: what was looked for ahead is there for what may be done with it; what may not be faults as ever; a store to it walks once.
func TestFired(t *testing.T) {
	m, c, w := house(), New(2, 2), Who{Pcid: 1}
	m.Store(first, 0x10005)
	fires(t, "ahead", m, c, w, user(api.Store), one, true, append([]uint64{top, third, second, first}, others(first)...)...)
	does(t, "loaded", m, c, w, user(api.Load), one, 0x10123, good)
	does(t, "stored", m, c, w, user(api.Store), one, 0, 7)
	fires(t, "beside", m, c, w, user(api.Load), nextTo(9), true, append([]uint64{first + 8}, others(first+8)...)...)
	does(t, "stored beside", m, c, w, user(api.Store), nextTo(9), 0x11123, good, append([]uint64{first + 8}, others(first+8)...)...)
	does(t, "again", m, c, w, user(api.Store), nextTo(9), 0x11123, good)
	words(t, "fired", m, map[uint64]uint64{first: 0x10025, first + 8: 0x11067})
}

// P14.1, P14.2: what is kept is a PCID's own, of any number.
func TestPcids(t *testing.T) {
	c := New(64, 64)
	for n, pcid := range pcids {
		m := house()
		m.Store(first, 0x10007+uint64(n)*0x1000)
		for _, a := range []uint64{one, middle, large} {
			if _, is := c.T.Look(pcid, a); is {
				t.Fatalf("%d: a hit at %#x", pcid, a)
			}
		}
		does(t, "first", m, c, Who{Pcid: pcid}, user(api.Load), one, 0x10123+uint64(n)*0x1000, good, append([]uint64{top, third, second, first}, others(first)...)...)
		fires(t, "middle", m, c, Who{Pcid: pcid}, user(api.Load), middle, true, middleSlot)
		fires(t, "large", m, c, Who{Pcid: pcid}, user(api.Load), large, true, largeSlot)
		counts(t, "so many", c, 3*(n+1), n+1, n+1, n+1)
	}
	for n, pcid := range pcids {
		does(t, "again", nil, c, Who{Pcid: pcid}, user(api.Load), one, 0x10123+uint64(n)*0x1000, good)
		does(t, "again", nil, c, Who{Pcid: pcid}, user(api.Load), middle, 0x212345, good)
		does(t, "again", nil, c, Who{Pcid: pcid}, user(api.Load), large, 0x1234567, good)
	}
}

// P14.1: roots that have other bits than those of a table, and such as don't lie in the memory.
func TestRoots(t *testing.T) {
	for _, r := range []uint64{root, root + 1, root + 0xFFF, root | 1<<52, root | 0xFFF<<52 | 0xFFF} {
		u := refwalk.Use{Root: r, Acc: api.Access{Kind: api.Load}}
		does(t, "root", house(), New(1, 1), Who{}, u, one, 0x10123, good, append([]uint64{top, third, second, first}, others(first)...)...)
		fires(t, "root", house(), New(1, 1), Who{}, u, one, true, append([]uint64{top, third, second, first}, others(first)...)...)
	}
	for _, r := range []uint64{1 << 22, 1<<22 + 0x1000, 1 << 51, all, all - 0xFFF, root | 1<<22} {
		for _, acc := range append(accesses(kinds), accesses(noKinds)...) {
			m, c, u := house(), New(1, 1), refwalk.Use{Root: r, Acc: acc, Ctl: controlOf(4)}
			does(t, "beyond", m, c, Who{}, u, one, 0, base(acc, u.Ctl)+9)
			fires(t, "beyond", m, c, Who{}, u, one, false)
			does(t, "no memory", nil, c, Who{}, u, one, 0, base(acc, u.Ctl)+9)
			counts(t, "beyond", c, 0, 0, 0, 0)
		}
	}
}

// P14.1, P14.2: caches that are nil, each by itself and both, are such without room; a table that is known doesn't help in a memory that is nil.
func TestNil(t *testing.T) {
	r := numbers(6)
	for n := range 40 {
		for i, c := range []Caches{{}, {T: tlb.New(5)}, {P: psc.New(5)}, New(5, 5)} {
			m := town(&r, 14+n%9)
			p := &pair{m, c, newBook(5*(i%2), 5*(i/2), m)}
			list := places(&r)
			for range 150 {
				p.one(t, &r, list)
				p.same(t, []int{0, 1, 2}, list)
			}
		}
	}
	for _, c := range []Caches{{}, {T: tlb.New(5)}, {P: psc.New(5)}, New(5, 5)} {
		knows(c, 0, 2, 0x4000, right.All())
		does(t, "no memory", nil, c, Who{}, user(api.Load), one, 0, 13)
		fires(t, "no memory", nil, c, Who{}, user(api.Load), one, false)
		if c.T.Len() != 0 {
			t.Errorf("kept without a memory: %d", c.T.Len())
		}
	}
}

// placesOf are, by levels, those of which addresses are made.
var placesOf = [5][]uint64{1: {0, 1, 2, 3, 4, 5, 6, 7, 8, 9, 14, 15, 504, 511}, 2: {0, 1, 7, 511}, 3: {0, 3, 8}, 4: {0, 1, 256, 511}}

// place is any of a level.
func (n *numbers) place(level int) uint64 { return placesOf[level][n.below(len(placesOf[level]))] }

// places are addresses that lie near each other, of a few tables, and a few that aren't canonical.
func places(r *numbers) []uint64 {
	var list []uint64
	for range 4 {
		var at [5]uint64
		for level := 1; level <= 4; level++ {
			at[level] = r.place(level)
		}
		for range 8 {
			for level := 1; level <= 2; level++ {
				if r.once(2 * level) {
					at[level] = r.place(level)
				}
			}
			list = append(list, address(at)+uint64(r.below(4096)))
		}
	}
	return append(list, wild[r.below(len(wild))], list[0]^1<<55)
}

// address is the canonical one of places.
func address(at [5]uint64) uint64 {
	a := uint64(0)
	for level := 1; level <= 4; level++ {
		a += at[level] * bytesOf(level)
	}
	if at[4] >= 256 {
		a += 0xFFFF << 48
	}
	return a
}

// root is one of town's, with other bits than its table's, or, seldom, none.
func (n *numbers) root() uint64 {
	if n.once(20) {
		return n.next()
	}
	return uint64(n.below(2))*0x1000 + uint64(n.below(4096)) + uint64(n.below(4096))<<52
}

// town is a memory of some tables, whose words lead to the next ones, or, in one of three, to any; in the last ones, whole groups of pages lie one behind the other.
func town(r *numbers, bits int) *mem.Mem {
	m := mem.New(bits)
	frames := 1 << (bits - 12)
	mixed := r.once(3) || frames < 8
	for f := range min(frames, 8) {
		level := 4 - f/2
		if mixed {
			level = 1 + r.below(4)
		}
		for _, begin := range []int{0, 8, 256, 504} {
			row := r.run(frames)
			for i := range 8 {
				x := row + uint64(i)*0x1000
				if level > 1 || r.once(5) {
					x = r.entry(level, frames, mixed)
				}
				m.Store(uint64(f)*0x1000+uint64(begin+i)*8, x)
			}
		}
	}
	return m
}

// run is the first word of a row of pages.
func (n *numbers) run(frames int) uint64 {
	x := uint64(n.below(frames))*0x1000 + 0x27
	for _, b := range []int{1, 2, 5} {
		if n.once(4) {
			x -= power(b)
		}
	}
	if n.once(4) {
		x += power(6)
	}
	if n.once(6) {
		x += power(63)
	}
	return x
}

// entry is a word of a table of a level: mostly one that leads on.
func (n *numbers) entry(level, frames int, mixed bool) uint64 {
	f := n.below(min(frames, 8))
	if !mixed {
		f = 2*(5-level) + n.below(2)
	}
	x := uint64(f)*0x1000 + 7
	for _, b := range []int{0, 1, 2, 63, 52, 22, 51} {
		if n.once(12) {
			x ^= power(b)
		}
	}
	for _, b := range []int{5, 6, 9} {
		if n.once(2) {
			x ^= power(b)
		}
	}
	if n.once(5) { // a great page, mostly one that may be
		x |= power(7)
		if !n.once(4) {
			x = x&^(power(40)-0x1000) | uint64(n.below(2))*0x1000
		}
		if n.once(3) && frames == 1024 {
			x |= power(21)
		}
	}
	return x
}

// one is a call of any kind, held against the book: a translation, a look ahead, something that is gone, or a word that is written.
func (p *pair) one(t *testing.T, r *numbers, list []uint64) {
	t.Helper()
	a, w := list[r.below(len(list))]^uint64(r.below(4096)), r.who(r.below(3))
	u := refwalk.Use{Root: r.root(), Acc: r.access(), Ctl: controlOf(r.below(16))}
	switch r.below(16) {
	default:
		p.translate(t, w, u, a)
	case 0, 1, 2:
		p.fire(t, w, u, a)
	case 3:
		p.forget(r, w, a)
	case 4:
		slot, x := uint64(r.below(8*512))*8, r.entry(1+r.below(4), 1<<(p.m.Bits()-12), true)
		p.m.Store(slot, x)
		p.b.m.Store(slot, x)
	}
}

// forget lets something that is kept be gone.
func (p *pair) forget(r *numbers, w Who, a uint64) {
	pick := r.pick()
	switch r.below(8) {
	default:
		p.c.T.Evict(pick)
		p.b.evict(pick)
	case 0, 1:
		level := 2 + r.below(3)
		p.c.P.Evict(level, pick)
		p.b.evictTable(level, pick)
	case 2, 3:
		p.c.T.DropPage(w.Pcid, a)
		p.c.P.DropPage(w.Pcid, a)
		p.b.dropPage(w.Pcid, a)
	case 4:
		p.c.T.DropOf(w.Pcid)
		p.c.P.DropOf(w.Pcid)
		p.b.dropOf(w.Pcid)
	case 5:
		p.c.T.Clear()
		p.c.P.Clear()
		p.b.clear()
	}
}

// P14.1, P14.2: long rows of calls of all kinds, in rooms of all sizes, in memories that are written in between without that anything is dropped: each as the document says it.
func TestRows(t *testing.T) {
	r := numbers(2)
	found := [3]int{}
	for n := range 300 {
		m := town(&r, 14+n%9)
		p := pairOf(m, []int{0, 1, 2, 3, 5, 8, 64, 100, -1}[r.below(9)], []int{0, 1, 2, 3, 5, 64, 100, -1}[r.below(8)])
		list := places(&r)
		for i := range 200 {
			p.one(t, &r, list)
			if i%5 == 0 {
				p.same(t, []int{0, 1, 2}, list)
			}
		}
		for _, l := range p.b.lines {
			found[l.level-1]++
		}
	}
	for i, k := range found { // else the rows are too plain
		if k < 50 {
			t.Errorf("%d pages of the level %d alone", k, i+1)
		}
	}
}

// alike is whether two errors are the same.
func alike(e, f error) bool {
	if e == nil || f == nil {
		return e == f
	}
	p, is := fault.Of(e)
	q, too := fault.Of(f)
	return p == q && is == too && fault.Kind(e) == fault.Kind(f) && e.Error() == f.Error()
}

// P14.3: in a memory that nobody else writes, the quick translation is the plain one, whatever was translated, looked for ahead, and evicted before: the same address, or the same fault; the same memory, if nothing was looked for ahead, else one with more bits A at most. Each PCID has a root, and a bit NXE.
func TestTheorem(t *testing.T) {
	r := numbers(3)
	quick, goods, faults := 0, 0, 0
	for n := range 600 {
		m := town(&r, 14+n%9)
		plain, ahead := m.Copy(), n%2 == 1
		c := New([]int{0, 1, 2, 3, 8, 64}[r.below(6)], []int{0, 1, 2, 3, 64}[r.below(5)])
		var roots [3]uint64
		var nxe [3]bool
		for pcid := range roots {
			roots[pcid], nxe[pcid] = r.root(), r.once(2)
		}
		list := places(&r)
		for range 200 {
			a, w := list[r.below(len(list))]^uint64(r.below(4096)), r.who(r.below(3))
			u := refwalk.Use{Root: roots[w.Pcid], Acc: r.access(), Ctl: controlOf(r.below(16))}
			u.Ctl.NXE = nxe[w.Pcid]
			switch r.below(10) {
			case 0:
				(&pair{c: c, b: newBook(0, 0, nil)}).forget(&r, w, a)
				continue
			case 1:
				if ahead {
					Fire(m, c, w, u, a)
				}
				continue
			}
			m.Forget()
			at, err := Translate(m, c, w, u, a)
			want, _, fail := refwalk.Translate(plain, u, a)
			if at != want || !alike(err, fail) {
				t.Fatalf("%+v, %#x: %#x, %v, not %#x, %v", u, a, at, err, want, fail)
			}
			switch {
			case err != nil:
				faults++
			case len(m.Trace()) == 0:
				quick++
			default:
				goods++
			}
			moreA(t, m, plain, ahead)
		}
	}
	if quick < 1000 || goods < 1000 || faults < 1000 { // else the rows are too plain
		t.Errorf("%d without a walk, %d with one, %d faults", quick, goods, faults)
	}
}

// moreA holds a memory against the plain one: the same, or, where something was looked for ahead, one with more bits A.
func moreA(t *testing.T, m, plain *mem.Mem, ahead bool) {
	t.Helper()
	for _, slot := range mem.Diff(m, plain) {
		x, y := peek(t, m, slot), peek(t, plain, slot)
		if !ahead || x != with(y, 5) {
			t.Fatalf("the word at %#x is %#x, not %#x", slot, x, y)
		}
	}
}

// P14.4: what was translated, and is at once again, reads nothing, if there is room for a translation, and tells the same; whatever was kept before, and without any room for tables, too.
func TestAgain(t *testing.T) {
	r := numbers(4)
	levels := 0
	for n := range 400 {
		m := town(&r, 14+n%9)
		c := New(1+r.below(4), r.below(3))
		list := places(&r)
		var roots [3]uint64
		var nxe [3]bool
		for pcid := range roots {
			roots[pcid], nxe[pcid] = r.root(), r.once(2)
		}
		for range 100 {
			a, w := list[r.below(len(list))], r.who(r.below(3))
			u := refwalk.Use{Root: roots[w.Pcid], Acc: r.access(), Ctl: controlOf(r.below(16))}
			u.Ctl.NXE = nxe[w.Pcid]
			if r.once(4) {
				Fire(m, c, w, u, a)
				continue
			}
			at, err := Translate(m, c, w, u, a)
			if err != nil {
				continue
			}
			was := m.Copy()
			does(t, "again", m, c, r.who(w.Pcid), u, a, at, good)
			fires(t, "again", m, c, r.who(w.Pcid), u, a, false)
			if l := mem.Diff(m, was); len(l) != 0 {
				t.Fatalf("%#x: written at %#x", a, l)
			}
			levels++
		}
		if t.Failed() {
			return
		}
	}
	if levels < 1000 {
		t.Errorf("%d translations alone", levels)
	}
}

// P14.4: without room for a translation it is read again.
func TestAgainWithoutRoom(t *testing.T) {
	m, c := house(), New(0, 4)
	does(t, "first", m, c, Who{}, user(api.Load), one, 0x10123, good, append([]uint64{top, third, second, first}, others(first)...)...)
	does(t, "again", m, c, Who{}, user(api.Load), one, 0x10123, good, append([]uint64{first}, others(first)...)...)
	fires(t, "fired", m, c, Who{}, user(api.Load), one, true, append([]uint64{first}, others(first)...)...)
}
