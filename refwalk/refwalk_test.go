package refwalk

import (
	"errors"
	"math"
	"slices"
	"testing"

	"dormer/api"
	"dormer/fault"
	"dormer/mem"
	"dormer/right"
	"dormer/walk"
)

// The calls, as the document lists them.
var (
	_ func(m *mem.Mem, u Use, a uint64) (uint64, walk.Path, error) = Translate
	_ func(p walk.Path, u Use, a uint64) (uint64, error)           = Judge
	_                                                              = Use{Root: uint64(0), Acc: api.Access{}, Ctl: api.Ctl{}}
)

const all = math.MaxUint64

// kinds are those of accesses; noKinds are numbers that are none, some of which would be one if they were cut to fewer bits. So are noWhys and noLevels.
var (
	kinds    = []int{1, 2, 3}
	noKinds  = []int{0, 4, 5, 6, 7, 18, 64, -1, -2, -3, 256 + 1, 256 + 2, 256 + 3, 1<<32 + 1, 1<<32 + 2, 1<<32 + 3, -1<<32 + 2, math.MaxInt, math.MaxInt - 1, math.MinInt, math.MinInt + 2}
	whys     = []int{walk.Found, walk.Absent, walk.Reserved}
	noWhys   = []int{3, 4, 5, 8, 64, -1, -2, -3, 256, 256 + 1, 256 + 2, 1 << 16, 1<<16 + 2, 1 << 32, 1<<32 + 1, 1<<32 + 2, -1 << 32, math.MaxInt, math.MinInt, math.MinInt + 2}
	noLevels = []int{0, 4, 5, 6, 7, 8, 64, -1, -2, -3, -4, 256 + 1, 256 + 2, 1<<16 + 3, 1<<32 + 1, 1<<32 + 2, 1<<32 + 3, -1<<32 + 1, math.MaxInt, math.MinInt, math.MinInt + 1}
)

// allBits are the sizes of memories.
var allBits = []int{14, 15, 16, 17, 18, 19, 20, 21, 22}

// power is two to the i, and bit whether the bit i of x is 1, by doubling and division alone.
func power(i int) uint64 {
	p := uint64(1)
	for range i {
		p += p
	}
	return p
}

func bit(x uint64, i int) bool { return x/power(i)%2 == 1 }

// part is x without its bits below from and above to.
func part(x uint64, from, to int) uint64 {
	sum := uint64(0)
	for i := from; i <= to; i++ {
		if bit(x, i) {
			sum += power(i)
		}
	}
	return sum
}

// numbers is a row of numbers that look unlike, the same at each run.
type numbers uint64

func (n *numbers) next() uint64 {
	*n = *n*6364136223846793005 + 1442695040888963407
	return uint64(*n) ^ uint64(*n)>>29
}

// rights are all eight; controls all sixteen; accesses of these kinds all four of each.
func rights() []right.Right {
	var list []right.Right
	for i := range 8 {
		list = append(list, right.Right{W: i/4%2 == 1, U: i/2%2 == 1, X: i%2 == 1})
	}
	return list
}

func controls() []api.Ctl {
	var list []api.Ctl
	for i := range 16 {
		list = append(list, api.Ctl{WP: i/8%2 == 1, NXE: i/4%2 == 1, SMEP: i/2%2 == 1, SMAP: i%2 == 1})
	}
	return list
}

func accesses(kinds []int) []api.Access {
	var list []api.Access
	for _, k := range kinds {
		for i := range 4 {
			list = append(list, api.Access{Kind: k, User: i/2%2 == 1, AC: i%2 == 1})
		}
	}
	return list
}

// uses are all accesses, those of no kind, too, under all control bits, from one root.
func uses(root uint64) []Use {
	var list []Use
	for _, a := range append(accesses(kinds), accesses(noKinds)...) {
		for _, c := range controls() {
			list = append(list, Use{Root: root, Acc: a, Ctl: c})
		}
	}
	return list
}

// keptFrom are the document's reasons for which an access may not be, one by one.
func keptFrom(r right.Right, a api.Access, c api.Ctl) bool {
	load, store, fetch := a.Kind == 1, a.Kind == 2, a.Kind == 3
	return slices.Contains([]bool{
		!load && !store && !fetch,
		a.User && !r.U,
		a.User && store && !r.W,
		a.User && fetch && !r.X,
		!a.User && r.U && load && c.SMAP && !a.AC,
		!a.User && r.U && store && c.SMAP && !a.AC,
		!a.User && r.U && fetch && c.SMEP,
		!a.User && store && c.WP && !r.W,
		!a.User && fetch && !r.X,
	}, true)
}

// base is what of a fault's code is the access's own.
func base(a api.Access, c api.Ctl) int {
	sum := 0
	if a.Kind == 2 {
		sum += 2
	}
	if a.User {
		sum += 4
	}
	if a.Kind == 3 && (c.SMEP || c.NXE) {
		sum += 16
	}
	return sum
}

// below is what is left of an address by the bytes of a leaf of a level.
func below(a uint64, level int) uint64 {
	switch level {
	case 1:
		return a % 4096
	case 2:
		return a % (4096 * 512)
	case 3:
		return a % (4096 * 512 * 512)
	}
	return 0
}

// good is the code that is none: there is no fault.
const good = -1

// judged is what the document says of a walk: an address, or a code.
func judged(p walk.Path, u Use, a uint64) (uint64, int) {
	own := base(u.Acc, u.Ctl)
	if p.Why == 2 {
		return 0, own + 1 + 8
	}
	if p.Why != 0 {
		return 0, own
	}
	if keptFrom(p.Right, u.Acc, u.Ctl) {
		return 0, own + 1
	}
	return p.Frame + below(a, p.Level), good
}

// gone is a walk from a root as the document says it, by the numbers of bits; words are read without a trace.
func gone(m *mem.Mem, root, a uint64, nxe bool) walk.Path {
	var steps []walk.Step
	table, r := part(root, 12, 51), right.Right{W: true, U: true, X: true}
	for level := 4; ; level-- {
		slot := table + a/power(12+9*(level-1))%512*8
		if m == nil || slot >= power(m.Bits()) {
			return walk.Path{Steps: steps, Why: 2}
		}
		x, _ := m.Peek(slot)
		steps = append(steps, walk.Step{Level: level, Slot: slot, Word: x})
		great := bit(x, 7)
		if !bit(x, 0) {
			return walk.Path{Steps: steps, Why: 1}
		}
		if part(x, m.Bits(), 51) != 0 || bit(x, 63) && !nxe || level == 4 && great || level == 3 && great && part(x, 13, 29) != 0 || level == 2 && great && part(x, 13, 20) != 0 {
			return walk.Path{Steps: steps, Why: 2}
		}
		r = right.Right{W: r.W && bit(x, 1), U: r.U && bit(x, 2), X: r.X && !bit(x, 63)}
		if level == 1 || great {
			return walk.Path{Steps: steps, Why: 0, Right: r, Level: level, Frame: part(x, 12+9*(level-1), 51)}
		}
		table = part(x, 12, 51)
	}
}

// equal is whether two paths are the same, flags and all.
func equal(p, q walk.Path) bool {
	return p.Why == q.Why && p.Right == q.Right && p.Level == q.Level && p.Frame == q.Frame && slices.Equal(p.Steps, q.Steps)
}

// slots are where the steps of a path are.
func slots(p walk.Path) []uint64 {
	var list []uint64
	for _, s := range p.Steps {
		list = append(list, s.Slot)
	}
	return list
}

// marked is a copy of a memory in which the slots of a path have A, and the last one D, if it is dirty.
func marked(m *mem.Mem, p walk.Path, dirty bool) *mem.Mem {
	c := m.Copy()
	for i, s := range p.Steps {
		x, _ := c.Peek(s.Slot)
		if !bit(x, 5) {
			x += 32
		}
		if dirty && i == len(p.Steps)-1 && !bit(x, 6) {
			x += 64
		}
		c.Store(s.Slot, x)
	}
	return c
}

// isFault is whether an error is the page fault of an address and a code, and nothing else.
func isFault(err error, a uint64, code int) bool {
	p, is := fault.Of(err)
	return is && p == (fault.Page{Addr: a, Code: code}) && fault.Kind(err) == api.ErrFault && errors.Is(err, api.ErrFault) && err.Error() == fault.At(a, code).Error()
}

// isGP is whether an error is that of an address that isn't canonical.
func isGP(err error) bool {
	_, is := fault.Of(err)
	return !is && fault.Kind(err) == api.ErrGP && errors.Is(err, api.ErrGP) && err.Error() == "address: general protection"
}

// asked is Judge, held against what it should be; the path stays as it is.
func asked(t *testing.T, p walk.Path, u Use, a uint64) {
	t.Helper()
	was := p
	was.Steps = slices.Clone(p.Steps)
	at, err := Judge(p, u, a)
	want, code := judged(p, u, a)
	if at != want || code == good && err != nil || code != good && !isFault(err, a, code) {
		t.Fatalf("Judge(%+v, %+v, %#x) = %#x, %v, not %#x, code %d", p, u, a, at, err, want, code)
	}
	if !equal(p, was) {
		t.Fatalf("Judge(%+v, %+v, %#x) makes it %+v", was, u, a, p)
	}
}

// did is Translate of a canonical address, held against what it should be: address, path, fault, what is read, and what is written. It tells whether there was no fault.
func did(t *testing.T, m *mem.Mem, u Use, a uint64) bool {
	t.Helper()
	path := gone(m, u.Root, a, u.Ctl.NXE)
	want, code := judged(path, u, a)
	after := m.Copy()
	if code == good {
		after = marked(m, path, u.Acc.Kind == 2)
	}
	m.Forget()
	at, got, err := Translate(m, u, a)
	if at != want || code == good && err != nil || code != good && !isFault(err, a, code) {
		t.Fatalf("Translate(%+v, %#x) = %#x, %v, not %#x, code %d; path %+v", u, a, at, err, want, code, path)
	}
	if !equal(got, path) {
		t.Fatalf("Translate(%+v, %#x) goes\n%+v, not\n%+v", u, a, got, path)
	}
	if l := m.Trace(); !slices.Equal(l, slots(path)) {
		t.Fatalf("Translate(%+v, %#x) reads %#x, not %#x", u, a, l, slots(path))
	}
	if l := mem.Diff(m, after); len(l) != 0 {
		t.Fatalf("Translate(%+v, %#x), code %d: other words at %#x", u, a, code, l)
	}
	return code == good
}

// one is an address of four places that aren't the same: 5, 6, 7 and 8, and 0x123 behind them; oneSlots are the slots of its walk through chain.
const one = 5<<39 + 6<<30 + 7<<21 + 8<<12 + 0x123

var oneSlots = [4]uint64{0x1028, 0x3030, 0x0038, 0x2040}

// chain is a memory of four tables (0x1000, 0x3000, 0, 0x2000, from the root on) with a page, on one's way, all with these flags on their levels, from the root's on.
func chain(t *testing.T, bits int, flags [4]uint64) *mem.Mem {
	t.Helper()
	m := mem.New(bits)
	for i, frame := range []uint64{0x3000, 0, 0x2000, 0x3000} {
		if e := m.Store(oneSlots[i], frame+flags[i]); e != api.OK {
			t.Fatal(e)
		}
	}
	return m
}

// plain are the flags of words with all rights.
var plain = [4]uint64{7, 7, 7, 7}

// leaf is chain with a leaf of a level that has this word.
func leaf(t *testing.T, bits, level int, word uint64) *mem.Mem {
	t.Helper()
	m := chain(t, bits, plain)
	m.Store(oneSlots[4-level], word)
	return m
}

// P9.1, P9.2: the document's example, in memories of all sizes.
func TestExample(t *testing.T) {
	for _, bits := range allBits {
		m := mem.New(bits)
		u := Use{Acc: api.Access{Kind: api.Store, User: true}}
		at, p, err := Translate(m, u, 0)
		if at != 0 || !isFault(err, 0, 6) || !equal(p, walk.Path{Steps: []walk.Step{{Level: 4, Slot: 0, Word: 0}}, Why: walk.Absent}) {
			t.Errorf("%d bits: %#x, %+v, %v", bits, at, p, err)
		}
		if l := mem.Diff(m, mem.New(bits)); len(l) != 0 {
			t.Errorf("%d bits: written at %#x", bits, l)
		}
	}
}

// P9.1: the codes, as figures.
func TestJudgeCodes(t *testing.T) {
	none, writable, users := right.Right{}, right.Right{W: true, X: true}, right.Right{U: true}
	load, store, fetch := api.Access{Kind: api.Load}, api.Access{Kind: api.Store}, api.Access{Kind: api.Fetch}
	user := func(a api.Access) api.Access {
		a.User = true
		return a
	}
	for _, c := range []struct {
		why  int
		r    right.Right
		acc  api.Access
		ctl  api.Ctl
		code int
	}{
		{walk.Absent, none, load, api.Ctl{}, 0}, {walk.Absent, none, store, api.Ctl{}, 2}, {walk.Absent, none, user(load), api.Ctl{}, 4}, {walk.Absent, none, user(store), api.Ctl{}, 6},
		{walk.Absent, none, fetch, api.Ctl{}, 0}, {walk.Absent, none, fetch, api.Ctl{NXE: true}, 16}, {walk.Absent, none, user(fetch), api.Ctl{SMEP: true}, 20},
		{walk.Absent, right.All(), user(load), api.Ctl{}, 4}, {walk.Absent, right.All(), load, api.Ctl{}, 0},
		{walk.Reserved, none, load, api.Ctl{}, 9}, {walk.Reserved, none, store, api.Ctl{}, 11}, {walk.Reserved, none, user(load), api.Ctl{}, 13}, {walk.Reserved, none, user(store), api.Ctl{}, 15},
		{walk.Reserved, none, fetch, api.Ctl{WP: true, SMAP: true}, 9}, {walk.Reserved, none, fetch, api.Ctl{NXE: true}, 25}, {walk.Reserved, none, user(fetch), api.Ctl{NXE: true, SMEP: true}, 29},
		{walk.Reserved, right.All(), user(store), api.Ctl{}, 15}, {walk.Reserved, right.All(), load, api.Ctl{}, 9},
		{walk.Found, users, user(store), api.Ctl{}, 7}, {walk.Found, writable, user(store), api.Ctl{}, 7}, {walk.Found, none, user(load), api.Ctl{}, 5}, {walk.Found, users, user(fetch), api.Ctl{NXE: true}, 21},
		{walk.Found, users, user(fetch), api.Ctl{}, 5}, {walk.Found, none, store, api.Ctl{WP: true}, 3}, {walk.Found, none, store, api.Ctl{}, good}, {walk.Found, none, fetch, api.Ctl{NXE: true}, 17},
		{walk.Found, right.All(), fetch, api.Ctl{SMEP: true}, 17}, {walk.Found, right.All(), fetch, api.Ctl{NXE: true}, good}, {walk.Found, right.All(), load, api.Ctl{SMAP: true}, 1},
		{walk.Found, right.All(), store, api.Ctl{SMAP: true}, 3}, {walk.Found, right.All(), api.Access{Kind: api.Load, AC: true}, api.Ctl{SMAP: true}, good},
		{walk.Found, right.All(), user(load), api.Ctl{WP: true, NXE: true, SMEP: true, SMAP: true}, good}, {walk.Found, right.All(), user(store), api.Ctl{WP: true, SMAP: true}, good},
		{walk.Found, right.All(), user(fetch), api.Ctl{NXE: true, SMEP: true}, good}, {walk.Found, none, load, api.Ctl{WP: true, NXE: true, SMEP: true, SMAP: true}, good},
	} {
		p := walk.Path{Why: c.why, Right: c.r, Level: 1, Frame: 0x5000}
		at, err := Judge(p, Use{Acc: c.acc, Ctl: c.ctl}, 0x1234)
		if c.code == good && (at != 0x5234 || err != nil) || c.code != good && (at != 0 || !isFault(err, 0x1234, c.code)) {
			t.Errorf("%+v: %#x, %v", c, at, err)
		}
	}
}

// P9.1: each access at all rights under all control bits, at paths that ended in each way, and in ways that there aren't.
func TestJudgeAll(t *testing.T) {
	steps := []walk.Step{{Level: 4, Slot: 0, Word: 0x1007}, {Level: 3, Slot: 0x1000, Word: 0x87}}
	for _, why := range append(slices.Clone(whys), noWhys...) {
		for _, r := range rights() {
			for i, u := range uses(0) {
				asked(t, walk.Path{Why: why, Right: r, Level: 1 + i%3, Frame: 0x40000000}, u, one)
				if i%7 == 0 {
					asked(t, walk.Path{Steps: steps, Why: why, Right: r, Level: 2, Frame: 0x200000}, u, all)
				}
			}
		}
	}
}

// P9.1: the frame and what is behind its beginning, as figures: of each level at the first and the last byte.
func TestJudgeTogether(t *testing.T) {
	for _, c := range []struct {
		level          int
		frame, a, want uint64
	}{
		{1, 0x5000, 0, 0x5000}, {1, 0x5000, 0xFFF, 0x5FFF}, {1, 0x5000, 0x1000, 0x5000}, {1, 0x5000, 0x1234, 0x5234}, {1, 0, 0x7FFFFFFFFFFF, 0xFFF}, {1, 0x3FF000, all, 0x3FFFFF}, {1, 0x1000, 0xFFFF800000000000, 0x1000},
		{2, 0x200000, 0, 0x200000}, {2, 0x200000, 0x1FFFFF, 0x3FFFFF}, {2, 0x200000, 0x200000, 0x200000}, {2, 0x200000, 0x3FFFFF, 0x3FFFFF}, {2, 0, 0x12345678, 0x145678}, {2, 0x200000, all, 0x3FFFFF},
		{3, 0, 0, 0}, {3, 0, 0x3FFFFFFF, 0x3FFFFFFF}, {3, 0, 0x40000000, 0}, {3, 0x40000000, 0x7FFFFFFF, 0x7FFFFFFF}, {3, 0x80000000, 0x123456789, 0xA3456789}, {3, 0, all, 0x3FFFFFFF},
	} {
		p := walk.Path{Why: walk.Found, Right: right.All(), Level: c.level, Frame: c.frame}
		at, err := Judge(p, Use{Acc: api.Access{Kind: api.Load, User: true}}, c.a)
		if at != c.want || err != nil {
			t.Errorf("%+v: %#x, %v", c, at, err)
		}
	}
}

// P9.1: frames that no walk tells: the sum all the same; levels that have no pages: the frame alone; addresses that aren't canonical are not asked about here.
func TestJudgeOddPaths(t *testing.T) {
	frames := []uint64{0, 1, 0xFFF, 0x1000, 0x1FFF, 0x200001, 1 << 51, 1 << 52, 1 << 63, all - 0xFFF, all - 1, all}
	addrs := []uint64{0, 1, 0xFFF, 0x1000, 0x1FFFFF, 0x3FFFFFFF, one, 1 << 47, 0x7FFFFFFFFFFF, 0xFFFF7FFFFFFFFFFF, 0xFFFF800000000000, 1 << 63, all}
	u := Use{Acc: api.Access{Kind: api.Load}}
	for _, level := range append([]int{1, 2, 3}, noLevels...) {
		for _, frame := range frames {
			for _, a := range addrs {
				asked(t, walk.Path{Why: walk.Found, Right: right.All(), Level: level, Frame: frame}, u, a)
				asked(t, walk.Path{Why: walk.Absent, Right: right.All(), Level: level, Frame: frame}, u, a)
				asked(t, walk.Path{Why: walk.Reserved, Right: right.All(), Level: level, Frame: frame}, u, a)
			}
		}
	}
	if at, err := Judge(walk.Path{Right: right.All(), Level: 4, Frame: 0x5000}, u, 0x1234); at != 0x5000 || err != nil {
		t.Errorf("the level 4: %#x, %v", at, err)
	}
	if at, err := Judge(walk.Path{Right: right.All(), Level: 1, Frame: all}, u, 2); at != 1 || err != nil {
		t.Errorf("a frame whose sum wraps round: %#x, %v", at, err)
	}
	if at, err := Judge(walk.Path{Right: right.All(), Level: 1, Frame: 0xFFF}, u, 0xFFF); at != 0x1FFE || err != nil {
		t.Errorf("a frame that has the same bits: %#x, %v", at, err)
	}
	if at, err := Judge(walk.Path{}, u, 0x1234); at != 0 || err != nil {
		t.Errorf("no path, which is Found, for others: %#x, %v", at, err)
	}
}

// P9.1: of a use the root plays no part in a judgement, and of a path its steps don't.
func TestJudgeLeavesOut(t *testing.T) {
	for _, why := range whys {
		p := walk.Path{Why: why, Right: right.Right{U: true}, Level: 1, Frame: 0x5000}
		q := p
		q.Steps = []walk.Step{{Level: 4, Slot: all, Word: all}, {Level: -1, Slot: 1, Word: 0}}
		for _, root := range []uint64{0, 0x1000, 1 << 22, all} {
			for _, u := range uses(root) {
				asked(t, p, u, one)
				asked(t, q, u, one)
			}
		}
	}
}

// P9.2: a translation of each level, as figures: address, path, and the words then.
func TestTranslateFigures(t *testing.T) {
	user := api.Access{Kind: api.Store, User: true}
	m := mem.New(22)
	for _, w := range [][2]uint64{{0x1028, 0x3007}, {0x3030, 0x0027}, {0x0038, 0x2067}, {0x2040, 0x3FF007}} {
		m.Store(w[0], w[1])
	}
	at, p, err := Translate(m, Use{Root: 0x1000, Acc: user}, one)
	want := walk.Path{
		Steps: []walk.Step{{Level: 4, Slot: 0x1028, Word: 0x3007}, {Level: 3, Slot: 0x3030, Word: 0x27}, {Level: 2, Slot: 0x38, Word: 0x2067}, {Level: 1, Slot: 0x2040, Word: 0x3FF007}},
		Why:   walk.Found, Right: right.All(), Level: 1, Frame: 0x3FF000,
	}
	if at != 0x3FF123 || err != nil || !equal(p, want) {
		t.Errorf("%#x, %+v, %v", at, p, err)
	}
	for _, w := range [][2]uint64{{0x1028, 0x3027}, {0x3030, 0x0027}, {0x0038, 0x2067}, {0x2040, 0x3FF067}} {
		if x, _ := m.Peek(w[0]); x != w[1] {
			t.Errorf("behind it the slot %#x has %#x", w[0], x)
		}
	}
	if l := m.Trace(); !slices.Equal(l, []uint64{0x1028, 0x3030, 0x38, 0x2040}) {
		t.Errorf("it reads %#x", l)
	}
	m = leaf(t, 22, 2, 0x200087)
	if at, p, err = Translate(m, Use{Root: 0x1000, Acc: user}, one); at != 0x208123 || err != nil || p.Level != 2 || p.Frame != 0x200000 || len(p.Steps) != 3 {
		t.Errorf("the level 2: %#x, %+v, %v", at, p, err)
	}
	if x, _ := m.Peek(0x38); x != 0x2000E7 {
		t.Errorf("the level 2: the last slot has %#x", x)
	}
	m = leaf(t, 22, 3, 0x87)
	if at, p, err = Translate(m, Use{Root: 0x1000, Acc: user}, one); at != 0xE08123 || err != nil || p.Level != 3 || p.Frame != 0 || len(p.Steps) != 2 {
		t.Errorf("the level 3: %#x, %+v, %v", at, p, err)
	}
	if x, _ := m.Peek(0x3030); x != 0xE7 {
		t.Errorf("the level 3: the last slot has %#x", x)
	}
}

// P9.2: leaves of each level, at their first and last byte, in memories of all sizes, for each access.
func TestTranslateLeaves(t *testing.T) {
	for _, bits := range allBits {
		for level := 1; level <= 3; level++ {
			size := power(12 + 9*(level-1))
			word := uint64(0x87)
			if level == 1 {
				word = power(bits) - 0x1000 + 7
			}
			for _, behind := range []uint64{0, 1, size / 2, size - 2, size - 1} {
				a := one - one%size + behind
				for _, acc := range accesses(kinds) {
					m := leaf(t, bits, level, word)
					if !did(t, m, Use{Root: 0x1000, Acc: acc}, a) {
						t.Fatalf("%d bits, level %d, %+v: a fault", bits, level, acc)
					}
				}
			}
		}
	}
}

// P9.2: addresses that aren't canonical: nothing is read, written or told, whatever else is wrong.
func TestNotCanonical(t *testing.T) {
	m := mem.New(16)
	for a := uint64(0); a < power(16); a += 8 {
		m.Store(a, 7)
	}
	was := m.Copy()
	wrong := []uint64{1 << 47, 1<<47 + 1, 1<<47 + 0xFFF, 1 << 48, 1<<48 - 1, 1<<48 + 1, 1 << 52, 1 << 62, 1<<63 - 1, 1 << 63, 1<<63 + 1, 0xFFFF000000000000, 0xFFFF7FFFFFFFF000, 0xFFFF7FFFFFFFFFFF, 0xFFFE800000000000, 0xFFFEFFFFFFFFFFFF, 0x7FFF800000000000, 0x7FFFFFFFFFFFFFFF}
	for i := 47; i < 64; i++ {
		wrong = append(wrong, power(i), power(i)+one, all-power(i))
	}
	for _, a := range wrong {
		for _, acc := range append(accesses(kinds), accesses([]int{0, 4, -1, math.MaxInt})...) {
			for _, root := range []uint64{0, 0x1000, 1 << 16, all} {
				for _, memory := range []*mem.Mem{m, nil} {
					at, p, err := Translate(memory, Use{Root: root, Acc: acc, Ctl: api.Ctl{WP: true, NXE: true}}, a)
					if at != 0 || !equal(p, walk.Path{}) || !isGP(err) {
						t.Fatalf("Translate(%+v, %#x) = %#x, %+v, %v", acc, a, at, p, err)
					}
				}
			}
		}
	}
	if l := m.Trace(); len(l) != 0 {
		t.Errorf("it reads %#x", l)
	}
	if l := mem.Diff(was, m); len(l) != 0 {
		t.Errorf("it writes %#x", l)
	}
}

// P9.2: the canonical addresses at the ends of both halves are gone to.
func TestCanonicalEnds(t *testing.T) {
	for _, a := range []uint64{0, 1, 0x7FFFFFFFEFFF, 0x7FFFFFFFF000, 0x7FFFFFFFFFFF, 0xFFFF800000000000, 0xFFFF800000000001, 0xFFFF800000001000, all - 0xFFF, all} {
		m := mem.New(14)
		for at := uint64(0); at < power(14); at += 8 {
			m.Store(at, 0x2007)
		}
		for _, acc := range accesses(kinds) {
			if !did(t, m, Use{Root: 0x1000, Acc: acc}, a) {
				t.Errorf("%#x, %+v: a fault", a, acc)
			}
			if at, _, _ := Translate(m, Use{Root: 0x1000, Acc: acc}, a); at != 0x2000+a%4096 {
				t.Errorf("%#x, %+v: %#x", a, acc, at)
			}
		}
	}
}

// P9.2: of a root the bits 12 to 51 alone tell where its table is; one that isn't in the memory is Reserved, and nothing is read.
func TestRoots(t *testing.T) {
	load := api.Access{Kind: api.Load, User: true}
	for _, more := range []uint64{0, 1, 7, 0xFFF, 1 << 52, 1 << 63, 0xFFF0000000000FFF} {
		m := chain(t, 14, plain)
		if at, _, err := Translate(m, Use{Root: 0x1000 + more, Acc: load}, one); at != 0x3123 || err != nil {
			t.Errorf("the root %#x: %#x, %v", 0x1000+more, at, err)
		}
	}
	for _, bits := range allBits {
		m := chain(t, bits, plain)
		for i := bits; i < 52; i++ {
			for _, root := range []uint64{power(i), power(i) + 0x1000, power(52) - power(i)} {
				for _, u := range uses(root)[:64] {
					did(t, m, u, one)
				}
				at, p, err := Translate(m, Use{Root: root, Acc: load}, one)
				if at != 0 || !equal(p, walk.Path{Why: walk.Reserved}) || !isFault(err, one, 13) {
					t.Errorf("%d bits, the root %#x: %#x, %+v, %v", bits, root, at, p, err)
				}
			}
		}
	}
}

// P9.2, P1: a memory that is nil has no root's table.
func TestNilMemory(t *testing.T) {
	for _, u := range uses(0) {
		for _, a := range []uint64{0, one, 0x7FFFFFFFFFFF, 0xFFFF800000000000, all} {
			at, p, err := Translate(nil, u, a)
			if at != 0 || !equal(p, walk.Path{Why: walk.Reserved}) || !isFault(err, a, 9+base(u.Acc, u.Ctl)) {
				t.Fatalf("Translate(nil, %+v, %#x) = %#x, %+v, %v", u, a, at, p, err)
			}
		}
	}
}

// P9.2: an access that is none may not be, whatever was found, and marks nothing.
func TestNoKind(t *testing.T) {
	for _, flags := range [][4]uint64{plain, {3, 3, 3, 3}, {5, 7, 7, 7}, {7, 7, 7, 6}, {7, 0x87, 7, 7}} {
		m := chain(t, 14, flags)
		for _, acc := range accesses(noKinds) {
			for _, c := range controls() {
				for _, a := range []uint64{one, one + 0x1000} {
					if did(t, m, Use{Root: 0x1000, Acc: acc, Ctl: c}, a) {
						t.Fatalf("%+v, %+v, %#x: no fault", acc, c, a)
					}
				}
			}
		}
	}
	m := chain(t, 14, plain)
	at, p, err := Translate(m, Use{Root: 0x1000, Acc: api.Access{User: true}}, one)
	if at != 0 || p.Why != walk.Found || p.Frame != 0x3000 || !isFault(err, one, 5) {
		t.Errorf("no access: %#x, %+v, %v", at, p, err)
	}
}

// P9.2: NXE is the walk's, too: NX is Reserved without it, and no fetching with it, on each level.
func TestNX(t *testing.T) {
	for i := range 4 {
		flags := plain
		flags[i] += power(63)
		for _, u := range uses(0x1000) {
			m := chain(t, 14, flags)
			ok := did(t, m, u, one)
			if !u.Ctl.NXE && ok || u.Acc.Kind == api.Fetch && ok {
				t.Fatalf("NX on the level %d, %+v: no fault", 4-i, u)
			}
		}
		m := chain(t, 14, flags)
		fetch := api.Access{Kind: api.Fetch, User: true}
		if _, p, err := Translate(m, Use{Root: 0x1000, Acc: fetch}, one); !isFault(err, one, 13) || p.Why != walk.Reserved || len(p.Steps) != i+1 {
			t.Errorf("NX on the level %d, no NXE: %+v, %v", 4-i, p, err)
		}
		if _, p, err := Translate(m, Use{Root: 0x1000, Acc: fetch, Ctl: api.Ctl{NXE: true}}, one); !isFault(err, one, 21) || p.Why != walk.Found {
			t.Errorf("NX on the level %d, NXE: %+v, %v", 4-i, p, err)
		}
		fetch.Kind = api.Load
		if at, _, err := Translate(m, Use{Root: 0x1000, Acc: fetch, Ctl: api.Ctl{NXE: true}}, one); at != 0x3123 || err != nil {
			t.Errorf("NX on the level %d, NXE, loaded: %#x, %v", 4-i, at, err)
		}
	}
}

// P9.2: walks that end on each level in each way, for each use.
func TestEndsOnEachLevel(t *testing.T) {
	for i := range 4 {
		for _, x := range []uint64{0, 6, power(63) + 6, all - 1, 0x4007, 1<<51 + 7, 0x2087, 0x87, 1, 3, 5, 0x27, 0x67} {
			m := chain(t, 14, plain)
			if part(x, 12, 51) == 0 && bit(x, 0) && !bit(x, 7) {
				x += []uint64{0x3000, 0, 0x2000, 0x3000}[i]
			}
			m.Store(oneSlots[i], x)
			for _, u := range uses(0x1000) {
				did(t, m.Copy(), u, one)
			}
		}
	}
}

// P9.2, P9.3: bits A and D that are so already, and aren't, on each level, at each use that marks.
func TestMarks(t *testing.T) {
	for _, level := range []int{1, 2, 3} {
		for i := range 4 * 4 * 4 * 4 {
			flags := [4]uint64{}
			for k := range flags {
				flags[k] = 7 + uint64(i/int(power(2*k))%4)*32
			}
			for _, kind := range kinds {
				m := chain(t, 14, flags)
				if level > 1 {
					m.Store(oneSlots[4-level], 0x80+flags[4-level])
				}
				u := Use{Root: 0x1000, Acc: api.Access{Kind: kind, User: true}}
				if !did(t, m, u, one) {
					t.Fatalf("%#x, level %d: a fault", flags, level)
				}
				for k := range 5 - level {
					x, _ := m.Peek(oneSlots[k])
					last := k == 4-level
					if !bit(x, 5) || bit(x, 6) != (bit(flags[k], 6) || last && kind == api.Store) {
						t.Fatalf("%#x, level %d, kind %d: the slot %#x has %#x", flags, level, kind, oneSlots[k], x)
					}
				}
			}
		}
	}
}

// P9.3: a fault behind which no word is another one, though its walk was Found, or had many steps.
func TestFaultsChangeNothing(t *testing.T) {
	store := api.Access{Kind: api.Store, User: true}
	for _, c := range []struct {
		flags [4]uint64
		acc   api.Access
		ctl   api.Ctl
		code  int
	}{
		{[4]uint64{7, 7, 7, 5}, store, api.Ctl{}, 7}, {[4]uint64{5, 7, 7, 7}, store, api.Ctl{}, 7}, {[4]uint64{7, 3, 7, 7}, store, api.Ctl{}, 7},
		{[4]uint64{7, 7, 7, 6}, store, api.Ctl{}, 6}, {[4]uint64{7, 7, 6, 7}, store, api.Ctl{}, 6}, {[4]uint64{7, 7, 7, 0x4007}, store, api.Ctl{}, 15},
		{[4]uint64{7, 7, 7, 5}, api.Access{Kind: api.Store}, api.Ctl{WP: true}, 3}, {plain, api.Access{Kind: api.Store}, api.Ctl{SMAP: true}, 3},
		{plain, api.Access{Kind: api.Load}, api.Ctl{SMAP: true}, 1}, {plain, api.Access{Kind: api.Fetch}, api.Ctl{SMEP: true}, 17}, {plain, api.Access{}, api.Ctl{}, 1},
		{[4]uint64{7, 7, 7, 3}, api.Access{Kind: api.Load, User: true}, api.Ctl{}, 5},
	} {
		for _, used := range []uint64{0, 0x20, 0x40, 0x60} {
			flags := c.flags
			for i := range flags {
				flags[i] += used
			}
			m := chain(t, 14, flags)
			was := m.Copy()
			at, p, err := Translate(m, Use{Root: 0x1000, Acc: c.acc, Ctl: c.ctl}, one)
			if at != 0 || !isFault(err, one, c.code) || !equal(p, gone(was, 0x1000, one, c.ctl.NXE)) {
				t.Errorf("%+v, used %#x: %#x, %+v, %v", c, used, at, p, err)
			}
			if l := mem.Diff(was, m); len(l) != 0 {
				t.Errorf("%+v, used %#x: it writes %#x", c, used, l)
			}
		}
	}
}

// P9.3: what went goes again as it went, whatever went between, and writes nothing more.
func TestAgain(t *testing.T) {
	for _, u := range uses(0x1000) {
		for _, flags := range [][4]uint64{plain, {7, 7, 7, 5}, {7, 7, 3, 7}, {3, 7, 7, 5}, {7, 7, 7, 6}} {
			m := chain(t, 14, flags)
			at, p, err := Translate(m, u, one)
			was := m.Copy()
			again, q, err2 := Translate(m, u, one)
			if again != at || !walk.Same(p, q) || fault.Kind(err) != fault.Kind(err2) {
				t.Fatalf("%+v: %#x, %v, and again %#x, %v", u, at, err, again, err2)
			}
			if l := mem.Diff(was, m); len(l) != 0 {
				t.Fatalf("%+v: again it writes %#x", u, l)
			}
			for _, kind := range kinds {
				Translate(m, Use{Root: 0x1000, Acc: api.Access{Kind: kind, User: true}}, one)
			}
			if then, r, err3 := Translate(m, u, one); then != at || !walk.Same(p, r) || fault.Kind(err3) != fault.Kind(err) {
				t.Fatalf("%+v: %#x, %v, and later %#x, %v", u, at, err, then, err3)
			}
		}
	}
}

// P9.3: tables that lead to themselves, whose slots are several steps of one path.
func TestLoops(t *testing.T) {
	m := mem.New(14)
	m.Store(0x2000, 0x2007)
	u := Use{Root: 0x2000, Acc: api.Access{Kind: api.Store, User: true}}
	for range 2 {
		if !did(t, m, u, 0x234) {
			t.Fatal("a fault")
		}
	}
	if x, _ := m.Peek(0x2000); x != 0x2067 {
		t.Errorf("the one slot has %#x", x)
	}
	m = mem.New(14)
	m.Store(0x2FF8, 0x2007)
	m.Store(0x2018, 0x1007)
	const top = 0xFFFFFFFFFFE03000 // the places 511, 511, 511, 3
	u.Root = 0x2000
	if at, _, err := Translate(m, u, top); at != 0x1000 || err != nil {
		t.Errorf("%#x, %v", at, err)
	}
	for _, w := range [][2]uint64{{0x2FF8, 0x2027}, {0x2018, 0x1067}} {
		if x, _ := m.Peek(w[0]); x != w[1] {
			t.Errorf("the slot %#x has %#x", w[0], x)
		}
	}
}

// P9.1 to P9.3: memories full of tables and pages of all kinds, through which many accesses go, one behind the other.
func TestMixed(t *testing.T) {
	row := numbers(9)
	flags := []uint64{7, 7, 7, 7, 7, 3, 5, 1, 0x27, 0x67, 0x47, 0x87, 0x87, 0xE7, 6, 0, power(63) + 7, power(63) + 5, power(63) + 0x87}
	found, faults := 0, map[int]int{}
	for round := range 60 {
		bits := allBits[round%len(allBits)]
		m := mem.New(bits)
		for range 1500 {
			x := flags[row.next()%uint64(len(flags))]
			if !bit(x, 7) || row.next()%8 == 0 {
				x += row.next() % 4 * 0x1000
			}
			if row.next()%64 == 0 {
				x += power(bits + int(row.next()%uint64(52-bits)))
			}
			m.Store(row.next()%power(14)/8*8, x)
		}
		for range 1200 {
			a := row.next()
			if a%2 == 0 {
				a = part(a, 0, 46)
			} else {
				a = part(a, 0, 46) + (all - power(47) + 1)
			}
			u := Use{Root: row.next() % 4 * 0x1000, Acc: api.Access{Kind: kinds[row.next()%3], User: row.next()%2 == 0, AC: row.next()%2 == 0}, Ctl: controls()[row.next()%16]}
			_, code := judged(gone(m, u.Root, a, u.Ctl.NXE), u, a)
			if did(t, m, u, a) {
				found++
			} else {
				faults[code]++
			}
		}
	}
	for _, code := range []int{0, 1, 2, 3, 4, 5, 6, 7, 9, 11, 13, 15, 16, 17, 20, 21, 25, 29} {
		if faults[code] == 0 {
			t.Errorf("no fault had the code %d: %v", code, faults)
		}
	}
	if found == 0 {
		t.Error("nothing was found")
	}
}

// R3, R4: what is told is the caller's own, and one memory's translations are apart from another one's.
func TestApart(t *testing.T) {
	m, n := chain(t, 14, plain), chain(t, 14, plain)
	u := Use{Root: 0x1000, Acc: api.Access{Kind: api.Load, User: true}}
	_, p, _ := Translate(m, u, one)
	_, q, _ := Translate(n, u, one)
	want := gone(chain(t, 14, plain), 0x1000, one, false)
	clear(p.Steps)
	if !equal(q, want) {
		t.Errorf("another one's path is %+v", q)
	}
	if at, r, err := Translate(m, u, one); at != 0x3123 || err != nil || !walk.Same(r, want) {
		t.Errorf("later: %#x, %+v, %v", at, r, err)
	}
	if at, err := Judge(q, u, one); at != 0x3123 || err != nil {
		t.Errorf("judged: %#x, %v", at, err)
	}
}
