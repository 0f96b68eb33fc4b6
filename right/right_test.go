package right

import (
	"math"
	"testing"

	"dormer/api"
)

const all = math.MaxUint64

// kinds are those of accesses; noKinds are numbers that are none, some of which would be one if they were cut to fewer bits.
var (
	kinds   = []int{1, 2, 3}
	noKinds = []int{0, 4, 5, 6, 7, 8, 16, 63, 64, -1, -2, -3, -4, -64, 256, 256 + 1, 256 + 2, 256 + 3, 1<<16 + 1, 1<<16 + 2, 1<<16 + 3, 1<<32 + 1, 1<<32 + 2, 1<<32 + 3,
		-1<<32 + 1, -1<<32 + 2, -1<<32 + 3, 1 << 62, 1<<62 + 2, -1 << 62, -1<<62 + 3, math.MaxInt, math.MaxInt - 1, math.MaxInt - 2, math.MinInt, math.MinInt + 1, math.MinInt + 2, math.MinInt + 3}
)

// power is two to the i, and bit whether the bit i of x is 1, by doubling and division alone.
func power(i int) uint64 {
	p := uint64(1)
	for range i {
		p += p
	}
	return p
}

func bit(x uint64, i int) bool { return x/power(i)%2 == 1 }

// rights are all eight; controls all sixteen; accesses of these kinds all four of each.
func rights() []Right {
	var list []Right
	for i := range 8 {
		list = append(list, Right{W: i/4%2 == 1, U: i/2%2 == 1, X: i%2 == 1})
	}
	return list
}

func controls() []api.Ctl {
	var list []api.Ctl
	for i := range 16 {
		list = append(list, api.Ctl{WP: i/8%2 == 1, NXE: i/4%2 == 1, SMEP: i/2%2 == 1, SMAP: i%2 == 1})
	}
	return list
}

func accesses(kinds []int) []api.Access {
	var list []api.Access
	for _, k := range kinds {
		for i := range 4 {
			list = append(list, api.Access{Kind: k, User: i/2%2 == 1, AC: i%2 == 1})
		}
	}
	return list
}

// numbers is a row of numbers that look unlike, the same at each run.
type numbers uint64

func (n *numbers) next() uint64 {
	*n = *n*6364136223846793005 + 1442695040888963407
	return uint64(*n) ^ uint64(*n)>>29
}

// words are each bit alone and missing, the three that are asked in all ways with and without the rest, and such that look unlike.
func words() []uint64 {
	list := []uint64{0, all, 0x5067, 0x8000000000005067, 0x0123456789ABCDEF, 0x9E3779B97F4A7C15}
	for i := range 64 {
		list = append(list, power(i), all-power(i))
	}
	asked := power(1) + power(2) + power(63)
	for i := range 8 {
		x := uint64(i/4%2)*power(1) + uint64(i/2%2)*power(2) + uint64(i%2)*power(63)
		list = append(list, x, x+(all-asked))
	}
	row := numbers(6)
	for range 40 {
		list = append(list, row.next())
	}
	return list
}

// behind is what the document leaves of a right behind a word, by the numbers of its bits.
func behind(r Right, x uint64) Right {
	if !bit(x, 1) {
		r.W = false
	}
	if !bit(x, 2) {
		r.U = false
	}
	if bit(x, 63) {
		r.X = false
	}
	return r
}

// keptFrom are the document's reasons for which an access may not be, one by one.
func keptFrom(r Right, a api.Access, c api.Ctl) bool {
	load, store, fetch := a.Kind == 1, a.Kind == 2, a.Kind == 3
	for _, reason := range []bool{
		!load && !store && !fetch,
		a.User && !r.U,
		a.User && store && !r.W,
		a.User && fetch && !r.X,
		!a.User && r.U && load && c.SMAP && !a.AC,
		!a.User && r.U && store && c.SMAP && !a.AC,
		!a.User && r.U && fetch && c.SMEP,
		!a.User && store && c.WP && !r.W,
		!a.User && fetch && !r.X,
	} {
		if reason {
			return true
		}
	}
	return false
}

// code is the sum of the document's parts.
func code(a api.Access, c api.Ctl, present, reserved bool) int {
	sum := 0
	for n, is := range map[int]bool{1: present, 2: a.Kind == 2, 4: a.User, 8: reserved, 16: a.Kind == 3 && (c.SMEP || c.NXE)} {
		if is {
			sum += n
		}
	}
	return sum
}

// P6.2: the document's examples.
func TestExamples(t *testing.T) {
	page := Right{U: true, X: true}
	if May(page, api.Access{Kind: api.Store, User: true}, api.Ctl{}) {
		t.Error("a user stores into a page without W")
	}
	if !May(page, api.Access{Kind: api.Store}, api.Ctl{}) {
		t.Error("another one may not, without WP")
	}
}

// P6.1: all three, of which nothing is left out.
func TestAll(t *testing.T) {
	if r := All(); r != (Right{true, true, true}) {
		t.Errorf("All() = %v", r)
	}
	r := All()
	r.W, r.U, r.X = false, false, false
	if All() != (Right{W: true, U: true, X: true}) {
		t.Error("All() is another one later")
	}
}

// P6.1: what is left behind words with the bits 1, 2 and 63, and with those beside them, as figures.
func TestAnd(t *testing.T) {
	for _, c := range []struct {
		r    Right
		x    uint64
		want Right
	}{
		{All(), 0, Right{X: true}},
		{All(), 0x1, Right{X: true}},
		{All(), 0x2, Right{W: true, X: true}},
		{All(), 0x4, Right{U: true, X: true}},
		{All(), 0x8, Right{X: true}},
		{All(), 0x6, Right{W: true, U: true, X: true}},
		{All(), 0x4000000000000000, Right{X: true}},
		{All(), 0x8000000000000000, Right{}},
		{All(), 0x8000000000000002, Right{W: true}},
		{All(), 0x8000000000000004, Right{U: true}},
		{All(), 0x8000000000000006, Right{W: true, U: true}},
		{All(), 0x7FFFFFFFFFFFFFFF, All()},
		{All(), all, Right{W: true, U: true}},
		{All(), 0x7FFFFFFFFFFFFFF9, Right{X: true}},
		{Right{}, 0x6, Right{}},
		{Right{W: true}, 0x6, Right{W: true}},
		{Right{U: true}, 0x6, Right{U: true}},
		{Right{X: true}, 0x6, Right{X: true}},
		{Right{W: true}, 0x4, Right{}},
		{Right{U: true}, 0x2, Right{}},
		{Right{X: true}, 0x8000000000000006, Right{}},
	} {
		if r := And(c.r, c.x); r != c.want {
			t.Errorf("And(%v, %#x) = %v, not %v", c.r, c.x, r, c.want)
		}
	}
}

// P6.1: all eight rights, behind each bit alone, missing, and all sorts of words; api's bits are these.
func TestAndOfAll(t *testing.T) {
	if uint64(api.BitW) != power(1) || uint64(api.BitU) != power(2) || uint64(api.BitNX) != power(63) {
		t.Error("bits of an entry")
	}
	for _, r := range rights() {
		for _, x := range words() {
			if got, want := And(r, x), behind(r, x); got != want {
				t.Errorf("And(%v, %#x) = %v, not %v", r, x, got, want)
			}
		}
	}
}

// P6.1: which rights are no more than which, as figures, and of all 64 pairs.
func TestLeast(t *testing.T) {
	for _, c := range []struct {
		r, s Right
		want bool
	}{
		{Right{}, Right{}, true},
		{Right{}, All(), true},
		{All(), All(), true},
		{All(), Right{}, false},
		{Right{W: true}, Right{U: true, X: true}, false},
		{Right{U: true}, Right{W: true, X: true}, false},
		{Right{X: true}, Right{W: true, U: true}, false},
		{Right{W: true}, Right{W: true}, true},
		{Right{U: true}, Right{U: true, X: true}, true},
		{Right{X: true}, Right{W: true, X: true}, true},
		{Right{W: true, X: true}, Right{X: true}, false},
	} {
		if is := Least(c.r, c.s); is != c.want {
			t.Errorf("Least(%v, %v) = %v", c.r, c.s, is)
		}
	}
	for _, r := range rights() {
		for _, s := range rights() {
			both := Right{r.W && s.W, r.U && s.U, r.X && s.X}
			if is := Least(r, s); is != (both == r) {
				t.Errorf("Least(%v, %v) = %v", r, s, is)
			}
		}
	}
}

// P6.2: users and others, each kind of access, as figures.
func TestMay(t *testing.T) {
	load, store, fetch := api.Access{Kind: api.Load}, api.Access{Kind: api.Store}, api.Access{Kind: api.Fetch}
	user := func(a api.Access) api.Access { a.User = true; return a }
	ac := func(a api.Access) api.Access { a.AC = true; return a }
	every := api.Ctl{WP: true, NXE: true, SMEP: true, SMAP: true}
	for _, c := range []struct {
		r    Right
		a    api.Access
		c    api.Ctl
		want bool
	}{
		{Right{U: true}, user(load), api.Ctl{}, true},
		{Right{W: true, X: true}, user(load), api.Ctl{}, false},
		{Right{U: true}, user(load), every, true},
		{Right{W: true, X: true}, ac(user(load)), every, false},
		{Right{U: true}, user(store), api.Ctl{}, false},
		{Right{W: true}, user(store), api.Ctl{}, false},
		{Right{W: true, U: true}, user(store), every, true},
		{Right{U: true}, user(fetch), api.Ctl{}, false},
		{Right{X: true}, user(fetch), api.Ctl{}, false},
		{Right{U: true, X: true}, user(fetch), every, true},
		{Right{}, load, every, true},
		{Right{U: true}, load, api.Ctl{WP: true, NXE: true, SMEP: true}, true},
		{All(), load, api.Ctl{SMAP: true}, false},
		{Right{U: true}, ac(load), every, true},
		{Right{}, store, api.Ctl{NXE: true, SMEP: true, SMAP: true}, true},
		{Right{}, store, api.Ctl{WP: true}, false},
		{Right{W: true}, store, every, true},
		{All(), store, api.Ctl{SMAP: true}, false},
		{All(), ac(store), every, true},
		{Right{U: true}, ac(store), api.Ctl{SMAP: true}, true},
		{Right{U: true, X: true}, ac(store), api.Ctl{WP: true}, false},
		{Right{X: true}, fetch, every, true},
		{Right{W: true}, fetch, api.Ctl{}, false},
		{All(), fetch, api.Ctl{WP: true, NXE: true, SMAP: true}, true},
		{All(), fetch, api.Ctl{SMEP: true}, false},
		{All(), ac(fetch), api.Ctl{SMEP: true}, false},
	} {
		if may := May(c.r, c.a, c.c); may != c.want {
			t.Errorf("May(%v, %v, %v) = %v", c.r, c.a, c.c, may)
		}
	}
}

// P6.2: all rights, accesses and ways of the control bits, by the document's reasons.
func TestMayOfAll(t *testing.T) {
	if api.Load != 1 || api.Store != 2 || api.Fetch != 3 {
		t.Error("kinds of accesses")
	}
	for _, r := range rights() {
		for _, a := range accesses(kinds) {
			for _, c := range controls() {
				if may := May(r, a, c); may == keptFrom(r, a, c) {
					t.Errorf("May(%v, %v, %v) = %v", r, a, c, may)
				}
			}
		}
	}
}

// P6.2: a kind that is none may nothing, whoever asks.
func TestMayOfNoKind(t *testing.T) {
	for _, r := range rights() {
		for _, a := range accesses(noKinds) {
			for _, c := range controls() {
				if May(r, a, c) {
					t.Errorf("May(%v, %v, %v)", r, a, c)
				}
			}
		}
	}
}

// P6.3: the parts of a code, alone and together, as figures.
func TestCode(t *testing.T) {
	load, store, fetch := api.Access{Kind: api.Load}, api.Access{Kind: api.Store}, api.Access{Kind: api.Fetch}
	user := func(a api.Access) api.Access { a.User, a.AC = true, true; return a }
	every := api.Ctl{WP: true, NXE: true, SMEP: true, SMAP: true}
	for _, c := range []struct {
		a                 api.Access
		c                 api.Ctl
		present, reserved bool
		want              int
	}{
		{load, api.Ctl{}, false, false, 0},
		{load, api.Ctl{}, true, false, 1},
		{store, api.Ctl{}, false, false, 2},
		{user(load), api.Ctl{}, false, false, 4},
		{load, api.Ctl{}, false, true, 8},
		{fetch, api.Ctl{}, false, false, 0},
		{fetch, api.Ctl{WP: true, SMAP: true}, false, false, 0},
		{fetch, api.Ctl{SMEP: true}, false, false, 16},
		{fetch, api.Ctl{NXE: true}, false, false, 16},
		{fetch, api.Ctl{NXE: true, SMEP: true}, false, false, 16},
		{load, every, false, false, 0},
		{store, every, false, false, 2},
		{user(store), api.Ctl{}, false, false, 6},
		{user(store), api.Ctl{}, true, false, 7},
		{user(store), every, true, true, 15},
		{user(fetch), api.Ctl{NXE: true}, true, true, 29},
		{user(fetch), api.Ctl{SMEP: true}, true, false, 21},
		{user(fetch), api.Ctl{}, true, true, 13},
	} {
		if n := Code(c.a, c.c, c.present, c.reserved); n != c.want {
			t.Errorf("Code(%v, %v, %v, %v) = %d, not %d", c.a, c.c, c.present, c.reserved, n, c.want)
		}
	}
}

// P6.3: all codes; a kind that is none is neither a store nor a fetch.
func TestCodeOfAll(t *testing.T) {
	for _, a := range append(accesses(kinds), accesses(noKinds)...) {
		for _, c := range controls() {
			for i := range 4 {
				present, reserved := i/2 == 1, i%2 == 1
				if n, want := Code(a, c, present, reserved), code(a, c, present, reserved); n != want {
					t.Errorf("Code(%v, %v, %v, %v) = %d, not %d", a, c, present, reserved, n, want)
				}
			}
		}
	}
}

// P6.4: who may with less may with more; of a page that becomes a user's that is said of users alone.
func TestMore(t *testing.T) {
	for _, r := range rights() {
		for _, s := range rights() {
			for _, a := range append(accesses(kinds), accesses(noKinds)...) {
				for _, c := range controls() {
					said := Least(r, s) && (a.User || r.U == s.U)
					if said && May(r, a, c) && !May(s, a, c) {
						t.Errorf("with %v, but not with %v: %v, %v", r, s, a, c)
					}
				}
			}
		}
	}
}

// P6.4: others are kept from a page by its being a user's, and by nothing else that is more.
func TestUsersPages(t *testing.T) {
	kept := 0
	for _, r := range rights() {
		s := r
		s.U = true
		for _, a := range accesses(kinds) {
			for _, c := range controls() {
				if !May(r, a, c) || May(s, a, c) {
					continue
				}
				kept++
				if a.User || !(c.SMEP && a.Kind == api.Fetch || c.SMAP && a.Kind != api.Fetch && !a.AC) {
					t.Errorf("%v, %v are kept from %v, not from %v", a, c, s, r)
				}
			}
		}
	}
	if kept == 0 {
		t.Error("nobody is kept from users' pages")
	}
}

// P6.4: entries are laid one over the other in any order, and twice; what is left is never more.
func TestOrder(t *testing.T) {
	list := words()
	for _, r := range rights() {
		for _, x := range list {
			one := And(r, x)
			if And(one, x) != one {
				t.Errorf("%#x twice over %v is another one", x, r)
			}
			if !Least(one, r) || !Least(one, All()) {
				t.Errorf("And(%v, %#x) = %v is more", r, x, one)
			}
			for _, y := range list {
				if And(one, y) != And(And(r, y), x) {
					t.Errorf("%#x and %#x over %v hang on their order", x, y, r)
				}
			}
		}
	}
	for i, x := range list {
		y, z := list[(i*7+3)%len(list)], list[(i*13+5)%len(list)]
		want := And(And(And(All(), x), y), z)
		for _, o := range [][3]uint64{{x, z, y}, {y, x, z}, {y, z, x}, {z, x, y}, {z, y, x}} {
			if got := And(And(And(All(), o[0]), o[1]), o[2]); got != want {
				t.Errorf("%#x: %v, not %v", o, got, want)
			}
		}
	}
}
