package cache

import (
	"math"
	"math/big"
	"slices"
	"testing"

	"dormer/right"
)

// The calls and types, as the document lists them.
var (
	_ func(room int) *Cache                   = New
	_ func(c *Cache, k Key) (Line, bool)      = (*Cache).Get
	_ func(c *Cache, k Key, l Line, pick int) = (*Cache).Put
	_ func(c *Cache, k Key)                   = (*Cache).Drop
	_ func(c *Cache, pcid int)                = (*Cache).DropOf
	_ func(c *Cache)                          = (*Cache).Clear
	_ func(c *Cache, pick int)                = (*Cache).Evict
	_ func(c *Cache) []Key                    = (*Cache).Keys
	_ func(c *Cache) int                      = (*Cache).Room
	_                                         = Key{Pcid: int(0), Level: int(0), Tag: uint64(0)}
	_                                         = Line{Frame: uint64(0), Right: right.Right{}, Dirty: false, Mask: uint8(0)}
)

// rooms are asked for, and what room there is then, as figures.
var rooms = []struct{ asked, room int }{
	{0, 0}, {1, 1}, {2, 2}, {3, 3}, {7, 7}, {8, 8}, {31, 31}, {32, 32}, {62, 62}, {63, 63}, {64, 64},
	{65, 64}, {66, 64}, {100, 64}, {128, 64}, {255, 64}, {256, 64}, {256 + 3, 64}, {4096, 64}, {1 << 16, 64}, {1<<16 + 1, 64}, {1 << 32, 64}, {1<<32 + 5, 64}, {math.MaxInt - 1, 64}, {math.MaxInt, 64},
	{-1, 0}, {-2, 0}, {-63, 0}, {-64, 0}, {-65, 0}, {-256 + 3, 0}, {-1 << 32, 0}, {-1<<32 + 5, 0}, {math.MinInt + 1, 0}, {math.MinInt + 64, 0}, {math.MinInt, 0},
}

// picks are around 0, around the greatest room, and up to the greatest and least int.
var picks = []int{0, 1, 2, 3, 4, 5, 6, 7, 8, 9, 10, 31, 32, 33, 62, 63, 64, 65, 127, 128, 129, 255, 256, 257, 1000, 4095, 1<<31 - 1, 1 << 31, 1 << 32, 1<<32 + 1, 1 << 62, math.MaxInt - 1, math.MaxInt,
	-1, -2, -3, -4, -5, -6, -7, -8, -9, -10, -31, -32, -33, -62, -63, -64, -65, -66, -127, -128, -129, -256, -257, -1000, -1 << 31, -1<<31 - 1, -1 << 32, -1<<32 - 1, -1 << 62, math.MinInt + 1, math.MinInt}

// numbers is a row of numbers that look unlike, the same at each run.
type numbers uint64

func (n *numbers) next() uint64 {
	*n = *n*6364136223846793005 + 1442695040888963407
	return uint64(*n) ^ uint64(*n)>>29
}

func (n *numbers) below(i int) int { return int(n.next() >> 1 % uint64(i)) }

// pick is any number: a small one, one below 0, or one of all bits.
func (n *numbers) pick() int {
	switch n.below(3) {
	case 0:
		return n.below(200) - 100
	case 1:
		return picks[n.below(len(picks))]
	}
	return int(n.next())
}

// line is one with anything in it, or nothing.
func (n *numbers) line() Line {
	x := n.next()
	if x%8 == 0 {
		return Line{}
	}
	return Line{Frame: n.next(), Right: right.Right{W: x/8%2 == 1, U: x/16%2 == 1, X: x/32%2 == 1}, Dirty: x/64%2 == 1, Mask: uint8(x / 128 % 256)}
}

// place is the one that a number picks of n, by numbers without an end.
func place(pick, n int) int {
	return int(new(big.Int).Mod(big.NewInt(int64(pick)), big.NewInt(int64(n))).Int64())
}

// row is a cache as the document has it: lines one behind the other.
type row struct {
	room int
	list []pair
}

type pair struct {
	k Key
	l Line
}

func (r *row) put(k Key, l Line, pick int) {
	for i := range r.list {
		if r.list[i].k == k {
			r.list[i].l = l
			return
		}
	}
	if r.room == 0 {
		return
	}
	if len(r.list) == r.room {
		r.evict(pick)
	}
	r.list = append(r.list, pair{k, l})
}

// drop leaves those that aren't so, in a list of their own.
func (r *row) drop(is func(i int, k Key) bool) {
	var left []pair
	for i, p := range r.list {
		if !is(i, p.k) {
			left = append(left, p)
		}
	}
	r.list = left
}

func (r *row) evict(pick int) {
	if len(r.list) > 0 {
		gone := place(pick, len(r.list))
		r.drop(func(i int, k Key) bool { return i == gone })
	}
}

func (r *row) keys() []Key {
	var list []Key
	for _, p := range r.list {
		list = append(list, p.k)
	}
	return list
}

// key is one of the PCID 0 and the level 1; lineOf is a line that only that number has.
func key(n int) Key { return Key{Level: 1, Tag: uint64(n)} }

func lineOf(n int) Line { return Line{Frame: uint64(n)*4096 + 7, Mask: uint8(n)} }

// keysOf are these keys, in turn.
func keysOf(ns ...int) []Key {
	var list []Key
	for _, n := range ns {
		list = append(list, key(n))
	}
	return list
}

// upTo are the numbers of 0 to n - 1.
func upTo(n int) []int {
	var list []int
	for i := range n {
		list = append(list, i)
	}
	return list
}

// without is a list without its i-th.
func without(list []int, i int) []int {
	return slices.Concat(list[:i], list[i+1:])
}

// made is a cache of this room with these lines, put in turn.
func made(room int, ns ...int) *Cache {
	c := New(room)
	for _, n := range ns {
		c.Put(key(n), lineOf(n), 0)
	}
	return c
}

// has holds a cache against the lines that it should have, of the numbers below 200: their order, each as it was put, and no other one.
func has(t *testing.T, what string, c *Cache, ns ...int) {
	t.Helper()
	if l := c.Keys(); !slices.Equal(l, keysOf(ns...)) {
		t.Fatalf("%s: Keys() = %v, not %v", what, l, keysOf(ns...))
	}
	for n := range 200 {
		want := Line{}
		if slices.Contains(ns, n) {
			want = lineOf(n)
		}
		if l, is := c.Get(key(n)); l != want || is != slices.Contains(ns, n) {
			t.Fatalf("%s: Get(%v) = %v, %v", what, key(n), l, is)
		}
	}
}

// P10.1, P10.2: the document's example.
func TestExample(t *testing.T) {
	c := New(2)
	c.Put(key(1), lineOf(1), 0)
	has(t, "one", c, 1)
	c.Put(key(2), lineOf(2), 0)
	has(t, "two", c, 1, 2)
	c.Put(key(3), lineOf(3), 0)
	has(t, "the first one picked", c, 2, 3)
}

// P10.1, P10.2: a cache has no lines at first, and room for 0 to 64.
func TestNew(t *testing.T) {
	for _, r := range rooms {
		c := New(r.asked)
		if c == nil {
			t.Fatalf("New(%d) = nil", r.asked)
		}
		if n := c.Room(); n != r.room {
			t.Errorf("New(%d).Room() = %d, not %d", r.asked, n, r.room)
		}
		if l := c.Keys(); len(l) != 0 {
			t.Errorf("New(%d).Keys() = %v", r.asked, l)
		}
		if l, is := c.Get(Key{}); is || l != (Line{}) {
			t.Errorf("New(%d).Get(Key{}) = %v, %v", r.asked, l, is)
		}
	}
}

// P10.1, P10.3: as many lines as there is room for are kept, in turn, and no more; Room stays, whatever is put and gone.
func TestRoom(t *testing.T) {
	for _, r := range rooms {
		c := New(r.asked)
		for n := range 100 {
			c.Put(key(n), lineOf(n), 0) // the oldest one goes
			from := max(n+1-r.room, 0)
			has(t, "put", c, upTo(n + 1)[from:]...)
			if c.Room() != r.room {
				t.Fatalf("New(%d).Room() = %d with %d lines", r.asked, c.Room(), n+1)
			}
		}
		c.Clear()
		if c.Room() != r.room {
			t.Fatalf("New(%d).Room() = %d, cleared", r.asked, c.Room())
		}
	}
}

// P10.1: without any room nothing is put, and nothing else happens.
func TestNoRoom(t *testing.T) {
	for _, room := range []int{0, -1, -64, math.MinInt} {
		for _, pick := range picks {
			c := New(room)
			c.Put(key(1), lineOf(1), pick)
			c.Put(key(1), lineOf(2), pick)
			c.Put(Key{}, Line{}, pick)
			c.Evict(pick)
			c.Drop(key(1))
			c.DropOf(0)
			c.Clear()
			has(t, "no room", c)
			if l, is := c.Get(Key{}); is || l != (Line{}) || c.Room() != 0 {
				t.Fatalf("New(%d): Get(Key{}) = %v, %v; room %d", room, l, is, c.Room())
			}
		}
	}
}

// P10.1: in a room of one whoever comes is in the place of who was there, whatever is picked.
func TestRoomForOne(t *testing.T) {
	c := New(1)
	for i, pick := range picks {
		n := i % 7
		c.Put(key(n), lineOf(n), pick)
		has(t, "one", c, n)
		c.Put(key(n), lineOf(n), pick)
		has(t, "again", c, n)
	}
	c.Evict(-5)
	has(t, "evicted", c)
}

// P10.1: a line of the same key is another one, in its place, with room, without, and in a full cache, whatever is picked; the others stay.
func TestPutInPlace(t *testing.T) {
	for _, c := range []struct{ room, lines int }{{1, 1}, {2, 1}, {2, 2}, {5, 3}, {5, 4}, {5, 5}, {64, 10}, {64, 63}, {64, 64}, {1000, 64}} {
		for at := range c.lines {
			for _, pick := range []int{0, 1, at, c.lines - 1, c.lines, -1, -at, math.MaxInt, math.MinInt} {
				cache := made(c.room, upTo(c.lines)...)
				other := Line{Frame: 1, Right: right.Right{W: true}, Dirty: true, Mask: 128}
				cache.Put(key(at), other, pick)
				if l, is := cache.Get(key(at)); !is || l != other {
					t.Fatalf("%+v: Get(%v) = %v, %v", c, key(at), l, is)
				}
				if l := cache.Keys(); !slices.Equal(l, keysOf(upTo(c.lines)...)) {
					t.Fatalf("%+v: the place %d, pick %d: %v", c, at, pick, l)
				}
				cache.Put(key(at), Line{}, pick) // a line of zeros has its place, too
				cache.Put(key(at), lineOf(at), pick)
				has(t, "as it was", cache, upTo(c.lines)...)
			}
		}
	}
}

// P10.1: with room nothing is picked.
func TestPutWithRoom(t *testing.T) {
	for _, pick := range picks {
		c := New(10)
		for n := range 10 {
			c.Put(key(n), lineOf(n), pick)
			has(t, "room left", c, upTo(n+1)...)
		}
	}
}

// P10.1: which one goes in a full cache, as figures.
func TestPutPicked(t *testing.T) {
	for _, c := range []struct {
		pick int
		left []int
	}{
		{0, []int{1, 2, 3, 4}}, {1, []int{0, 2, 3, 4}}, {2, []int{0, 1, 3, 4}}, {3, []int{0, 1, 2, 4}},
		{4, []int{1, 2, 3, 4}}, {5, []int{0, 2, 3, 4}}, {7, []int{0, 1, 2, 4}}, {8, []int{1, 2, 3, 4}}, {1002, []int{0, 1, 3, 4}},
		{-1, []int{0, 1, 2, 4}}, {-2, []int{0, 1, 3, 4}}, {-3, []int{0, 2, 3, 4}}, {-4, []int{1, 2, 3, 4}}, {-5, []int{0, 1, 2, 4}}, {-8, []int{1, 2, 3, 4}}, {-1001, []int{0, 1, 2, 4}},
		{math.MaxInt, []int{0, 1, 2, 4}}, {math.MaxInt - 1, []int{0, 1, 3, 4}}, {math.MinInt, []int{1, 2, 3, 4}}, {math.MinInt + 1, []int{0, 2, 3, 4}},
	} {
		cache := made(4, 0, 1, 2, 3)
		cache.Put(key(4), lineOf(4), c.pick)
		has(t, "picked", cache, c.left...)
	}
	for _, c := range []struct {
		pick int
		left []int
	}{{-1, []int{0, 1, 3}}, {-2, []int{0, 2, 3}}, {-3, []int{1, 2, 3}}, {-4, []int{0, 1, 3}}, {3, []int{1, 2, 3}}, {4, []int{0, 2, 3}}, {math.MaxInt, []int{0, 2, 3}}, {math.MinInt, []int{0, 2, 3}}} {
		cache := made(3, 0, 1, 2)
		cache.Put(key(3), lineOf(3), c.pick)
		has(t, "picked", cache, c.left...)
	}
}

// P10.1, P10.2: which one goes, of all numbers of lines, when it is put and when it is evicted; a line that is put stands behind all.
func TestPicked(t *testing.T) {
	for n := 1; n <= 64; n++ {
		for _, pick := range picks {
			left := without(upTo(n), place(pick, n))
			c := made(n, upTo(n)...)
			c.Put(key(n), lineOf(n), pick)
			has(t, "put", c, append(slices.Clone(left), n)...)
			c = made(64, upTo(n)...)
			c.Evict(pick)
			has(t, "evicted", c, left...)
		}
	}
}

// P10.1: what the document says of 0 to 63 in a row, and of those below 0, each is another line: none is left out.
func TestPickedEach(t *testing.T) {
	for n := 1; n <= 64; n++ {
		for _, from := range []int{0, -n, 5 * n, -7 * n, -n / 2} {
			seen := map[Key]int{}
			for pick := from; pick < from+n; pick++ {
				c := made(64, upTo(n)...)
				was := c.Keys()
				c.Evict(pick)
				for _, k := range was {
					if !slices.Contains(c.Keys(), k) {
						seen[k]++
					}
				}
			}
			for i := range n {
				if seen[key(i)] != 1 {
					t.Fatalf("of %d lines, picked from %d on: %v goes %d times", n, from, key(i), seen[key(i)])
				}
			}
		}
	}
}

// P10.1: every field of a line is told, alone and missing; a line of zeros is there, too.
func TestLines(t *testing.T) {
	lines := []Line{{}, {Right: right.Right{W: true}}, {Right: right.Right{U: true}}, {Right: right.Right{X: true}}, {Right: right.All()}, {Dirty: true}, {Frame: math.MaxUint64, Right: right.All(), Dirty: true, Mask: 255}}
	for i := range 64 {
		lines = append(lines, Line{Frame: 1 << i}, Line{Frame: math.MaxUint64 - 1<<i, Dirty: true})
	}
	for i := range 256 {
		lines = append(lines, Line{Mask: uint8(i)}, Line{Mask: uint8(i), Right: right.All()})
	}
	c := New(1)
	for i, l := range lines {
		c.Put(key(i), l, i) // another key each time
		if got, is := c.Get(key(i)); !is || got != l {
			t.Errorf("put %v, got %v, %v", l, got, is)
		}
		c.Put(key(i), lines[len(lines)-1-i], i) // and in its place
		if got, is := c.Get(key(i)); !is || got != lines[len(lines)-1-i] {
			t.Errorf("put %v in its place, got %v, %v", lines[len(lines)-1-i], got, is)
		}
	}
}

// neighbours are a key and such that differ from it in one field alone, those among them that would be the same, if it were cut to fewer bits.
func neighbours() []Key {
	k := Key{Pcid: 5, Level: 2, Tag: 7}
	list := []Key{k}
	for _, n := range []int{0, 1, 2, 4, 6, 4095, 4096, 4096 + 5, -5, -1, 256 + 5, 1<<16 + 5, 1<<32 + 5, math.MaxInt, math.MinInt, math.MinInt + 5} {
		list = append(list, Key{Pcid: n, Level: k.Level, Tag: k.Tag})
	}
	for _, n := range []int{0, 1, 3, 4, 5, -1, -2, 256 + 2, 1<<32 + 2, math.MaxInt, math.MinInt, math.MinInt + 2} {
		list = append(list, Key{Pcid: k.Pcid, Level: n, Tag: k.Tag})
	}
	for _, n := range []uint64{0, 1, 2, 5, 6, 8, 256 + 7, 1<<32 + 7, 1<<63 + 7, math.MaxUint64, math.MaxUint64 - 7} {
		list = append(list, Key{Pcid: k.Pcid, Level: k.Level, Tag: n})
	}
	return append(list, Key{Pcid: 2, Level: 5, Tag: 7}, Key{Pcid: 7, Level: 2, Tag: 5}, Key{Pcid: 5, Level: 7, Tag: 2}, Key{})
}

// P10.1, P10.2: keys that differ in one field alone don't know of each other: each has its line, in the order in which they came, and is dropped alone.
func TestKeysApart(t *testing.T) {
	list := neighbours()
	if len(list) > 64 {
		t.Fatalf("%d keys", len(list))
	}
	c := New(64)
	for i, k := range list {
		if l, is := c.Get(k); is || l != (Line{}) {
			t.Errorf("%v has %v ahead of being put", k, l)
		}
		c.Put(k, lineOf(i), 0)
	}
	if l := c.Keys(); !slices.Equal(l, list) {
		t.Fatalf("Keys() = %v, not %v", l, list)
	}
	for at, gone := range list {
		c.Drop(gone)
		for i, k := range list {
			want := Line{}
			if i > at {
				want = lineOf(i)
			}
			if l, is := c.Get(k); l != want || is != (i > at) {
				t.Fatalf("%v dropped: Get(%v) = %v, %v", gone, k, l, is)
			}
		}
		if l := c.Keys(); !slices.Equal(l, list[at+1:]) {
			t.Fatalf("%v dropped: %v", gone, l)
		}
	}
}

// P10.2: a line is dropped from each place of caches of all sizes, the others stay as they were; a key that isn't there, or isn't any more, drops nothing.
func TestDrop(t *testing.T) {
	for _, n := range []int{1, 2, 3, 8, 63, 64} {
		for at := range n {
			c := made(64, upTo(n)...)
			c.Drop(key(n))
			c.Drop(Key{Pcid: 1, Level: 1, Tag: uint64(at)})
			c.Drop(Key{Level: -1, Tag: uint64(at)})
			c.Drop(Key{})
			has(t, "none dropped", c, upTo(n)...)
			c.Drop(key(at))
			has(t, "dropped", c, without(upTo(n), at)...)
			c.Drop(key(at))
			has(t, "dropped again", c, without(upTo(n), at)...)
			c.Put(key(at), lineOf(at), 0) // there is room again, behind all
			has(t, "put again", c, append(without(upTo(n), at), at)...)
		}
	}
}

// P10.2: Drop, DropOf, Clear and Evict of a cache without lines, new, dropped empty, and cleared.
func TestNoneThere(t *testing.T) {
	dropped, cleared, evicted := made(3, 1, 2), made(3, 1, 2), made(3, 1, 2)
	dropped.DropOf(0)
	cleared.Clear()
	evicted.Evict(0)
	evicted.Evict(0)
	for _, c := range []*Cache{New(3), New(64), dropped, cleared, evicted} {
		for _, pick := range picks {
			c.Evict(pick)
			c.DropOf(pick)
			c.Drop(key(pick))
			c.Clear()
			has(t, "none there", c)
		}
		c.Put(key(1), lineOf(1), 9)
		has(t, "put behind it", c, 1)
	}
}

// ofPcids is a cache with a line of each of these PCIDs, in turn, with tags from 0 on; left are the keys of it whose PCID isn't that.
func ofPcids(pcids ...int) *Cache {
	c := New(64)
	for i, q := range pcids {
		c.Put(Key{Pcid: q, Level: i % 3, Tag: uint64(i)}, lineOf(i), 0)
	}
	return c
}

func left(gone int, pcids ...int) []Key {
	var list []Key
	for i, q := range pcids {
		if q != gone {
			list = append(list, Key{Pcid: q, Level: i % 3, Tag: uint64(i)})
		}
	}
	return list
}

// P10.2: all lines of a PCID are gone: some, all, and none; ahead, behind, side by side, and in turns with others; PCIDs below 0 and above 4095 are like others.
func TestDropOf(t *testing.T) {
	wide := make([]int, 64)
	for i := range wide {
		wide[i] = []int{0, 1, 4095, -1}[i%4]
	}
	for _, pcids := range [][]int{
		{}, {1}, {2}, {1, 1}, {1, 2}, {2, 1}, {1, 1, 2}, {1, 2, 1}, {2, 1, 1}, {2, 1, 1, 2}, {1, 2, 2, 1}, {1, 1, 1, 1}, {2, 2, 2, 2}, {1, 2, 1, 2, 1}, {2, 1, 2, 1, 2},
		{0, 1, 0, -1, 1, -1, 4095, 4096, 1 << 32, 1<<32 + 1, -1, math.MinInt, math.MaxInt, 257, -255}, {-1, -1, 1}, {0, 0, 0}, wide, make([]int, 64),
	} {
		for _, gone := range []int{0, 1, 2, -1, -2, 4095, 4096, 256, 257, 1 << 32, 1<<32 + 1, -1 << 32, math.MinInt, math.MaxInt} {
			c := ofPcids(pcids...)
			c.DropOf(gone)
			want := left(gone, pcids...)
			if l := c.Keys(); !slices.Equal(l, want) {
				t.Fatalf("of %v dropped %d: %v, not %v", pcids, gone, l, want)
			}
			for i, q := range pcids {
				k := Key{Pcid: q, Level: i % 3, Tag: uint64(i)}
				if l, is := c.Get(k); is != (q != gone) || is && l != lineOf(i) || !is && l != (Line{}) {
					t.Fatalf("of %v dropped %d: Get(%v) = %v, %v", pcids, gone, k, l, is)
				}
			}
			again := Key{Pcid: gone, Level: -7, Tag: 99}
			c.Put(again, lineOf(99), 0)
			if len(want) < 64 && !slices.Equal(c.Keys(), append(want, again)) {
				t.Fatalf("of %v dropped %d, and put: %v", pcids, gone, c.Keys())
			}
		}
	}
}

// P10.2: all lines are gone, of full caches and others; what is put behind it is there, in the order in which it comes then.
func TestClear(t *testing.T) {
	for _, room := range []int{1, 2, 5, 63, 64} {
		for lines := range room + 1 {
			c := made(room, upTo(lines)...)
			c.Clear()
			has(t, "cleared", c)
			c.Clear()
			has(t, "cleared again", c)
			for n := range room {
				c.Put(key(100-n), lineOf(100-n), 0)
			}
			var want []int
			for n := range room {
				want = append(want, 100-n)
			}
			has(t, "put behind it", c, want...)
			c.Put(key(101), lineOf(101), 0)
			has(t, "full again", c, append(want[1:], 101)...)
		}
	}
}

// P10.2: one by one all are evicted, from the first, from the last, and in the middle.
func TestEvictAll(t *testing.T) {
	for _, pick := range []int{0, -1, 1, 7, -7, math.MaxInt, math.MinInt} {
		c, want := made(64, upTo(64)...), upTo(64)
		for len(want) > 0 {
			c.Evict(pick)
			want = without(want, place(pick, len(want)))
			has(t, "evicted", c, want...)
		}
		c.Evict(pick)
		has(t, "none", c)
	}
}

// P10.2: asking changes nothing: neither what is there nor the order.
func TestAsking(t *testing.T) {
	c := made(4, 3, 1, 2, 0)
	for range 3 {
		for n := range 10 {
			c.Get(key(n))
			c.Get(Key{Pcid: -n, Level: n})
			c.Keys()
			c.Room()
		}
	}
	has(t, "asked", c, 3, 1, 2, 0)
	c.Put(key(9), lineOf(9), 0) // the first one that came goes, not the one that was asked for first
	has(t, "put", c, 1, 2, 0, 9)
}

// P10.2: what Keys told is the caller's own: it stays, whatever is done behind it, and what the caller writes into it, or lays behind it, is not the cache's.
func TestKeysAreTheCallers(t *testing.T) {
	for _, do := range []func(c *Cache){
		func(c *Cache) { c.Put(key(9), lineOf(9), 0) },
		func(c *Cache) { c.Put(key(9), lineOf(9), 2) },
		func(c *Cache) { c.Put(key(9), lineOf(9), -1) },
		func(c *Cache) { c.Put(key(1), lineOf(9), 0) },
		func(c *Cache) { c.Drop(key(0)) },
		func(c *Cache) { c.Drop(key(2)) },
		func(c *Cache) { c.DropOf(0) },
		func(c *Cache) { c.Clear(); c.Put(key(7), lineOf(7), 0); c.Put(key(8), lineOf(8), 0) },
		func(c *Cache) { c.Evict(0); c.Put(key(8), lineOf(8), 0); c.Evict(0); c.Put(key(7), lineOf(7), 0) },
		func(c *Cache) { c.Evict(-1); c.Put(key(8), lineOf(8), 0) },
	} {
		for _, room := range []int{4, 5, 8, 64} {
			c := made(room, 0, 1, 2, 3)
			told, other := c.Keys(), c.Keys()
			do(c)
			if !slices.Equal(told, keysOf(0, 1, 2, 3)) {
				t.Fatalf("what was told is %v then", told)
			}
			now := c.Keys()
			for i := range told {
				told[i] = key(50 + i)
			}
			more := append(other, key(60), key(61), key(62), key(63))
			for i := range more {
				more[i] = key(70)
			}
			if l := c.Keys(); !slices.Equal(l, now) {
				t.Fatalf("what is written into an answer makes %v of %v", l, now)
			}
		}
	}
	c := made(8, 0, 1, 2)
	_ = append(c.Keys(), key(90)) // behind an answer there may be room, but not the cache's
	c.Put(key(3), lineOf(3), 0)
	_ = append(c.Keys()[:1], key(91), key(92))
	has(t, "laid behind an answer", c, 0, 1, 2, 3)
}

// P10.1: what is got is the caller's own, and so is what was put.
func TestLinesAreTheCallers(t *testing.T) {
	c := New(2)
	l := lineOf(1)
	c.Put(key(1), l, 0)
	l.Frame, l.Dirty = 5, true
	has(t, "written behind it", c, 1)
	got, _ := c.Get(key(1))
	got.Mask, got.Right = 0, right.All()
	has(t, "written into an answer", c, 1)
}

// R4: caches are apart.
func TestCachesApart(t *testing.T) {
	a, b := made(3, 0, 1, 2), made(3, 2, 3)
	has(t, "a", a, 0, 1, 2)
	a.Evict(0)
	b.Put(key(4), lineOf(4), 0)
	has(t, "a", a, 1, 2)
	has(t, "b", b, 2, 3, 4)
	a.Clear()
	has(t, "b", b, 2, 3, 4)
	b.DropOf(0)
	a.Put(key(5), lineOf(5), 0)
	has(t, "a", a, 5)
	has(t, "b", b)
}

// P10.2: a Cache that is nil has no lines and no room, whatever is asked of it and done to it.
func TestNil(t *testing.T) {
	var c *Cache
	for _, pick := range picks {
		k := Key{Pcid: pick, Level: pick, Tag: uint64(pick)}
		c.Put(k, lineOf(3), pick)
		if l, is := c.Get(k); is || l != (Line{}) {
			t.Fatalf("Get(%v) = %v, %v", k, l, is)
		}
		c.Drop(k)
		c.DropOf(pick)
		c.Evict(pick)
		c.Clear()
		if l := c.Keys(); len(l) != 0 {
			t.Fatalf("Keys() = %v", l)
		}
		if n := c.Room(); n != 0 {
			t.Fatalf("Room() = %d", n)
		}
	}
	if c != nil {
		t.Error("it is there then")
	}
}

// P1: a zero Cache isn't asked anything, but nothing panics either.
func TestZero(t *testing.T) {
	c := &Cache{}
	c.Put(key(1), lineOf(1), 1)
	c.Drop(key(1))
	c.DropOf(0)
	c.Evict(1)
	c.Clear()
	has(t, "zero", c)
}

// some are keys of few PCIDs, levels and tags, numbers that are none among them: twice as many as there is ever room for.
func some() []Key {
	var list []Key
	for _, q := range []int{0, 1, 4095, -1} {
		for _, level := range []int{1, 2, 4, -1} {
			for _, tag := range []uint64{0, 1, 2, 3, 7, 1 << 27, math.MaxUint64 - 1, math.MaxUint64} {
				list = append(list, Key{Pcid: q, Level: level, Tag: tag})
			}
		}
	}
	return list
}

// same holds a cache against a row: the keys in turn, the line of each, and that no other one of the list has any.
func same(t *testing.T, what string, c *Cache, r *row, list []Key) {
	t.Helper()
	if l := c.Keys(); !slices.Equal(l, r.keys()) {
		t.Fatalf("%s: Keys() = %v, not %v", what, l, r.keys())
	}
	if c.Room() != r.room || len(c.Keys()) > r.room {
		t.Fatalf("%s: %d lines, room for %d, not %d", what, len(c.Keys()), c.Room(), r.room)
	}
	lines := map[Key]Line{}
	for _, p := range r.list {
		lines[p.k] = p.l
	}
	for _, k := range list {
		want, there := lines[k]
		if l, is := c.Get(k); l != want || is != there {
			t.Fatalf("%s: Get(%v) = %v, %v, not %v, %v", what, k, l, is, want, there)
		}
	}
}

// step does one thing to both, which seldom empties them, and tells its name.
func step(n *numbers, c *Cache, r *row, list []Key) string {
	k, pick := list[n.below(len(list))], n.pick()
	switch i := n.below(1000); {
	case i < 800:
		l := n.line()
		c.Put(k, l, pick)
		r.put(k, l, pick)
		return "Put"
	case i < 900:
		c.Drop(k)
		r.drop(func(_ int, other Key) bool { return other == k })
		return "Drop"
	case i < 993:
		c.Evict(pick)
		r.evict(pick)
		return "Evict"
	case i < 998:
		c.DropOf(k.Pcid)
		r.drop(func(_ int, other Key) bool { return other.Pcid == k.Pcid })
		return "DropOf"
	}
	c.Clear()
	r.list = nil
	return "Clear"
}

// P10.1 to P10.3: long rows of mixed calls, in rooms of all sizes, held against the document's words behind each.
func TestMixed(t *testing.T) {
	list := some()
	for _, room := range rooms {
		n := numbers(room.asked)
		c, r := New(room.asked), &row{room: room.room}
		full := 0
		for range 1500 {
			what := step(&n, c, r, list)
			same(t, what, c, r, list)
			if len(r.list) == r.room {
				full++
			}
		}
		if full < 20 {
			t.Errorf("a room for %d was full %d times: nothing is told of what is picked", r.room, full)
		}
	}
}

// P10.3: of whatever is put there are never more lines than room, each key has one, and the one that was put last is there as it was put.
func TestBounded(t *testing.T) {
	list := some()
	for _, room := range rooms {
		n := numbers(room.asked + 1)
		c, different := New(room.asked), map[Key]int{}
		for range 400 {
			k, l := list[n.below(len(list))], n.line()
			c.Put(k, l, n.pick())
			different[k] = 1
			keys, met := c.Keys(), map[Key]int{}
			for _, k := range keys {
				met[k]++
			}
			if len(keys) != min(len(different), room.room) || len(met) != len(keys) {
				t.Fatalf("room for %d, %d put: %d lines, %d of them different", room.room, len(different), len(keys), len(met))
			}
			if got, is := c.Get(k); room.room > 0 && (!is || got != l) || room.room == 0 && is {
				t.Fatalf("room for %d: put %v, got %v, %v", room.room, l, got, is)
			}
		}
	}
}

// P10.3: what is kept is no more than the lines: a key that is gone isn't kept anywhere.
func TestNothingIsLeft(t *testing.T) {
	list := some()
	for _, room := range []int{1, 3, 64} {
		n := numbers(room)
		c, r := New(room), &row{room: room}
		for range 500 {
			step(&n, c, r, list)
			if len(c.lines) != len(c.order) || len(c.order) > room {
				t.Fatalf("room for %d: %d lines, %d keys", room, len(c.lines), len(c.order))
			}
		}
	}
}
