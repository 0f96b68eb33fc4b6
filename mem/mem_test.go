package mem

import (
	"math"
	"slices"
	"testing"

	"dormer/api"
	"dormer/word"
)

// allBits are the sizes that a memory may have, as figures.
var allBits = []int{14, 15, 16, 17, 18, 19, 20, 21, 22}

// noBits are numbers that are no size, some of which would be one if they were cut to fewer bits.
var noBits = []int{13, 12, 1, 0, -1, -14, -22, 23, 24, 63, 64, 64 + 14, 128 + 14, 256 + 14, 256 + 22, 1<<16 + 14, 1<<32 + 14, 1<<32 + 22,
	-1<<32 + 14, 1 << 62, math.MaxInt, math.MaxInt - 1, math.MinInt, math.MinInt + 14, math.MinInt + 22}

// power is two to the n, made by multiplying alone: what is tested shifts.
func power(n int) uint64 {
	p := uint64(1)
	for range n {
		p *= 2
	}
	return p
}

// beyond are addresses at and above the end of a memory of so many bits; the odd ones and those that no slot begins at, too.
func beyond(bits int) []uint64 {
	end := power(bits)
	list := []uint64{end, end + 1, end + 4, end + 7, end + 8, end + 4095, end + 4096, 2*end - 1, 2 * end, 3 * end, 1 << 22, 1<<22 + 1, 1<<22 + 8,
		1 << 32, 1<<32 + 1, 1<<32 + 8, 1 << 47, 1 << 63, 1<<63 + 1, 1<<63 + 8,
		math.MaxUint64, math.MaxUint64 - 1, math.MaxUint64 - 7, math.MaxUint64 - 8, math.MaxUint64 - 4095}
	for i := bits; i < 64; i++ {
		list = append(list, power(i), power(i)+8, power(i)+5)
	}
	return list
}

// made is a memory that is there.
func made(t *testing.T, bits int) *Mem {
	t.Helper()
	m := New(bits)
	if m == nil {
		t.Fatalf("New(%d) = nil", bits)
	}
	return m
}

// store, put, get and peek are what they say, where no error may be.
func store(t *testing.T, m *Mem, a, x uint64) {
	t.Helper()
	if e := m.Store(a, x); e != api.OK {
		t.Fatalf("Store(%#x, %#x) = %v", a, x, e)
	}
}

func put(t *testing.T, m *Mem, a uint64, b byte) {
	t.Helper()
	if e := m.Put(a, b); e != api.OK {
		t.Fatalf("Put(%#x, %#x) = %v", a, b, e)
	}
}

func get(t *testing.T, m *Mem, a uint64) byte {
	t.Helper()
	b, e := m.Get(a)
	if e != api.OK {
		t.Fatalf("Get(%#x) = %v", a, e)
	}
	return b
}

func peek(t *testing.T, m *Mem, a uint64) uint64 {
	t.Helper()
	x, e := m.Peek(a)
	if e != api.OK {
		t.Fatalf("Peek(%#x) = %v", a, e)
	}
	return x
}

func load(t *testing.T, m *Mem, a uint64) uint64 {
	t.Helper()
	x, e := m.Load(a)
	if e != api.OK {
		t.Fatalf("Load(%#x) = %v", a, e)
	}
	return x
}

// flat is a memory as the document has it: so many bytes beside each other.
type flat []byte

func newFlat(bits int) flat { return make(flat, power(bits)) }

func (f flat) word(a uint64) uint64 {
	x := uint64(0)
	for i := 7; i >= 0; i-- {
		x = x*256 + uint64(f[a+uint64(i)])
	}
	return x
}

func (f flat) lay(a, x uint64) {
	for i := range uint64(8) {
		f[a+i] = byte(x % 256)
		x /= 256
	}
}

// hold tells where a memory isn't what it should be, in all its bytes and words.
func (f flat) hold(t *testing.T, what string, m *Mem) {
	t.Helper()
	for a := range uint64(len(f)) {
		if b := get(t, m, a); b != f[a] {
			t.Fatalf("%s: the byte %#x is %#x, not %#x", what, a, b, f[a])
		}
		if a%8 != 0 {
			continue
		}
		if x := peek(t, m, a); x != f.word(a) {
			t.Fatalf("%s: the slot %#x is %#x, not %#x", what, a, x, f.word(a))
		}
	}
}

// numbers is a row of numbers that look unlike, the same at each run.
type numbers uint64

func (n *numbers) next() uint64 {
	*n = *n*6364136223846793005 + 1442695040888963407
	return uint64(*n) ^ uint64(*n)>>29
}

// P4.1: the document's example.
func TestExample(t *testing.T) {
	m := made(t, 14)
	store(t, m, 8, 0x0102)
	if b := get(t, m, 8); b != 2 {
		t.Errorf("the byte 8: %d", b)
	}
	if b := get(t, m, 9); b != 1 {
		t.Errorf("the byte 9: %d", b)
	}
}

// P4.1, P4.2: memories of 14 to 22 bits, and no others.
func TestNew(t *testing.T) {
	for _, bits := range allBits {
		m := made(t, bits)
		if n := m.Bits(); n != bits {
			t.Errorf("New(%d).Bits() = %d", bits, n)
		}
		if l := m.Trace(); len(l) != 0 {
			t.Errorf("New(%d).Trace() = %v", bits, l)
		}
	}
	for _, bits := range noBits {
		if m := New(bits); m != nil {
			t.Errorf("New(%d) is a memory of %d bits", bits, m.Bits())
		}
	}
}

// P4.1: all bytes are 0 at first, up to the last.
func TestNewIsZero(t *testing.T) {
	for _, bits := range []int{14, 22} {
		newFlat(bits).hold(t, "new", made(t, bits))
	}
	for _, bits := range allBits {
		m := made(t, bits)
		for _, a := range []uint64{0, 8, 4088, 4096, power(bits)/2 - 8, power(bits) / 2, power(bits) - 8} {
			if x := load(t, m, a); x != 0 {
				t.Errorf("%d bits: the slot %#x is %#x", bits, a, x)
			}
		}
	}
}

// P4.1: the first and the last byte and slot of each size, one at a time; the rest stays 0.
func TestEnds(t *testing.T) {
	for _, bits := range allBits {
		end := power(bits)
		for _, a := range []uint64{0, 1, 7, 8, 4095, 4096, end/2 - 1, end / 2, end - 4097, end - 4096, end - 8, end - 1} {
			m := made(t, bits)
			put(t, m, a, 0xA5)
			if b := get(t, m, a); b != 0xA5 {
				t.Errorf("%d bits: the byte %#x is %#x", bits, a, b)
			}
			if l := Diff(m, made(t, bits)); !slices.Equal(l, []uint64{a - a%8}) {
				t.Errorf("%d bits: the byte %#x changed %#x", bits, a, l)
			}
		}
		for _, a := range []uint64{0, 8, 4088, 4096, end/2 - 8, end / 2, end - 4096, end - 8} {
			m := made(t, bits)
			store(t, m, a, 0x8877665544332211)
			if x := peek(t, m, a); x != 0x8877665544332211 {
				t.Errorf("%d bits: the slot %#x is %#x", bits, a, x)
			}
			if x := load(t, m, a); x != 0x8877665544332211 {
				t.Errorf("%d bits: the slot %#x is loaded as %#x", bits, a, x)
			}
			if l := Diff(m, made(t, bits)); !slices.Equal(l, []uint64{a}) {
				t.Errorf("%d bits: the slot %#x changed %#x", bits, a, l)
			}
		}
	}
}

// some is a memory with something in it and on its trace.
func some(t *testing.T, bits int) *Mem {
	t.Helper()
	m := made(t, bits)
	for _, a := range []uint64{0, 8, 4088, 4096, power(bits) - 8} {
		store(t, m, a, 0x1122334455667788+a)
		load(t, m, a)
	}
	return m
}

// wrong does one call that may not be done, in all ways, and tells which of them answered something else or changed anything.
func wrong(t *testing.T, m *Mem, a uint64, bytes bool, want api.Errno) {
	t.Helper()
	was, trace := m.Copy(), m.Trace()
	if bytes {
		if b, e := m.Get(a); b != 0 || e != want {
			t.Errorf("%d bits: Get(%#x) = %#x, %v", m.Bits(), a, b, e)
		}
		if e := m.Put(a, 0xFF); e != want {
			t.Errorf("%d bits: Put(%#x) = %v", m.Bits(), a, e)
		}
	}
	if x, e := m.Load(a); x != 0 || e != want {
		t.Errorf("%d bits: Load(%#x) = %#x, %v", m.Bits(), a, x, e)
	}
	if x, e := m.Peek(a); x != 0 || e != want {
		t.Errorf("%d bits: Peek(%#x) = %#x, %v", m.Bits(), a, x, e)
	}
	if e := m.Store(a, math.MaxUint64); e != want {
		t.Errorf("%d bits: Store(%#x) = %v", m.Bits(), a, e)
	}
	if l := Diff(was, m); len(l) != 0 {
		t.Errorf("%d bits: at %#x: changed: %#x", m.Bits(), a, l)
	}
	if l := m.Trace(); !slices.Equal(l, trace) {
		t.Errorf("%d bits: at %#x: the trace is %#x", m.Bits(), a, l)
	}
}

// P4.1, R1: what isn't below the end is ErrAddr, a multiple of eight or not, and changes nothing.
func TestBeyond(t *testing.T) {
	for _, bits := range allBits {
		m := some(t, bits)
		for _, a := range beyond(bits) {
			wrong(t, m, a, true, api.ErrAddr)
		}
	}
}

// P4.1, R1: no slot begins between two multiples of eight; its bytes are there.
func TestBetween(t *testing.T) {
	for _, bits := range allBits {
		m := some(t, bits)
		for _, slot := range []uint64{0, 8, 16, 4088, 4096, power(bits) - 16, power(bits) - 8} {
			for i := uint64(1); i < 8; i++ {
				wrong(t, m, slot+i, false, api.ErrAlign)
				get(t, m, slot+i)
			}
		}
	}
}

// P4.1: which byte of a word is which, as figures; each byte alone is written and the others stay.
func TestBytesOfAWord(t *testing.T) {
	m := made(t, 14)
	store(t, m, 0x1008, 0x8070605040302010)
	for i, want := range []byte{0x10, 0x20, 0x30, 0x40, 0x50, 0x60, 0x70, 0x80} {
		if b := get(t, m, 0x1008+uint64(i)); b != want {
			t.Errorf("the byte %d is %#x", i, b)
		}
	}
	for i, want := range []uint64{0x80706050403020FF, 0x807060504030FF10, 0x8070605040FF2010, 0x80706050FF302010,
		0x807060FF40302010, 0x8070FF5040302010, 0x80FF605040302010, 0xFF70605040302010} {
		c := m.Copy()
		put(t, c, 0x1008+uint64(i), 0xFF)
		if x := peek(t, c, 0x1008); x != want {
			t.Errorf("with 0xFF as the byte %d: %#x", i, x)
		}
		if l := Diff(m, c); !slices.Equal(l, []uint64{0x1008}) {
			t.Errorf("with 0xFF as the byte %d: changed: %#x", i, l)
		}
	}
}

// P4.1: a slot's word is word.From of its bytes, and word.Bytes of what is stored are its bytes.
func TestWordsAsBytes(t *testing.T) {
	m := made(t, 14)
	row := numbers(4)
	for i := range uint64(200) {
		a, x := i*8, row.next()
		store(t, m, a, x)
		list := make([]byte, 8)
		for j := range list {
			list[j] = get(t, m, a+uint64(j))
		}
		if !slices.Equal(list, word.Bytes(x)) {
			t.Fatalf("%#x is stored as %x", x, list)
		}
		y := row.next()
		for j, b := range word.Bytes(y) {
			put(t, m, a+uint64(j), b)
		}
		if got := load(t, m, a); got != y {
			t.Fatalf("the bytes of %#x are loaded as %#x", y, got)
		}
	}
}

// P4.3: slots and bytes beside each other, and on either side of a page's end, are apart.
func TestNeighbours(t *testing.T) {
	for _, middle := range []uint64{8, 2048, 4088, 4096, 8184, 8192, 12280, 12288, 1<<14 - 16} {
		m := made(t, 14)
		store(t, m, middle-8, 0x1111111111111111)
		store(t, m, middle, 0x2222222222222222)
		store(t, m, middle+8, 0x3333333333333333)
		store(t, m, middle, math.MaxUint64)
		put(t, m, middle-1, 0)
		put(t, m, middle+8, 0)
		for i, want := range []uint64{0x0011111111111111, math.MaxUint64, 0x3333333333333300} {
			if x := peek(t, m, middle-8+uint64(i)*8); x != want {
				t.Errorf("around %#x, the slot %d: %#x", middle, i, x)
			}
		}
		if l := Diff(m, made(t, 14)); !slices.Equal(l, []uint64{middle - 8, middle, middle + 8}) {
			t.Errorf("around %#x: changed: %#x", middle, l)
		}
	}
}

// P4.3: every slot has a place of its own: its number in it is found there, in the smallest memory and in the greatest one.
func TestEachSlotIsItsOwn(t *testing.T) {
	for _, bits := range []int{14, 22} {
		m := made(t, bits)
		for a := uint64(0); a < power(bits); a += 8 {
			store(t, m, a, ^a)
		}
		for a := uint64(0); a < power(bits); a += 8 {
			if x := peek(t, m, a); x != ^a {
				t.Fatalf("%d bits: the slot %#x is %#x", bits, a, x)
			}
		}
	}
}

// P4.3: every byte has a place of its own.
func TestEachByteIsItsOwn(t *testing.T) {
	m, f := made(t, 14), newFlat(14)
	row := numbers(3)
	for a := range f {
		f[a] = byte(row.next())
		put(t, m, uint64(a), f[a])
	}
	f.hold(t, "all bytes", m)
}

// P4.1, P4.2, P4.3: bytes and words, written and read in turn, are those of bytes beside each other; copies that were made on the way stay.
func TestAgainstFlat(t *testing.T) {
	for _, bits := range []int{14, 15, 17} {
		m, f := made(t, bits), newFlat(bits)
		row := numbers(bits)
		var copies []*Mem
		var flats []flat
		var trace []uint64
		for i := range 6000 {
			a, x := row.next()%power(bits), row.next()
			slot := a - a%8
			switch row.next() % 5 {
			case 0:
				put(t, m, a, byte(x))
				f[a] = byte(x)
			case 1:
				store(t, m, slot, x)
				f.lay(slot, x)
			case 2:
				if b := get(t, m, a); b != f[a] {
					t.Fatalf("the byte %#x is %#x, not %#x", a, b, f[a])
				}
			case 3:
				if got := load(t, m, slot); got != f.word(slot) {
					t.Fatalf("the slot %#x is %#x, not %#x", slot, got, f.word(slot))
				}
				trace = append(trace, slot)
			case 4:
				if got := peek(t, m, slot); got != f.word(slot) {
					t.Fatalf("the slot %#x is %#x, not %#x", slot, got, f.word(slot))
				}
			}
			if i%1500 == 700 {
				copies, flats = append(copies, m.Copy()), append(flats, slices.Clone(f))
			}
		}
		if l := m.Trace(); !slices.Equal(l, trace) {
			t.Errorf("%d bits: the trace has %d, not %d", bits, len(l), len(trace))
		}
		f.hold(t, "at the end", m)
		for i, c := range copies {
			flats[i].hold(t, "a copy", c)
			checkDiff(t, c, m, flats[i], f)
		}
	}
}

// checkDiff holds Diff of two memories, both ways, against all slots of both.
func checkDiff(t *testing.T, a, b *Mem, fa, fb flat) {
	t.Helper()
	var want []uint64
	for s := uint64(0); s < uint64(len(fa)); s += 8 {
		if fa.word(s) != fb.word(s) {
			want = append(want, s)
		}
	}
	if l := Diff(a, b); !slices.Equal(l, want) {
		t.Errorf("%d slots differ, not %d", len(l), len(want))
	}
	if l := Diff(b, a); !slices.Equal(l, want) {
		t.Errorf("the other way: %d slots differ, not %d", len(l), len(want))
	}
}

// P4.1, P4.2: Load alone is traced, in the order of the loads, one that was there already again.
func TestTrace(t *testing.T) {
	m := made(t, 14)
	for _, a := range []uint64{16, 0, 16, 16, 1<<14 - 8, 4096} {
		load(t, m, a)
		store(t, m, a, a)
		peek(t, m, a)
		put(t, m, a, 1)
		get(t, m, a)
		m.Bits()
		Diff(m, m.Copy())
	}
	want := []uint64{16, 0, 16, 16, 1<<14 - 8, 4096}
	for range 2 { // asking changes nothing
		if l := m.Trace(); !slices.Equal(l, want) {
			t.Errorf("the trace is %#x", l)
		}
	}
}

// P4.2: Forget empties the trace and nothing else, and it goes on from there.
func TestForget(t *testing.T) {
	m := some(t, 14)
	was := m.Copy()
	m.Forget()
	if l := m.Trace(); len(l) != 0 {
		t.Errorf("the trace is %#x", l)
	}
	if l := Diff(was, m); len(l) != 0 || m.Bits() != 14 {
		t.Errorf("changed: %#x, %d bits", l, m.Bits())
	}
	m.Forget()
	load(t, m, 24)
	load(t, m, 8)
	if l := m.Trace(); !slices.Equal(l, []uint64{24, 8}) {
		t.Errorf("the trace is %#x", l)
	}
}

// R3: a trace that was told is the caller's own, whatever is loaded or forgotten later.
func TestTraceIsTheCallers(t *testing.T) {
	m := made(t, 14)
	for i := range uint64(5) {
		load(t, m, i*8)
	}
	told := m.Trace()
	told[0] = 77
	more := append(told, 88)
	if l := m.Trace(); !slices.Equal(l, []uint64{0, 8, 16, 24, 32}) {
		t.Errorf("the trace is %#x", l)
	}
	load(t, m, 40)
	if more[5] != 88 {
		t.Errorf("what the caller laid behind is %#x", more[5])
	}
	kept := m.Trace()
	m.Forget()
	load(t, m, 1024)
	if !slices.Equal(kept, []uint64{0, 8, 16, 24, 32, 40}) {
		t.Errorf("a trace that was told is %#x", kept)
	}
}

// P4.2: a copy has the same bytes and size, and an empty trace; the memory keeps its own.
func TestCopy(t *testing.T) {
	for _, bits := range allBits {
		m := some(t, bits)
		trace := m.Trace()
		c := m.Copy()
		if c == nil || c == m || c.Bits() != bits {
			t.Fatalf("%d bits: the copy: %v", bits, c)
		}
		if l := c.Trace(); len(l) != 0 {
			t.Errorf("%d bits: the copy's trace is %#x", bits, l)
		}
		if l := m.Trace(); !slices.Equal(l, trace) {
			t.Errorf("%d bits: the trace is %#x", bits, l)
		}
		for _, a := range []uint64{0, 8, 4088, 4096, power(bits) - 8} {
			if x := peek(t, c, a); x != 0x1122334455667788+a {
				t.Errorf("%d bits: the copy's slot %#x is %#x", bits, a, x)
			}
		}
		if x := peek(t, c, 16); x != 0 {
			t.Errorf("%d bits: the copy's slot 16 is %#x", bits, x)
		}
		if l := Diff(m, c); len(l) != 0 {
			t.Errorf("%d bits: the copy differs: %#x", bits, l)
		}
	}
}

// P4.3: a copy is apart, both ways: in pages that were there, and in such that weren't; so is a copy of a copy, and its trace.
func TestCopyIsApart(t *testing.T) {
	m := made(t, 14)
	store(t, m, 4096, 5)
	c := m.Copy()
	d := c.Copy()
	store(t, m, 4096, 6)
	put(t, m, 8200, 1)
	store(t, c, 4104, 7)
	put(t, c, 12288, 2)
	put(t, d, 4096, 9)
	load(t, c, 4104)
	for _, w := range []struct {
		name string
		m    *Mem
		want [4]uint64
	}{
		{"the memory", m, [4]uint64{6, 0, 1, 0}},
		{"its copy", c, [4]uint64{5, 7, 0, 2}},
		{"the copy's copy", d, [4]uint64{9, 0, 0, 0}},
	} {
		for i, a := range []uint64{4096, 4104, 8200, 12288} {
			if x := peek(t, w.m, a); x != w.want[i] {
				t.Errorf("%s: the slot %d is %d", w.name, a, x)
			}
		}
	}
	if len(m.Trace()) != 0 || !slices.Equal(c.Trace(), []uint64{4104}) || len(d.Trace()) != 0 {
		t.Errorf("traces: %v, %v, %v", m.Trace(), c.Trace(), d.Trace())
	}
	if l := Diff(m, c); !slices.Equal(l, []uint64{4096, 4104, 8200, 12288}) {
		t.Errorf("differ: %v", l)
	}
}

// R4: two new memories have nothing in common.
func TestNewAreApart(t *testing.T) {
	a, b := made(t, 14), made(t, 14)
	store(t, a, 0, 1)
	load(t, a, 0)
	if x := peek(t, b, 0); x != 0 || len(b.Trace()) != 0 {
		t.Errorf("the other one: %d, %v", x, b.Trace())
	}
}

// P4.2: the slots that differ, rising, in whatever order they were written, the first and the last among them; both ways the same.
func TestDiff(t *testing.T) {
	for _, bits := range allBits {
		end := power(bits)
		a, b := made(t, bits), made(t, bits)
		for _, s := range []uint64{end - 8, 4096, 0, end / 2, 8192} {
			store(t, a, s, s+1)
		}
		for _, s := range []uint64{4096, 4088, 16} {
			store(t, b, s, s+1)
		}
		store(t, b, end/2, 3)
		put(t, b, 8199, 1)
		want := []uint64{0, 16, 4088, 8192, end / 2, end - 8}
		if bits == 14 { // the half is at 8192
			want = []uint64{0, 16, 4088, 8192, end - 8}
		}
		if l := Diff(a, b); !slices.Equal(l, want) {
			t.Errorf("%d bits: %#x", bits, l)
		}
		if l := Diff(b, a); !slices.Equal(l, want) {
			t.Errorf("%d bits, the other way: %#x", bits, l)
		}
		if l := Diff(a, a); len(l) != 0 {
			t.Errorf("%d bits, with itself: %#x", bits, l)
		}
	}
}

// P4.2: all slots of the greatest memory, if all differ; many pages tell the order of a map, if that were told.
func TestDiffOfAll(t *testing.T) {
	a, b := made(t, 22), made(t, 22)
	for s := uint64(0); s < 1<<22; s += 8 {
		store(t, a, 1<<22-8-s, 1)
	}
	for _, l := range [][]uint64{Diff(a, b), Diff(b, a)} {
		if len(l) != 1<<19 {
			t.Fatalf("%d slots", len(l))
		}
		for i, s := range l {
			if s != uint64(i)*8 {
				t.Fatalf("the slot %d is at %#x", i, s)
			}
		}
	}
}

// P4.2: each bit of a word counts.
func TestDiffOfEachBit(t *testing.T) {
	a := made(t, 14)
	for i := range 64 {
		b := made(t, 14)
		store(t, b, 4088, power(i))
		if l := Diff(a, b); !slices.Equal(l, []uint64{4088}) {
			t.Errorf("the bit %d: %v", i, l)
		}
	}
}

// P4.2: what was written with 0 is the same as what wasn't written; so is what was written and is 0 again.
func TestDiffOfZeros(t *testing.T) {
	a, b := made(t, 14), made(t, 14)
	store(t, a, 0, 0)
	put(t, a, 4096, 0)
	store(t, a, 8192, 5)
	store(t, a, 8192, 0)
	store(t, a, 1<<14-8, 0)
	if l := Diff(a, b); len(l) != 0 {
		t.Errorf("differ: %v", l)
	}
	if l := Diff(b, a); len(l) != 0 {
		t.Errorf("the other way: %v", l)
	}
	if l := Diff(a.Copy(), b.Copy()); len(l) != 0 {
		t.Errorf("copies: %v", l)
	}
	newFlat(14).hold(t, "zeros", a)
}

// P4.2: memories of two sizes, and none, have nothing to tell.
func TestDiffOfUnlike(t *testing.T) {
	for _, i := range allBits {
		for _, j := range allBits {
			a, b := some(t, i), made(t, j)
			if l := Diff(a, b); i != j && len(l) != 0 {
				t.Errorf("%d and %d bits: %v", i, j, l)
			}
		}
		if l := Diff(some(t, i), nil); len(l) != 0 {
			t.Errorf("%d bits and nil: %v", i, l)
		}
		if l := Diff(nil, some(t, i)); len(l) != 0 {
			t.Errorf("nil and %d bits: %v", i, l)
		}
	}
	if l := Diff(nil, nil); len(l) != 0 {
		t.Errorf("nil and nil: %v", l)
	}
}

// R3: Diff changes neither memory nor its trace, and each answer is the caller's own.
func TestDiffChangesNothing(t *testing.T) {
	a, b := some(t, 14), made(t, 14)
	was, trace := a.Copy(), a.Trace()
	first := Diff(a, b)
	first[0] = 99
	if l := Diff(a, b); !slices.Equal(l, []uint64{0, 8, 4088, 4096, 1<<14 - 8}) {
		t.Errorf("again: %v", l)
	}
	if l := Diff(was, a); len(l) != 0 || !slices.Equal(a.Trace(), trace) || len(b.Trace()) != 0 {
		t.Errorf("changed: %v, %v, %v", l, a.Trace(), b.Trace())
	}
	newFlat(14).hold(t, "the other one", b)
}

// P4.2, P1: a memory that is nil, in every call; one that New didn't make, which nobody asks, doesn't panic either.
func TestNil(t *testing.T) {
	for _, m := range []*Mem{nil, {}} {
		for _, a := range append(beyond(14), 0, 1, 8, 4096, 1<<14-8) {
			if b, e := m.Get(a); b != 0 || e != api.ErrAddr {
				t.Errorf("Get(%#x) = %d, %v", a, b, e)
			}
			if e := m.Put(a, 1); e != api.ErrAddr {
				t.Errorf("Put(%#x) = %v", a, e)
			}
			if x, e := m.Load(a); x != 0 || e != api.ErrAddr {
				t.Errorf("Load(%#x) = %d, %v", a, x, e)
			}
			if x, e := m.Peek(a); x != 0 || e != api.ErrAddr {
				t.Errorf("Peek(%#x) = %d, %v", a, x, e)
			}
			if e := m.Store(a, 1); e != api.ErrAddr {
				t.Errorf("Store(%#x) = %v", a, e)
			}
		}
		m.Forget()
		if n, l, c := m.Bits(), m.Trace(), m.Copy(); n != 0 || len(l) != 0 || c != nil {
			t.Errorf("Bits() = %d, Trace() = %v, Copy() = %v", n, l, c)
		}
	}
}

// The chapter's Ways: a page is made when it is written first, not when it is read.
func TestPagesAreMadeByWriting(t *testing.T) {
	m := made(t, 22)
	for a := uint64(0); a < 1<<22; a += 2048 {
		load(t, m, a)
		peek(t, m, a)
		get(t, m, a+3)
	}
	Diff(m, some(t, 22))
	if n := len(m.pages); n != 0 {
		t.Errorf("%d pages were made by reading", n)
	}
	put(t, m, 4097, 1)
	store(t, m, 4104, 1)
	store(t, m, 1<<22-8, 1)
	if n := len(m.pages); n != 2 {
		t.Errorf("%d pages were made by writing into two", n)
	}
}
