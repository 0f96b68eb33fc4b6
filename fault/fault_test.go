package fault

import (
	"errors"
	"fmt"
	"math"
	"strings"
	"testing"

	"dormer/api"
)

// The calls, as the document lists them.
var (
	_ error                                   = (*Page)(nil)
	_ func(*Page) error                       = (*Page).Unwrap
	_ func(addr uint64, code int) error       = At
	_ func(why string) error                  = GP
	_ func(why string, err error) error       = Wrap
	_ func(err error) (page Page, found bool) = Of
	_ func(err error) api.Errno               = Kind
)

// addrs and codes are those of faults: nothing, one figure, each of a to f, what has zeros within, the ends.
var (
	addrs = []uint64{0, 1, 7, 9, 0xa, 0xb, 0xc, 0xd, 0xe, 0xf, 0x10, 0x1f, 0xff, 0x100, 0xabc, 0xdef, 0x1000, 0x1f000, 0x7fffffffffff, 0x800000000000,
		0x123456789abcdef, 0xfedcba9876543210, 0xffff800000000000, 1<<63 - 1, 1 << 63, math.MaxUint64 - 1, math.MaxUint64}
	codes = []int{0, 1, 2, 3, 4, 5, 6, 7, 8, 9, 10, 13, 15, 16, 21, 29, 31, 99, 100, 12345, 1<<32 + 1, -1, -7, -9, -10, -31, -100, math.MaxInt, math.MaxInt - 1, math.MinInt, math.MinInt + 1}
)

// whys are words ahead: none, plain ones, such with colons and blanks of their own, and bytes that are no text.
var whys = []string{"", "x", "store", "address", ":", ": ", "a: b", "a:b: ", " ", "page fault at 1f000, code 7", "general protection", "%v %w", "ä€", "\xff\x00\n"}

// numbers are api's errors, in their order; noNames are numbers that have no name.
var (
	numbers = []api.Errno{api.OK, api.ErrArg, api.ErrAddr, api.ErrAlign, api.ErrFault, api.ErrGP, api.ErrNoMem, api.ErrInval, api.ErrNone, api.ErrThere}
	noNames = []api.Errno{-1, -2, -4, -5, 10, 11, 99, 256, 256 + 4, 1<<16 + 4, 1<<32 + 4, 1<<32 + 5, math.MaxInt, math.MaxInt - 1, math.MinInt, math.MinInt + 4}
)

// figures is n to a base of at most 16, by division alone.
func figures(n, base uint64) string {
	text := ""
	for n >= base {
		text = string("0123456789abcdef"[n%base]) + text
		n /= base
	}
	return string("0123456789abcdef"[n]) + text
}

// pageWords is what the document says of a Page's words.
func pageWords(addr uint64, code int) string {
	number := figures(uint64(code), 10)
	if code < 0 {
		number = "-" + figures(-uint64(code), 10)
	}
	return strings.Join([]string{"page", "fault", "at", figures(addr, 16) + ",", "code", number}, " ")
}

// around are errors of others that wrap the one that they get: once, twice, beside others, ahead and behind.
func around() []func(error) error {
	return []func(error) error{
		func(err error) error { return err },
		func(err error) error { return fmt.Errorf("other: %w", err) },
		func(err error) error { return fmt.Errorf("other: %w", fmt.Errorf("yet another: %w", err)) },
		func(err error) error { return fmt.Errorf("%w and %w", errors.New("x"), err) },
		func(err error) error { return errors.Join(err) },
		func(err error) error { return errors.Join(errors.New("x"), err, errors.New("y")) },
		func(err error) error { return Wrap("inner", fmt.Errorf("other: %w", Wrap("innermost", err))) },
		func(err error) error { return errors.Join(Wrap("x", errors.New("x")), errors.Join(err)) },
	}
}

// wrapMany is an error that is wrapped n times, and all the words that stand ahead of its own then.
func wrapMany(err error, n int) (error, string) {
	words := make([]string, 0, n+1)
	for i := range n {
		err = Wrap(whys[i%len(whys)], err)
		words = append(words, whys[(n-1-i)%len(whys)])
	}
	return err, strings.Join(append(words, ""), ": ")
}

// P7.1, P7.2: the document's examples.
func TestExamples(t *testing.T) {
	if k := Kind(Wrap("store", At(4096, 2))); k != api.ErrFault {
		t.Errorf("Kind(Wrap(\"store\", At(4096, 2))) = %d", k)
	}
	if words := At(0x1f000, 7).Error(); words != "page fault at 1f000, code 7" {
		t.Errorf("a Page's words: %q", words)
	}
}

// P7.1: a Page's words, as text.
func TestPageWords(t *testing.T) {
	for _, c := range []struct {
		addr uint64
		code int
		want string
	}{
		{0, 0, "page fault at 0, code 0"},
		{9, 1, "page fault at 9, code 1"},
		{0xa, 9, "page fault at a, code 9"},
		{0xf, 10, "page fault at f, code 10"},
		{0x10, 29, "page fault at 10, code 29"},
		{4096, 2, "page fault at 1000, code 2"},
		{0xabcdef, 31, "page fault at abcdef, code 31"},
		{0x0123456789abcdef, 100, "page fault at 123456789abcdef, code 100"},
		{0xffff800000000000, -1, "page fault at ffff800000000000, code -1"},
		{1 << 63, -10, "page fault at 8000000000000000, code -10"},
		{math.MaxUint64, math.MaxInt, "page fault at ffffffffffffffff, code 9223372036854775807"},
		{math.MaxUint64, math.MinInt, "page fault at ffffffffffffffff, code -9223372036854775808"},
	} {
		if words := At(c.addr, c.code).Error(); words != c.want {
			t.Errorf("At(%#x, %d): %q, not %q", c.addr, c.code, words, c.want)
		}
		if words := (&Page{Addr: c.addr, Code: c.code}).Error(); words != c.want {
			t.Errorf("Page{%#x, %d}: %q, not %q", c.addr, c.code, words, c.want)
		}
	}
}

// P7.1: a Page of At is that of both, and wraps ErrFault alone; so does one that is made by hand.
func TestAt(t *testing.T) {
	for _, addr := range addrs {
		for _, code := range codes {
			for _, err := range []error{At(addr, code), &Page{Addr: addr, Code: code}} {
				var p *Page
				if !errors.As(err, &p) || p == nil || *p != (Page{addr, code}) {
					t.Fatalf("At(%#x, %d) is no such Page: %v", addr, code, p)
				}
				if words, want := err.Error(), pageWords(addr, code); words != want {
					t.Errorf("At(%#x, %d): %q, not %q", addr, code, words, want)
				}
				if under := p.Unwrap(); under != api.ErrFault {
					t.Errorf("At(%#x, %d) wraps %v", addr, code, under)
				}
				for _, n := range append(numbers, noNames...) {
					if errors.Is(err, n) != (n == api.ErrFault) {
						t.Errorf("At(%#x, %d) and the error %d", addr, code, n)
					}
				}
			}
		}
	}
}

// P7.1: GP's words, what it wraps, and what it doesn't.
func TestGP(t *testing.T) {
	if words := GP("address").Error(); words != "address: general protection" {
		t.Errorf("GP(\"address\"): %q", words)
	}
	if words := GP("").Error(); words != ": general protection" {
		t.Errorf("GP(\"\"): %q", words)
	}
	for _, why := range whys {
		err := GP(why)
		if err == nil || err.Error() != strings.Join([]string{why, api.ErrGP.Error()}, ": ") {
			t.Fatalf("GP(%q): %v", why, err)
		}
		for _, n := range append(numbers, noNames...) {
			if errors.Is(err, n) != (n == api.ErrGP) {
				t.Errorf("GP(%q) and the error %d", why, n)
			}
		}
		if p, is := Of(err); is || p != (Page{}) || Kind(err) != api.ErrGP {
			t.Errorf("GP(%q): %v, %v, %d", why, p, is, Kind(err))
		}
	}
}

// P7.1: nil stays nil, whatever its words would be.
func TestWrapOfNil(t *testing.T) {
	for _, why := range whys {
		if err := Wrap(why, nil); err != nil {
			t.Errorf("Wrap(%q, nil) = %v", why, err)
		}
		if err := Wrap(why, Wrap(why, nil)); err != nil {
			t.Errorf("Wrap(%q, Wrap(%q, nil)) = %v", why, why, err)
		}
	}
}

// P7.1: words ahead, and the error itself underneath, of faults, numbers and errors of others.
func TestWrap(t *testing.T) {
	list := []error{At(0, 0), &Page{Addr: 0xfff, Code: -1}, GP("x"), GP(""), errors.New(""), errors.New("a: b"), errors.Join(errors.New("a"), errors.New("b")), fmt.Errorf("other: %w", At(1, 2))}
	for _, n := range append(numbers, noNames...) {
		list = append(list, n)
	}
	for _, under := range list {
		for _, why := range whys {
			err := Wrap(why, under)
			if err == nil || err.Error() != strings.Join([]string{why, under.Error()}, ": ") {
				t.Fatalf("Wrap(%q, %v): %v", why, under, err)
			}
			if errors.Unwrap(err) != under || !errors.Is(err, under) {
				t.Errorf("Wrap(%q, %v) doesn't wrap it", why, under)
			}
			if Kind(err) != Kind(under) {
				t.Errorf("Wrap(%q, %v) is of the kind %d", why, under, Kind(err))
			}
		}
	}
}

// P7.1: words ahead of words ahead.
func TestWrapTwice(t *testing.T) {
	err := Wrap("store", Wrap("piece", At(0x1f000, 7)))
	if words := err.Error(); words != "store: piece: page fault at 1f000, code 7" {
		t.Errorf("%q", words)
	}
	if words := Wrap("", Wrap("", GP(""))).Error(); words != ": : : general protection" {
		t.Errorf("%q", words)
	}
	if words := Wrap("a", fmt.Errorf("[%w]", Wrap("b: ", api.ErrNone))).Error(); words != "a: [b: : none]" {
		t.Errorf("%q", words)
	}
}

// P7.1: two errors that look alike are two; an error is the same one each time it is asked.
func TestApart(t *testing.T) {
	under := errors.New("x")
	for _, make := range []func() error{
		func() error { return At(1, 2) }, func() error { return GP("x") }, func() error { return Wrap("x", under) }} {
		one, other := make(), make()
		if one == other || one != one || one.Error() != other.Error() || one.Error() != one.Error() {
			t.Errorf("%v", one)
		}
	}
	one, other := At(1, 2), At(1, 2)
	var p *Page
	if !errors.As(one, &p) {
		t.Fatal("no Page")
	}
	p.Addr, p.Code = 3, 4
	if q, is := Of(other); !is || q != (Page{1, 2}) {
		t.Errorf("another fault has become %v", q)
	}
}

// P7.2: the Page that an error is, or wraps; it is the caller's own.
func TestOf(t *testing.T) {
	for _, addr := range addrs {
		for _, code := range codes {
			for _, err := range []error{At(addr, code), &Page{addr, code}, Wrap("x", At(addr, code)), Wrap("x", Wrap("y", &Page{addr, code}))} {
				p, is := Of(err)
				if !is || p != (Page{addr, code}) {
					t.Fatalf("Of(%v) = %v, %v", err, p, is)
				}
				words := err.Error()
				p.Addr, p.Code = p.Addr+1, p.Code+1
				if q, is := Of(err); !is || q != (Page{addr, code}) || err.Error() != words {
					t.Errorf("%s is %v later, %v", words, err, q)
				}
			}
		}
	}
}

// P7.2: of several Pages the first one.
func TestOfSeveral(t *testing.T) {
	for _, err := range []error{
		errors.Join(At(1, 2), At(3, 4)),
		errors.Join(api.ErrNone, At(1, 2), At(3, 4)),
		errors.Join(Wrap("x", Wrap("y", At(1, 2))), At(3, 4)),
		Wrap("x", errors.Join(GP("x"), errors.Join(errors.New("x"), At(1, 2)), At(3, 4))),
	} {
		if p, is := Of(err); !is || p != (Page{1, 2}) {
			t.Errorf("Of(%q) = %v, %v", err, p, is)
		}
	}
}

// P7.2: what is no Page, and wraps none, has none, whatever else it is.
func TestOfNone(t *testing.T) {
	list := []error{nil, GP("x"), GP("page fault at 1f000, code 7"), errors.New(""), errors.New("page fault at 1f000, code 7"), errors.Join(errors.New("x"), api.ErrFault), fmt.Errorf("%v", At(1, 2)), fmt.Errorf("x"), shut{}}
	for _, n := range append(numbers, noNames...) {
		list = append(list, n)
	}
	for _, under := range list {
		for _, err := range []error{under, Wrap("x", under), Wrap("x", Wrap("y", under))} {
			if p, is := Of(err); is || p != (Page{}) {
				t.Errorf("Of(%v) = %v, %v", err, p, is)
			}
		}
	}
}

// P7.2: each number, whether it has a name or not, by itself and wrapped; OK is one of them.
func TestKind(t *testing.T) {
	for i, n := range numbers {
		if int(n) != i {
			t.Errorf("the error %d is %d", i, n)
		}
	}
	for _, n := range append(numbers, noNames...) {
		for _, under := range around() {
			for _, times := range []int{0, 1, 2, 30} {
				if err, _ := wrapMany(under(n), times); Kind(err) != n {
					t.Errorf("Kind(%v) = %d, not %d", err, Kind(err), n)
				}
			}
		}
	}
}

// P7.2: nil is OK; what is no number, and wraps none, is ErrArg.
func TestKindOfNone(t *testing.T) {
	if k := Kind(nil); k != api.OK {
		t.Errorf("Kind(nil) = %d", k)
	}
	number := api.ErrNone
	for _, under := range []error{errors.New(""), errors.New("x"), errors.New("page fault"), fmt.Errorf("%v", api.ErrGP), errors.Join(errors.New("x"), errors.New("y")), &number, shut{}} {
		for _, err := range []error{under, Wrap("x", under), Wrap("", Wrap("y", under))} {
			if k := Kind(err); k != api.ErrArg {
				t.Errorf("Kind(%v) = %d", err, k)
			}
		}
	}
}

// P7.2: of several numbers the first one.
func TestKindOfSeveral(t *testing.T) {
	for _, c := range []struct {
		err  error
		want api.Errno
	}{
		{errors.Join(api.ErrNone, api.ErrThere), api.ErrNone},
		{errors.Join(api.ErrThere, api.ErrNone), api.ErrThere},
		{errors.Join(At(1, 2), GP("x")), api.ErrFault},
		{errors.Join(GP("x"), At(1, 2)), api.ErrGP},
		{errors.Join(errors.New("x"), Wrap("x", api.OK), api.ErrGP), api.OK},
		{errors.Join(Wrap("x", Wrap("y", api.Errno(99))), api.ErrGP), 99},
		{Wrap("x", errors.Join(errors.Join(errors.New("x")), fmt.Errorf("%w", api.ErrNoMem), At(1, 2))), api.ErrNoMem},
	} {
		if k := Kind(c.err); k != c.want {
			t.Errorf("Kind(%q) = %d, not %d", c.err, k, c.want)
		}
	}
}

// P7.3: whatever is wrapped around a fault, and how many times, it is found, and so are its kind and its words.
func TestFound(t *testing.T) {
	for _, times := range []int{0, 1, 2, 3, 14, 15, 100, 1000} {
		for _, under := range around() {
			for _, page := range []Page{{}, {1, 2}, {0x1f000, 7}, {math.MaxUint64, math.MinInt}} {
				for _, fault := range []error{At(page.Addr, page.Code), &page} {
					inner := under(fault)
					err, ahead := wrapMany(inner, times)
					if p, is := Of(err); !is || p != page {
						t.Fatalf("%v in %q: %v, %v", page, err, p, is)
					}
					var p *Page
					if !errors.As(err, &p) || error(p) != fault || !errors.Is(err, api.ErrFault) || !errors.Is(err, fault) {
						t.Errorf("%v in %q is lost", page, err)
					}
					if k := Kind(err); k != api.ErrFault {
						t.Errorf("Kind(%q) = %d", err, k)
					}
					if words := err.Error(); words != ahead+inner.Error() {
						t.Errorf("%q, not %q", words, ahead+inner.Error())
					}
				}
			}
			if err, _ := wrapMany(under(GP("x")), times); Kind(err) != api.ErrGP || !errors.Is(err, api.ErrGP) || errors.Is(err, api.ErrFault) {
				t.Errorf("%q isn't of ErrGP alone", err)
			}
		}
	}
}

// P7.3: as deep as the document goes.
func TestDeep(t *testing.T) {
	const times = 1 << 16
	err, ahead := wrapMany(At(0xabc, 3), times)
	if p, is := Of(err); !is || p != (Page{0xabc, 3}) || Kind(err) != api.ErrFault {
		t.Errorf("%v, %v, %d", p, is, Kind(err))
	}
	if err.Error() != ahead+"page fault at abc, code 3" {
		t.Error("its words")
	}
	err, _ = wrapMany(errors.New("x"), times)
	if p, is := Of(err); is || p != (Page{}) || Kind(err) != api.ErrArg {
		t.Errorf("%v, %v, %d", p, is, Kind(err))
	}
}

// shut wraps nothing, though it has the method; turned tells by its own method As that it is a Page or a number.
type shut struct{}

func (shut) Error() string { return "shut" }
func (shut) Unwrap() error { return nil }

type turned struct {
	page   *Page
	number api.Errno
}

func (turned) Error() string { return "turned" }

func (e turned) As(target any) bool {
	switch x := target.(type) {
	case **Page:
		*x = e.page
		return true
	case *api.Errno:
		*x = e.number
		return true
	}
	return false
}

// P7.2: what an error's own method tells errors.As is found, too; a Page that is nil is none.
func TestOwnMethod(t *testing.T) {
	for _, wrap := range around() {
		err := wrap(turned{&Page{5, 6}, 77})
		if p, is := Of(err); !is || p != (Page{5, 6}) || Kind(err) != 77 {
			t.Errorf("%q: %v, %v, %d", err, p, is, Kind(err))
		}
		if p, is := Of(wrap(turned{})); is || p != (Page{}) {
			t.Errorf("%v, %v", p, is)
		}
	}
}

// P1: a Page that is nil is no fault, in no wrapping.
func TestNilPage(t *testing.T) {
	var none *Page
	if words, under := none.Error(), none.Unwrap(); words != "" || under != nil {
		t.Errorf("%q, %v", words, under)
	}
	for _, err := range []error{none, Wrap("x", none), Wrap("x", Wrap("y", none)), fmt.Errorf("%w", none)} {
		if p, is := Of(err); is || p != (Page{}) || Kind(err) != api.ErrArg || errors.Is(err, api.ErrFault) {
			t.Errorf("%v, %v, %d", p, is, Kind(err))
		}
	}
	if words := Wrap("x", Wrap("y", none)).Error(); words != "x: y: " {
		t.Errorf("%q", words)
	}
}

// wild is an error all of whose methods panic, half one that panics when it has told already what it is.
type wild struct{ of any }

func (w wild) Error() string { panic(w.of) }
func (w wild) Unwrap() error { panic(w.of) }
func (w wild) Is(error) bool { panic(w.of) }

type half struct{}

func (half) Error() string { return "half" }

func (half) As(target any) bool {
	turned{&Page{5, 6}, 77}.As(target)
	panic("half")
}

// P1: errors whose own methods panic, nil pointers among them, are asked without a panic; nothing is found in them.
func TestWild(t *testing.T) {
	for _, under := range []error{wild{"x"}, wild{errors.New("x")}, wild{nil}, (*wild)(nil), (*api.Errno)(nil), half{}, (*half)(nil)} {
		for _, times := range []int{0, 1, 2, 50} {
			err, ahead := wrapMany(under, times)
			if p, is := Of(err); is || p != (Page{}) {
				t.Errorf("Of(%T) = %v, %v", under, p, is)
			}
			if k := Kind(err); k != api.ErrArg {
				t.Errorf("Kind(%T) = %d", under, k)
			}
			if times > 0 && !strings.HasPrefix(err.Error(), ahead) {
				t.Errorf("%T: %q", under, err.Error())
			}
		}
	}
	if words := Wrap("a", Wrap("b", wild{"x"})).Error(); words != "a: b: " {
		t.Errorf("%q", words)
	}
}
