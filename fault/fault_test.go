package fault

import (
	"errors"
	"fmt"
	"math"
	"slices"
	"testing"

	"vetch/api"
)

// foreign is an error of another package with a method Unwrap of its own, whose result may be nil.
type foreign struct {
	text string
	err  error
}

func (f foreign) Error() string { return f.text }
func (f foreign) Unwrap() error { return f.err }

// list is an error that cannot be compared.
type list []string

func (l list) Error() string { return "list" }

// angry is an error whose Unwrap panics.
type angry struct{}

func (angry) Error() string { return "angry" }
func (angry) Unwrap() error { panic("angry") }

var plain = errors.New("plain")

// codes are all codes, and numbers that are none.
var codes = []api.Code{
	api.Syntax, api.Duplicate, api.Undefined, api.TooLarge, api.TooDeep, api.NotWellFormed, api.Steps, api.Full, api.Overflow, api.Wrong,
	0, 11, -1, math.MaxInt, math.MinInt,
}

var offsets = []int{0, 1, 7, -1, math.MaxInt, math.MinInt}

// P2.1: New returns the fault itself.
func TestNew(t *testing.T) {
	for _, c := range codes {
		for _, at := range offsets {
			want := api.Fault{Code: c, At: at}
			if got := New(c, at); got != error(want) {
				t.Errorf("New(%d, %d) is %#v", c, at, got)
			}
		}
	}
	if got := New(api.Full, 3).Error(); got != "error 8" {
		t.Errorf("the text is %q", got)
	}
}

// P2.2: the text and the Unwrap of what Within makes.
func TestWithin(t *testing.T) {
	for _, x := range []struct {
		rule string
		err  error
		want string
	}{
		{"a", New(api.Syntax, 7), "rule a: error 1"},
		{"a", api.Wrong, "rule a: error 10"},
		{"", api.Duplicate, "rule : error 2"},
		{"a b: c", plain, "rule a b: c: plain"},
		{"\xff\n", errors.New(""), "rule \xff\n: "},
		{"b", Within("a", New(api.Steps, 0)), "rule b: rule a: error 7"},
		{"", Within("", plain), "rule : rule : plain"},
		{"a", foreign{"other", api.Full}, "rule a: other"},
		{"a", foreign{"", nil}, "rule a: "},
	} {
		got := Within(x.rule, x.err)
		if got == nil {
			t.Errorf("Within(%q, %q) is nil", x.rule, x.err)
			continue
		}
		if got.Error() != x.want {
			t.Errorf("the text is %q, not %q", got.Error(), x.want)
		}
		if w := errors.Unwrap(got); w != x.err {
			t.Errorf("Unwrap of %q is %v", x.want, w)
		}
	}
}

// P2.2: no error stays no error, whatever the name; a nil pointer in an error is an error.
func TestWithinNil(t *testing.T) {
	for _, rule := range []string{"", "a"} {
		if got := Within(rule, nil); got != nil {
			t.Errorf("Within(%q, nil) is %v", rule, got)
		}
	}
	if got := Within("a", Within("b", nil)); got != nil {
		t.Errorf("Within of Within of nil is %v", got)
	}
	if Within("a", (*api.Fault)(nil)) == nil {
		t.Error("a nil pointer in an error was taken for no error")
	}
}

// told is what an error tells.
type told struct {
	code    api.Code
	hasCode bool
	at      int
	hasAt   bool
	rule    string
	hasRule bool
}

func tell(err error) told {
	var x told
	x.code, x.hasCode = Code(err)
	x.at, x.hasAt = At(err)
	x.rule, x.hasRule = Rule(err)
	return x
}

// P2.3: each of the three is the first one in the chain, apart from the others.
func TestTold(t *testing.T) {
	pointer := &api.Fault{Code: api.Full, At: 4}
	for _, x := range []struct {
		name string
		err  error
		want told
	}{
		{"nil", nil, told{}},
		{"of another package", plain, told{}},
		{"of another package, wrapping nil", foreign{"f", nil}, told{}},
		{"that cannot be compared", list{"x"}, told{}},
		{"code", api.Wrong, told{code: api.Wrong, hasCode: true}},
		{"code 0", api.Code(0), told{hasCode: true}},
		{"code of no name", api.Code(-5), told{code: -5, hasCode: true}},
		{"fault", New(api.Syntax, 7), told{code: api.Syntax, hasCode: true, at: 7, hasAt: true}},
		{"zero fault", New(0, 0), told{hasCode: true, hasAt: true}},
		{"negative offset", New(api.Full, -3), told{code: api.Full, hasCode: true, at: -3, hasAt: true}},
		{"pointer to a fault, which is no fault", pointer, told{code: api.Full, hasCode: true}},
		{"rule", Within("a", plain), told{rule: "a", hasRule: true}},
		{"rule of empty name", Within("", plain), told{hasRule: true}},
		{"rule and code", Within("a", api.Steps), told{code: api.Steps, hasCode: true, rule: "a", hasRule: true}},
		{"rule and fault", Within("a", New(api.Syntax, 7)), told{api.Syntax, true, 7, true, "a", true}},
		{"rules", Within("c", Within("b", Within("a", New(api.Syntax, 7)))), told{api.Syntax, true, 7, true, "c", true}},
		{"rules, the first of empty name", Within("", Within("a", New(api.Syntax, 7))), told{api.Syntax, true, 7, true, "", true}},
		{"rules, the second of empty name", Within("a", Within("", New(api.Syntax, 7))), told{api.Syntax, true, 7, true, "a", true}},
		{"foreign code", foreign{"f", api.Full}, told{code: api.Full, hasCode: true}},
		{"foreign fault", foreign{"f", foreign{"g", New(api.Full, 2)}}, told{code: api.Full, hasCode: true, at: 2, hasAt: true}},
		{"foreign rule", foreign{"f", Within("a", foreign{"g", New(api.Full, 2)})}, told{api.Full, true, 2, true, "a", true}},
		{"wrapped by fmt", fmt.Errorf("x: %w", Within("b", fmt.Errorf("y: %w", New(api.Wrong, 1)))), told{api.Wrong, true, 1, true, "b", true}},
		{"nil pointer to a fault", (*api.Fault)(nil), told{}},
		{"Unwrap that panics", angry{}, told{}},
		{"rule of Unwrap that panics", Within("a", angry{}), told{rule: "a", hasRule: true}},
	} {
		if got := tell(x.err); got != x.want {
			t.Errorf("%s: %+v, not %+v", x.name, got, x.want)
		}
	}
}

// P2.3: all codes and offsets are told, with and without a rule.
func TestToldOfNew(t *testing.T) {
	for _, c := range codes {
		for _, at := range offsets {
			want := told{code: c, hasCode: true, at: at, hasAt: true}
			if got := tell(New(c, at)); got != want {
				t.Errorf("New(%d, %d): %+v", c, at, got)
			}
			want.rule, want.hasRule = "r", true
			if got := tell(Within("r", New(c, at))); got != want {
				t.Errorf("Within of New(%d, %d): %+v", c, at, got)
			}
		}
	}
}

// P2.3: a chain is followed to its end.
func TestLongChain(t *testing.T) {
	err := New(api.TooDeep, 9)
	for range 1000 {
		err = foreign{"f", Within("inner", err)}
	}
	want := told{api.TooDeep, true, 9, true, "outer", true}
	if got := tell(Within("outer", err)); got != want {
		t.Errorf("%+v", got)
	}
}

// P2.4: the least offset, the first of equals, the first error without an offset, or nil.
func TestFirst(t *testing.T) {
	at := func(n int) error { return New(api.Syntax, n) }
	bare, other := error(api.Full), foreign{"f", nil}
	wrapped := Within("a", at(3))
	low := foreign{"low", Within("b", at(-4))}
	left, right := Within("left", at(5)), Within("right", at(5))
	for _, x := range []struct {
		name string
		l    []error
		want int
	}{
		{"one without an offset", []error{bare}, 0},
		{"one with an offset", []error{at(3)}, 0},
		{"nil before", []error{nil, nil, at(3)}, 2},
		{"nil after", []error{at(3), nil}, 0},
		{"ascending", []error{at(1), at(2), at(3)}, 0},
		{"descending", []error{at(3), at(2), at(1)}, 2},
		{"least in the middle", []error{at(3), at(1), at(2)}, 1},
		{"offset 0 after another", []error{at(1), at(0)}, 1},
		{"negative offsets", []error{at(0), at(-1), at(-2), at(-1)}, 2},
		{"extreme offsets", []error{at(math.MaxInt), at(math.MinInt), at(0)}, 1},
		{"greatest offset alone", []error{nil, at(math.MaxInt)}, 1},
		{"equal offsets", []error{left, right}, 0},
		{"equal offsets, the other way round", []error{right, left}, 0},
		{"equal offsets after a greater one", []error{at(6), right, left, at(7)}, 1},
		{"wrapped", []error{at(4), wrapped, at(5)}, 1},
		{"wrapped by another package", []error{wrapped, at(-3), low, nil}, 2},
		{"no offset before", []error{bare, other, at(9)}, 2},
		{"no offset after", []error{at(9), bare, other}, 0},
		{"no offset around", []error{other, at(9), bare, at(8), plain}, 3},
		{"no offset at all", []error{nil, other, bare}, 1},
		{"no offset at all, wrapped", []error{nil, Within("a", bare), bare}, 1},
		{"no code at all", []error{plain, bare}, 0},
		{"that cannot be compared", []error{nil, list{"x"}, list{"y"}, at(2)}, 3},
		{"nil pointer", []error{nil, (*api.Fault)(nil), bare}, 1},
		{"Unwrap that panics", []error{angry{}, bare}, 0},
	} {
		t.Run(x.name, func(t *testing.T) {
			// The place of an error is marked by its text, as some errors cannot be compared.
			l := make([]error, len(x.l))
			for i, err := range x.l {
				if err != nil {
					l[i] = foreign{fmt.Sprint(i), err}
				}
			}
			if got := First(l...); got == nil || got.Error() != fmt.Sprint(x.want) {
				t.Errorf("got %v, not that at %d", got, x.want)
			}
		})
	}
}

// P2.4: without any error there is none.
func TestFirstNil(t *testing.T) {
	for _, l := range [][]error{nil, {}, {nil}, {nil, nil, nil}} {
		if got := First(l...); got != nil {
			t.Errorf("First of %d times nil is %v", len(l), got)
		}
	}
}

// P2.4: the error itself is returned, and the arguments stay as they are.
func TestFirstItself(t *testing.T) {
	wrapped := Within("a", New(api.Syntax, 1))
	l := []error{plain, New(api.Syntax, 2), wrapped, nil}
	given := slices.Clone(l)
	if got := First(l...); got != wrapped {
		t.Errorf("got %v", got)
	}
	if !slices.Equal(l, given) {
		t.Errorf("%v has become %v", given, l)
	}
}

// P2.5: the names of all codes, and of numbers that are none.
func TestName(t *testing.T) {
	for c, want := range map[api.Code]string{
		api.Syntax:        "syntax",
		api.Duplicate:     "duplicate",
		api.Undefined:     "undefined",
		api.TooLarge:      "too large",
		api.TooDeep:       "too deep",
		api.NotWellFormed: "not well-formed",
		api.Steps:         "steps",
		api.Full:          "full",
		api.Overflow:      "overflow",
		api.Wrong:         "wrong",
		0:                 "",
		11:                "",
		12:                "",
		-1:                "",
		-10:               "",
		256 + 1:           "",
		1<<32 + 1:         "",
		math.MaxInt:       "",
		math.MinInt:       "",
	} {
		if got := Name(c); got != want {
			t.Errorf("Name(%d) is %q, not %q", c, got, want)
		}
	}
}

// P2.6: errors.Is finds what it finds in what was wrapped, and nothing else.
func TestIs(t *testing.T) {
	inner := Within("inner", list{"x"})
	for _, err := range []error{plain, api.Full, New(api.Full, 3), foreign{"f", plain}, foreign{"f", New(api.Full, 3)}, list{"x"}, inner} {
		for _, target := range []error{nil, plain, api.Full, api.Syntax, New(api.Full, 3), New(api.Full, 4), New(api.Syntax, 3), errors.New("plain"), inner} {
			want := errors.Is(err, target)
			for _, w := range []error{Within("a", err), Within("", err), Within("b", Within("a", err)), foreign{"g", Within("a", err)}} {
				if got := errors.Is(w, target); got != want {
					t.Errorf("errors.Is(%q, %v) is %t", w, target, got)
				}
			}
		}
	}
}

// P2.6: errors.As finds what it finds in what was wrapped, and nothing else.
func TestAs(t *testing.T) {
	for _, err := range []error{plain, api.Full, New(api.Full, 3), foreign{"f", plain}, foreign{"f", New(api.Full, 3)}, list{"x"}} {
		for _, w := range []error{Within("a", err), Within("", err), Within("b", Within("a", err)), foreign{"f", Within("a", err)}} {
			sameAs[api.Code](t, err, w)
			sameAs[api.Fault](t, err, w)
			sameAs[*api.Fault](t, err, w)
		}
		sameAs[foreign](t, err, Within("a", err))
		sameAs[list](t, err, Within("a", Within("b", err)))
	}
}

// sameAs checks that errors.As finds in two errors the same of a type.
func sameAs[T error](t *testing.T, err, wrapped error) {
	t.Helper()
	var want, got T
	ok := errors.As(err, &want)
	if errors.As(wrapped, &got) != ok || fmt.Sprintf("%#v", got) != fmt.Sprintf("%#v", want) {
		t.Errorf("errors.As finds %#v in %q, not %#v", got, wrapped, want)
	}
}
