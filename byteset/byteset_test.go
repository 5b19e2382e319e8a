package byteset

import (
	"slices"
	"testing"

	"vetch/api"
)

// model is a set told in another way: one bool for each byte.
type model [256]bool

// modelOf returns the bytes for which a function is true.
func modelOf(has func(c int) bool) model {
	var m model
	for c := range m {
		m[c] = has(c)
	}
	return m
}

// set returns the set of a model, by the definition of api.Set.
func (m model) set() api.Set {
	var s api.Set
	for c, ok := range m {
		if ok {
			s[c/64] += uint64(1) << (c % 64)
		}
	}
	return s
}

func (m model) bytes() []byte {
	var l []byte
	for c, ok := range m {
		if ok {
			l = append(l, byte(c))
		}
	}
	return l
}

// runs looks for a run from each byte that begins one.
func (m model) runs() [][2]byte {
	var l [][2]byte
	for lo := range m {
		if !m[lo] || lo > 0 && m[lo-1] {
			continue
		}
		hi := lo
		for hi < 255 && m[hi+1] {
			hi++
		}
		l = append(l, [2]byte{byte(lo), byte(hi)})
	}
	return l
}

// models returns sets of different shapes: the empty and the full one, each single byte, ranges at the borders of elements, and scattered bytes.
func models() []model {
	l := []model{
		modelOf(func(c int) bool { return false }),
		modelOf(func(c int) bool { return true }),
		modelOf(func(c int) bool { return c%2 == 0 }),
		modelOf(func(c int) bool { return c%2 == 1 }),
		modelOf(func(c int) bool { return c%64 == 0 }),
		modelOf(func(c int) bool { return c%64 == 63 }),
		modelOf(func(c int) bool { return c%64 == 0 || c%64 == 63 }),
		modelOf(func(c int) bool { return c == 0 || c == 63 || c == 64 || c == 255 }),
	}
	for b := range 256 {
		l = append(l, modelOf(func(c int) bool { return c == b }))
	}
	ends := []int{0, 1, 62, 63, 64, 65, 126, 127, 128, 129, 190, 191, 192, 193, 254, 255}
	for _, lo := range ends {
		for _, hi := range ends {
			l = append(l, modelOf(func(c int) bool { return lo <= c && c <= hi }), modelOf(func(c int) bool { return c < lo || hi < c }))
		}
	}
	seed := uint32(1)
	for k := range 200 {
		l = append(l, modelOf(func(c int) bool {
			seed = seed*1664525 + 1013904223
			return int(seed>>24)%(k%7+2) == 0
		}))
	}
	return l
}

// P1.1: Has reports the bits of the elements.
func TestHas(t *testing.T) {
	for _, m := range models() {
		s := m.set()
		for c, want := range m {
			if Has(s, byte(c)) != want {
				t.Fatalf("Has(%x, %d): not %t", s, c, want)
			}
		}
	}
	s := api.Set{1 | 1<<63, 1, 0, 1 << 63}
	for _, x := range []struct {
		c    byte
		want bool
	}{{0, true}, {1, false}, {62, false}, {63, true}, {64, true}, {65, false}, {127, false}, {128, false}, {192, false}, {254, false}, {255, true}} {
		if Has(s, x.c) != x.want {
			t.Errorf("Has(%x, %d): not %t", s, x.c, x.want)
		}
	}
}

// P1.1: Of takes bytes in any order, also several times.
func TestOf(t *testing.T) {
	for _, x := range []struct {
		l    []byte
		want api.Set
	}{
		{nil, api.Set{}},
		{[]byte{}, api.Set{}},
		{[]byte{0}, api.Set{1}},
		{[]byte{63}, api.Set{1 << 63}},
		{[]byte{64}, api.Set{0, 1}},
		{[]byte{255}, api.Set{0, 0, 0, 1 << 63}},
		{[]byte{255, 0, 64, 63}, api.Set{1 | 1<<63, 1, 0, 1 << 63}},
		{[]byte{7, 7, 7}, api.Set{1 << 7}},
		{[]byte{128, 3, 128, 3}, api.Set{1 << 3, 0, 1}},
	} {
		given := slices.Clone(x.l)
		if got := Of(x.l...); got != x.want {
			t.Errorf("Of(%d) is %x, not %x", x.l, got, x.want)
		}
		if !slices.Equal(given, x.l) {
			t.Errorf("Of(%d) changed its argument to %d", given, x.l)
		}
	}
	for _, m := range models() {
		l := m.bytes()
		slices.Reverse(l)
		if got := Of(append(l, l...)...); got != m.set() {
			t.Fatalf("Of(%d) is %x", l, got)
		}
	}
}

// P1.1: Range has both ends, and nothing if they are in the wrong order.
func TestRange(t *testing.T) {
	for lo := range 256 {
		for hi := range 256 {
			want := modelOf(func(c int) bool { return lo <= c && c <= hi }).set()
			if got := Range(byte(lo), byte(hi)); got != want {
				t.Fatalf("Range(%d, %d) is %x, not %x", lo, hi, got, want)
			}
		}
	}
	for _, x := range []struct {
		lo, hi byte
		want   api.Set
	}{
		{0, 0, api.Set{1}},
		{63, 64, api.Set{1 << 63, 1}},
		{64, 63, api.Set{}},
		{255, 255, api.Set{0, 0, 0, 1 << 63}},
		{255, 0, api.Set{}},
		{64, 127, api.Set{0, ^uint64(0)}},
	} {
		if got := Range(x.lo, x.hi); got != x.want {
			t.Errorf("Range(%d, %d) is %x, not %x", x.lo, x.hi, got, x.want)
		}
	}
}

// P1.1: Full has every byte.
func TestFull(t *testing.T) {
	all := ^uint64(0)
	if got := Full(); got != (api.Set{all, all, all, all}) {
		t.Errorf("Full() is %x", got)
	}
	if Range(0, 255) != Full() {
		t.Error("the range of all bytes is not full")
	}
}

// P1.2: Union, Meet and Not go by the members.
func TestCombine(t *testing.T) {
	l := models()
	for i, a := range l {
		if got, want := Not(a.set()), modelOf(func(c int) bool { return !a[c] }).set(); got != want {
			t.Fatalf("Not(%x) is %x", a.set(), got)
		}
		for _, j := range []int{0, 1, i, (i + 1) % len(l), (i*7 + 3) % len(l), (i*31 + 100) % len(l)} {
			b := l[j]
			if got, want := Union(a.set(), b.set()), modelOf(func(c int) bool { return a[c] || b[c] }).set(); got != want {
				t.Fatalf("Union(%x, %x) is %x", a.set(), b.set(), got)
			}
			if got, want := Meet(a.set(), b.set()), modelOf(func(c int) bool { return a[c] && b[c] }).set(); got != want {
				t.Fatalf("Meet(%x, %x) is %x", a.set(), b.set(), got)
			}
		}
	}
}

// P1.2: the smallest cases, written out.
func TestCombineByHand(t *testing.T) {
	a, b := Of('a', 'b', 255), Of('b', 'c', 0)
	if got := Union(a, b); got != Of(0, 'a', 'b', 'c', 255) {
		t.Errorf("Union is %d", Bytes(got))
	}
	if got := Meet(a, b); got != Of('b') {
		t.Errorf("Meet is %d", Bytes(got))
	}
	if got := Not(Range(64, 254)); got != Union(Range(0, 63), Of(255)) {
		t.Errorf("Not is %d", Bytes(got))
	}
	if Not(api.Set{}) != Full() || Not(Full()) != (api.Set{}) {
		t.Error("Not of the empty or of the full set")
	}
}

// P1.3: Count and Bytes.
func TestMembers(t *testing.T) {
	for _, m := range models() {
		s, want := m.set(), m.bytes()
		if got := Count(s); got != len(want) {
			t.Fatalf("Count(%x) is %d, not %d", s, got, len(want))
		}
		if got := Bytes(s); !slices.Equal(got, want) {
			t.Fatalf("Bytes(%x) is %d, not %d", s, got, want)
		}
	}
	if Count(api.Set{}) != 0 || len(Bytes(api.Set{})) != 0 {
		t.Error("the empty set has members")
	}
	if l := Bytes(Full()); Count(Full()) != 256 || len(l) != 256 || l[0] != 0 || l[255] != 255 {
		t.Error("the full set has other members")
	}
	if got := Bytes(Of(255, 64, 0, 63)); string(got) != "\x00?@\xff" {
		t.Errorf("Bytes is %d", got)
	}
}

// P1.3: the members come in order, and only as long as they are asked for.
func TestMembersStop(t *testing.T) {
	var l []byte
	for c := range members(Of(200, 63, 64, 5)) {
		l = append(l, c)
		if c == 64 {
			break
		}
	}
	if string(l) != "\x05?@" {
		t.Errorf("the members are %d", l)
	}
}

// P1.4: Runs of sets of all shapes.
func TestRuns(t *testing.T) {
	for _, m := range models() {
		if got, want := Runs(m.set()), m.runs(); !slices.Equal(got, want) {
			t.Fatalf("Runs(%x) is %d, not %d", m.set(), got, want)
		}
	}
}

// P1.4: Runs at the borders between elements, and at the first and the last byte.
func TestRunsAtBorders(t *testing.T) {
	for _, x := range []struct {
		s    api.Set
		want [][2]byte
	}{
		{api.Set{}, nil},
		{Full(), [][2]byte{{0, 255}}},
		{Of(0), [][2]byte{{0, 0}}},
		{Of(255), [][2]byte{{255, 255}}},
		{Of(0, 255), [][2]byte{{0, 0}, {255, 255}}},
		{Of(63, 64), [][2]byte{{63, 64}}},
		{Of(63, 65), [][2]byte{{63, 63}, {65, 65}}},
		{Of(62, 64), [][2]byte{{62, 62}, {64, 64}}},
		{Range(0, 63), [][2]byte{{0, 63}}},
		{Range(64, 127), [][2]byte{{64, 127}}},
		{Range(60, 130), [][2]byte{{60, 130}}},
		{Range(128, 255), [][2]byte{{128, 255}}},
		{Union(Range(10, 63), Range(65, 127)), [][2]byte{{10, 63}, {65, 127}}},
		{Union(Range(64, 70), Range(120, 127)), [][2]byte{{64, 70}, {120, 127}}},
		{Not(Of(191)), [][2]byte{{0, 190}, {192, 255}}},
		{Not(Of(192)), [][2]byte{{0, 191}, {193, 255}}},
		{Of('b', 'a', 'c', 'x'), [][2]byte{{'a', 'c'}, {'x', 'x'}}},
	} {
		if got := Runs(x.s); !slices.Equal(got, x.want) {
			t.Errorf("Runs(%x) is %d, not %d", x.s, got, x.want)
		}
	}
}

// P1.5: a set is the union of its runs, and the set of its bytes; Not is its own inverse.
func TestInverses(t *testing.T) {
	for _, m := range models() {
		s := m.set()
		var union api.Set
		for _, r := range Runs(s) {
			union = Union(union, Range(r[0], r[1]))
		}
		if union != s {
			t.Fatalf("the union of the runs of %x is %x", s, union)
		}
		if got := Of(Bytes(s)...); got != s {
			t.Fatalf("the set of the bytes of %x is %x", s, got)
		}
		if got := Not(Not(s)); got != s {
			t.Fatalf("Not of Not of %x is %x", s, got)
		}
	}
}

// Rule 5: results share no memory with each other.
func TestResultsAreNew(t *testing.T) {
	s := Of(1, 2, 9)
	Bytes(s)[0], Runs(s)[0] = 77, [2]byte{77, 77}
	if string(Bytes(s)) != "\x01\x02\x09" || !slices.Equal(Runs(s), [][2]byte{{1, 2}, {9, 9}}) {
		t.Error("a result was changed through an earlier one")
	}
}
