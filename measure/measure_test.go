package measure

import (
	"container/heap"
	"fmt"
	"math"
	"math/rand/v2"
	"slices"
	"testing"

	"vetch/api"
	"vetch/build"
	"vetch/gram"
)

// Expressions are told here as items in prefix order, of which grammars are built (layer 6). The models read the items, and not the nodes.

type items []build.Item

var (
	empty = items{{Op: api.Empty}}
	full  = api.Set{math.MaxUint64, math.MaxUint64, math.MaxUint64, math.MaxUint64}
)

// class returns a class with the bytes of some ranges, each of which is told by its first and its last byte.
func class(ranges ...byte) items { return ofSet(set(ranges...)) }

func ofSet(s api.Set) items { return items{{Op: api.Class, Set: s}} }

func char(c byte) items { return class(c, c) }

func call(rule int) items { return items{{Op: api.Call, Rule: rule}} }

func with(op int, kids ...items) items {
	return append(items{{Op: op, Kids: len(kids)}}, slices.Concat(kids...)...)
}

// set returns the set of the bytes of some ranges.
func set(ranges ...byte) api.Set {
	var s api.Set
	for i := 0; i < len(ranges); i += 2 {
		for c := int(ranges[i]); c <= int(ranges[i+1]); c++ {
			s[c/64] |= 1 << (c % 64)
		}
	}
	return s
}

// grammar returns the valid grammar of rules with some expressions.
func grammar(t *testing.T, roots ...items) api.Grammar {
	t.Helper()
	var rules []build.Rule
	for r, root := range roots {
		rules = append(rules, build.Rule{Name: fmt.Sprint("r", r), Items: root})
	}
	g, ok := build.Of(rules)
	if err := gram.Check(g); !ok || err != nil {
		t.Fatalf("%v is no valid grammar: %v", roots, err)
	}
	return g
}

// chain returns an expression of a depth, whose nodes above the innermost one have a kid each.
func chain(depth int) items {
	var l items
	for i := range depth - 1 {
		l = append(l, build.Item{Op: api.Star + i%5, Kids: 1})
	}
	return append(l, char('x')...)
}

// wide returns a choice of so many kids.
func wide(kids int) items { return with(api.Choice, slices.Repeat([]items{empty}, kids)...) }

// expressionOf returns an expression of at most a depth, with calls of so many rules, whose parts are chosen by a source of numbers.
func expressionOf(r *rand.Rand, depth, rules int) items {
	op := r.IntN(10)
	if depth == 1 {
		op = r.IntN(3)
	}
	var kids []items
	switch op {
	case api.Empty:
		return empty
	case api.Class:
		from := byte(r.IntN(256))
		return class(from, from+byte(r.IntN(9)), byte(r.IntN(256)), byte(r.IntN(256)))
	case api.Call:
		return call(r.IntN(rules))
	case api.Seq, api.Choice:
		kids = make([]items, 2+r.IntN(3))
	default:
		kids = make([]items, 1)
	}
	for i := range kids {
		kids[i] = expressionOf(r, depth-1, rules)
	}
	return with(op, kids...)
}

// samples returns the expressions of valid grammars: of one and of several rules, with every Op, at the limits, and many others.
func samples() [][]items {
	a := char('a')
	l := [][]items{
		{with(api.Choice, with(api.Seq, a, call(0)), empty)},
		{call(2), call(1), call(0)},
		{with(api.Seq, call(1), call(1)), with(api.And, with(api.Not, call(0)))},
		{chain(api.MaxDepth)},
		{empty, with(api.Seq, empty, chain(api.MaxDepth-1)), chain(api.MaxDepth)},
		{wide(api.MaxNodes - 1)},
		slices.Repeat([]items{call(api.MaxRules - 1)}, api.MaxRules),
		append(slices.Repeat([]items{empty}, api.MaxRules-1), wide(api.MaxNodes-api.MaxRules)),
	}
	for _, leaf := range []items{empty, a, class(), ofSet(full), call(0)} {
		l = append(l, []items{leaf}, []items{a, leaf, leaf})
		for op := api.Star; op <= api.Not; op++ {
			l = append(l, []items{with(op, leaf)}, []items{empty, with(op, with(op, leaf)), a})
		}
		for _, op := range []int{api.Seq, api.Choice} {
			l = append(l, []items{with(op, leaf, leaf)}, []items{with(op, a, leaf, empty), leaf})
		}
	}
	r := rand.New(rand.NewPCG(7, 7))
	for range 500 {
		roots := make([]items, 1+r.IntN(6))
		for i := range roots {
			roots[i] = expressionOf(r, 1+r.IntN(4), len(roots))
		}
		l = append(l, roots)
	}
	return l
}

// sizesOf is the model of Of.
func sizesOf(roots []items) Sizes {
	s := Sizes{Rules: len(roots)}
	var depth func(l items) (int, items)
	depth = func(l items) (int, items) {
		deepest, rest := 0, l[1:]
		for range l[0].Kids {
			var of int
			of, rest = depth(rest)
			deepest = max(deepest, of)
		}
		return deepest + 1, rest
	}
	for _, root := range roots {
		of, _ := depth(root)
		s.Depth = max(s.Depth, of)
		for _, item := range root {
			s.Nodes++
			s.Ops[item.Op]++
			if item.Kids == 0 {
				s.Leaves++
			}
		}
	}
	return s
}

// sets returns the sets of all classes.
func sets(roots []items) []api.Set {
	var l []api.Set
	for _, item := range slices.Concat(roots...) {
		if item.Op == api.Class {
			l = append(l, item.Set)
		}
	}
	return l
}

func has(s api.Set, c int) bool { return s[c/64]&(1<<(c%64)) != 0 }

// bytesOf is the model of Bytes.
func bytesOf(roots []items) api.Set {
	var s api.Set
	for c := range 256 {
		if slices.ContainsFunc(sets(roots), func(x api.Set) bool { return has(x, c) }) {
			s[c/64] |= 1 << (c % 64)
		}
	}
	return s
}

// runsOf is the model of Runs: a run goes on as long as no class tells its next byte from its last one.
func runsOf(roots []items) [][2]byte {
	var l [][2]byte
	first := 0
	for c := range 256 {
		if c == 255 || slices.ContainsFunc(sets(roots), func(x api.Set) bool { return has(x, c) != has(x, c+1) }) {
			l = append(l, [2]byte{byte(first), byte(c)})
			first = c + 1
		}
	}
	return l
}

// callersOf is the model of Callers: it goes through the items as the nodes are numbered.
func callersOf(roots []items, rule int) []int {
	var l []int
	number := 0
	var walk func(l items) items
	walk = func(x items) items {
		rest := x[1:]
		for range x[0].Kids {
			rest = walk(rest)
		}
		if x[0].Op == api.Call && x[0].Rule == rule {
			l = append(l, number)
		}
		number++
		return rest
	}
	for _, root := range roots {
		walk(root)
	}
	return l
}

// reachOf is the model of Reach: it looks for calls in rules that are reached until there are no new ones.
func reachOf(roots []items, rule int) []int {
	reached := map[int]bool{}
	if 0 <= rule && rule < len(roots) {
		reached[rule] = true
	}
	for before := -1; before < len(reached); {
		before = len(reached)
		for r, root := range roots {
			for _, item := range root {
				if reached[r] && item.Op == api.Call {
					reached[item.Rule] = true
				}
			}
		}
	}
	var l []int
	for r := range roots {
		if reached[r] {
			l = append(l, r)
		}
	}
	return l
}

// few returns the indices of some rules, and of some that there are not.
func few(rules int) []int {
	l := []int{0, 1, 2, rules / 2, rules - 1, rules, rules + 1, -1, math.MinInt, math.MaxInt}
	slices.Sort(l)
	return slices.Compact(l)
}

// P7.1: the sizes of all samples.
func TestOf(t *testing.T) {
	for i, roots := range samples() {
		if got, want := Of(grammar(t, roots...)), sizesOf(roots); got != want {
			t.Fatalf("grammar %d: the sizes are %+v, not %+v", i, got, want)
		}
	}
}

// P7.1: sizes, written out: of one rule and of several ones, with every Op once, with several nodes of each Op, and with none.
func TestOfByHand(t *testing.T) {
	a := char('a')
	for name, x := range map[string]struct {
		roots []items
		want  Sizes
	}{
		"the example":     {[]items{with(api.Choice, with(api.Seq, a, call(0)), empty)}, Sizes{1, 5, 3, 3, [10]int{1, 1, 1, 1, 1}}},
		"Empty":           {[]items{empty}, Sizes{1, 1, 1, 1, [10]int{1}}},
		"Class":           {[]items{a}, Sizes{1, 1, 1, 1, [10]int{0, 1}}},
		"Class of none":   {[]items{class()}, Sizes{1, 1, 1, 1, [10]int{0, 1}}},
		"Call":            {[]items{call(0)}, Sizes{1, 1, 1, 1, [10]int{0, 0, 1}}},
		"Seq":             {[]items{with(api.Seq, empty, empty)}, Sizes{1, 3, 2, 2, [10]int{2, 0, 0, 1}}},
		"Choice":          {[]items{with(api.Choice, empty, a, a)}, Sizes{1, 4, 2, 3, [10]int{1, 2, 0, 0, 1}}},
		"Star":            {[]items{with(api.Star, a)}, Sizes{1, 2, 2, 1, [10]int{0, 1, 0, 0, 0, 1}}},
		"Plus":            {[]items{with(api.Plus, a)}, Sizes{1, 2, 2, 1, [10]int{0, 1, 0, 0, 0, 0, 1}}},
		"Opt":             {[]items{with(api.Opt, a)}, Sizes{1, 2, 2, 1, [10]int{0, 1, 0, 0, 0, 0, 0, 1}}},
		"And":             {[]items{with(api.And, a)}, Sizes{1, 2, 2, 1, [10]int{0, 1, 0, 0, 0, 0, 0, 0, 1}}},
		"Not":             {[]items{with(api.Not, a)}, Sizes{1, 2, 2, 1, [10]int{0, 1, 0, 0, 0, 0, 0, 0, 0, 1}}},
		"deep at first":   {[]items{with(api.Not, with(api.Not, with(api.Not, a))), empty, with(api.And, a)}, Sizes{3, 7, 4, 3, [10]int{1, 2, 0, 0, 0, 0, 0, 0, 1, 3}}},
		"deep in between": {[]items{call(1), with(api.Plus, with(api.Opt, with(api.Opt, call(0)))), call(1)}, Sizes{3, 6, 4, 3, [10]int{0, 0, 3, 0, 0, 0, 1, 2}}},
		"deep at last":    {[]items{empty, empty, with(api.Star, with(api.Star, empty))}, Sizes{3, 5, 3, 3, [10]int{3, 0, 0, 0, 0, 2}}},
		"deep first kid":  {[]items{with(api.Seq, with(api.Star, with(api.Star, a)), a)}, Sizes{1, 5, 4, 2, [10]int{0, 2, 0, 1, 0, 2}}},
		"deep last kid":   {[]items{with(api.Seq, a, with(api.Seq, a, with(api.Choice, a, a)))}, Sizes{1, 7, 4, 4, [10]int{0, 4, 0, 2, 1}}},
		"every Op": {[]items{
			with(api.Choice, with(api.Seq, empty, with(api.Star, a), with(api.Plus, call(1))), with(api.Opt, call(0))),
			with(api.And, with(api.Not, a)),
		}, Sizes{2, 12, 4, 5, [10]int{1, 2, 2, 1, 1, 1, 1, 1, 1, 1}}},
	} {
		if got := Of(grammar(t, x.roots...)); got != x.want {
			t.Errorf("%s: the sizes are %+v, not %+v", name, got, x.want)
		}
	}
}

// P7.1: sizes at the limits, written out.
func TestOfLimits(t *testing.T) {
	for name, x := range map[string]struct {
		roots []items
		want  Sizes
	}{
		"most rules":  {slices.Repeat([]items{call(999)}, 1000), Sizes{1000, 1000, 1, 1000, [10]int{2: 1000}}},
		"most nodes":  {[]items{wide(9999)}, Sizes{1, 10000, 2, 9999, [10]int{0: 9999, 4: 1}}},
		"most levels": {[]items{chain(200)}, Sizes{1, 200, 200, 1, [10]int{1: 1, 5: 40, 6: 40, 7: 40, 8: 40, 9: 39}}},
	} {
		if got := Of(grammar(t, x.roots...)); got != x.want {
			t.Errorf("%s: the sizes are %+v, not %+v", name, got, x.want)
		}
	}
}

// P7.1: the bytes and the classes of bytes of all samples.
func TestBytes(t *testing.T) {
	for i, roots := range samples() {
		g := grammar(t, roots...)
		if got, want := Bytes(g), bytesOf(roots); got != want {
			t.Fatalf("grammar %d: the bytes are %x, not %x", i, got, want)
		}
		if got, want := Runs(g), runsOf(roots); !slices.Equal(got, want) {
			t.Fatalf("grammar %d: the classes of bytes are %d, not %d", i, got, want)
		}
	}
}

// P7.1: the bytes and the classes of bytes, written out.
func TestBytesByHand(t *testing.T) {
	b := func(first, last byte) [2]byte { return [2]byte{first, last} }
	all := [][2]byte{b(0, 255)}
	ofA := [][2]byte{b(0, 96), b(97, 97), b(98, 255)}
	notA := class(0, 96, 98, 255)
	for name, x := range map[string]struct {
		roots []items
		bytes api.Set
		runs  [][2]byte
	}{
		"the example":              {[]items{with(api.Choice, with(api.Seq, char('a'), call(0)), empty)}, set('a', 'a'), ofA},
		"no class":                 {[]items{empty}, api.Set{}, all},
		"no class, several rules":  {[]items{with(api.Seq, empty, call(2)), call(0), with(api.Not, empty)}, api.Set{}, all},
		"no byte":                  {[]items{class()}, api.Set{}, all},
		"no byte, twice":           {[]items{class(), with(api.Star, class())}, api.Set{}, all},
		"all bytes":                {[]items{ofSet(full)}, full, all},
		"all bytes and no byte":    {[]items{ofSet(full), class()}, full, all},
		"byte 0":                   {[]items{char(0)}, set(0, 0), [][2]byte{b(0, 0), b(1, 255)}},
		"byte 1":                   {[]items{char(1)}, set(1, 1), [][2]byte{b(0, 0), b(1, 1), b(2, 255)}},
		"byte 254":                 {[]items{char(254)}, set(254, 254), [][2]byte{b(0, 253), b(254, 254), b(255, 255)}},
		"byte 255":                 {[]items{char(255)}, set(255, 255), [][2]byte{b(0, 254), b(255, 255)}},
		"bytes 0 and 255":          {[]items{char(0), char(255)}, set(0, 0, 255, 255), [][2]byte{b(0, 0), b(1, 254), b(255, 255)}},
		"all but 0":                {[]items{class(1, 255)}, set(1, 255), [][2]byte{b(0, 0), b(1, 255)}},
		"all but 255":              {[]items{class(0, 254)}, set(0, 254), [][2]byte{b(0, 254), b(255, 255)}},
		"all but a":                {[]items{notA}, set(0, 96, 98, 255), ofA},
		"a and all but a":          {[]items{with(api.Choice, char('a'), notA)}, full, ofA},
		"several runs":             {[]items{class('a', 'c', 'x', 'x')}, set('a', 'c', 'x', 'x'), [][2]byte{b(0, 96), b('a', 'c'), b('d', 'w'), b('x', 'x'), b('y', 255)}},
		"runs over the elements":   {[]items{class(60, 70, 120, 200)}, set(60, 70, 120, 200), [][2]byte{b(0, 59), b(60, 70), b(71, 119), b(120, 200), b(201, 255)}},
		"runs up to the elements":  {[]items{class(0, 63, 128, 191)}, set(0, 63, 128, 191), [][2]byte{b(0, 63), b(64, 127), b(128, 191), b(192, 255)}},
		"same class twice":         {[]items{with(api.Seq, char('a'), char('a'))}, set('a', 'a'), ofA},
		"same class in each rule":  {[]items{char('a'), with(api.Not, char('a')), char('a')}, set('a', 'a'), ofA},
		"side by side in one":      {[]items{class('a', 'c', 'd', 'f')}, set('a', 'f'), [][2]byte{b(0, 96), b('a', 'f'), b('g', 255)}},
		"side by side in two":      {[]items{with(api.Seq, class('a', 'c'), class('d', 'f'))}, set('a', 'f'), [][2]byte{b(0, 96), b('a', 'c'), b('d', 'f'), b('g', 255)}},
		"one inside the other":     {[]items{class('a', 'z'), class('f', 'h')}, set('a', 'z'), [][2]byte{b(0, 96), b('a', 'e'), b('f', 'h'), b('i', 'z'), b('{', 255)}},
		"overlapping":              {[]items{class('a', 'm'), class('g', 'z')}, set('a', 'z'), [][2]byte{b(0, 96), b('a', 'f'), b('g', 'm'), b('n', 'z'), b('{', 255)}},
		"the greater one first":    {[]items{class('x', 'z'), class('a', 'c')}, set('a', 'c', 'x', 'z'), [][2]byte{b(0, 96), b('a', 'c'), b('d', 'w'), b('x', 'z'), b('{', 255)}},
		"a class with all others":  {[]items{ofSet(full), char('a'), class()}, full, ofA},
		"in rules without callers": {[]items{empty, char('a')}, set('a', 'a'), ofA},
		"far inside":               {[]items{with(api.And, with(api.Opt, with(api.Seq, empty, with(api.Plus, char('a')), empty)))}, set('a', 'a'), ofA},
	} {
		g := grammar(t, x.roots...)
		if got := Bytes(g); got != x.bytes {
			t.Errorf("%s: the bytes are %x, not %x", name, got, x.bytes)
		}
		if got := Runs(g); !slices.Equal(got, x.runs) {
			t.Errorf("%s: the classes of bytes are %d, not %d", name, got, x.runs)
		}
	}
}

// P7.1: as many classes of bytes as there can be: each byte for itself, by a class of every second byte, and by a class for each byte.
func TestRunsOfEach(t *testing.T) {
	var want [][2]byte
	var each []items
	var second api.Set
	for c := range 256 {
		want = append(want, [2]byte{byte(c), byte(c)})
		each = append(each, char(byte(255-c)))
		if c%2 == 0 {
			second[c/64] |= 1 << (c % 64)
		}
	}
	for name, root := range map[string]items{"every second byte": ofSet(second), "a class for each": with(api.Choice, each...)} {
		if got := Runs(grammar(t, root)); !slices.Equal(got, want) {
			t.Errorf("%s: the classes of bytes are %d", name, got)
		}
	}
	if got := Bytes(grammar(t, ofSet(second))); got != second {
		t.Errorf("the bytes are %x, not %x", got, second)
	}
}

// P7.1: the classes of one range each, from any byte to any other one.
func TestRunsOfRanges(t *testing.T) {
	for lo := range 256 {
		for _, hi := range []int{lo, lo + 1, lo + 63, lo + 64, 127, 128, 254, 255} {
			if hi < lo || hi > 255 {
				continue
			}
			roots := []items{class(byte(lo), byte(hi))}
			g := grammar(t, roots...)
			if got, want := Runs(g), runsOf(roots); !slices.Equal(got, want) || Bytes(g) != roots[0][0].Set {
				t.Fatalf("%d to %d: the classes of bytes are %d, not %d", lo, hi, got, want)
			}
		}
	}
}

// P7.2: the calls of rules, and the rules that are reached, for all samples.
func TestCalls(t *testing.T) {
	for i, roots := range samples() {
		g := grammar(t, roots...)
		for _, rule := range few(len(roots)) {
			if got, want := Callers(g, rule), callersOf(roots, rule); !slices.Equal(got, want) {
				t.Fatalf("grammar %d: the calls of rule %d are %d, not %d", i, rule, got, want)
			}
			if got, want := Reach(g, rule), reachOf(roots, rule); !slices.Equal(got, want) {
				t.Fatalf("grammar %d: rule %d reaches %d, not %d", i, rule, got, want)
			}
		}
	}
}

// P7.2: calls, written out: of rules that nothing calls, and that are called once and several times, by themselves and by others.
func TestCallersByHand(t *testing.T) {
	a := char('a')
	for name, x := range map[string]struct {
		roots []items
		want  [][]int
	}{
		"the example":            {[]items{with(api.Choice, with(api.Seq, a, call(0)), empty)}, [][]int{{1}}},
		"no call":                {[]items{a, empty, with(api.Seq, class(), empty)}, [][]int{nil, nil, nil}},
		"itself":                 {[]items{call(0)}, [][]int{{0}}},
		"itself, several times":  {[]items{with(api.Seq, call(0), a, with(api.Not, call(0)), call(0))}, [][]int{{0, 2, 4}}},
		"once by another":        {[]items{with(api.Star, call(1)), a}, [][]int{nil, {0}}},
		"once by a later one":    {[]items{a, with(api.Seq, empty, call(0))}, [][]int{{2}, nil}},
		"several times by one":   {[]items{with(api.Seq, call(1), call(1), call(1)), a}, [][]int{nil, {0, 1, 2}}},
		"once by each":           {[]items{call(1), call(1), call(1)}, [][]int{nil, {0, 1, 2}, nil}},
		"each other":             {[]items{with(api.And, call(1)), with(api.And, call(0))}, [][]int{{2}, {0}}},
		"itself and others":      {[]items{with(api.Choice, call(0), call(1)), with(api.Plus, call(0)), with(api.Seq, call(2), call(0), call(2))}, [][]int{{0, 3, 6}, {1}, {5, 7}}},
		"first and last of all":  {[]items{call(2), a, with(api.Opt, a), call(2)}, [][]int{nil, nil, {0, 4}, nil}},
		"calls of several rules": {[]items{with(api.Seq, call(3), call(1), call(3), call(2)), empty, call(3), a}, [][]int{nil, {1}, {3}, {0, 2, 6}}},
	} {
		g := grammar(t, x.roots...)
		for rule, want := range x.want {
			if got := Callers(g, rule); !slices.Equal(got, want) {
				t.Errorf("%s: the calls of rule %d are %d, not %d", name, rule, got, want)
			}
		}
		for _, rule := range []int{-1, len(x.roots), math.MinInt, math.MaxInt} {
			if got := Callers(g, rule); len(got) != 0 {
				t.Errorf("%s: the calls of rule %d, which there is not, are %d", name, rule, got)
			}
		}
	}
}

// P7.2: reached rules, written out.
func TestReachByHand(t *testing.T) {
	a := char('a')
	for name, x := range map[string]struct {
		roots []items
		want  [][]int
	}{
		"the example":            {[]items{with(api.Choice, with(api.Seq, a, call(0)), empty)}, [][]int{{0}}},
		"nothing":                {[]items{a}, [][]int{{0}}},
		"nothing, three times":   {[]items{a, empty, with(api.Seq, a, class())}, [][]int{{0}, {1}, {2}}},
		"itself":                 {[]items{call(0), call(1)}, [][]int{{0}, {1}}},
		"each other":             {[]items{call(1), call(0), a}, [][]int{{0, 1}, {0, 1}, {2}}},
		"three in a circle":      {[]items{call(2), call(0), call(1)}, [][]int{{0, 1, 2}, {0, 1, 2}, {0, 1, 2}}},
		"a chain":                {[]items{call(1), call(2), call(3), a}, [][]int{{0, 1, 2, 3}, {1, 2, 3}, {2, 3}, {3}}},
		"a chain to the start":   {[]items{a, call(0), call(1), call(2)}, [][]int{{0}, {0, 1}, {0, 1, 2}, {0, 1, 2, 3}}},
		"a chain up and down":    {[]items{call(3), a, call(1), call(2)}, [][]int{{0, 1, 2, 3}, {1}, {1, 2}, {1, 2, 3}}},
		"later ones first":       {[]items{a, a, with(api.Seq, call(3), call(1)), call(0)}, [][]int{{0}, {1}, {0, 1, 2, 3}, {0, 3}}},
		"two ways to one":        {[]items{with(api.Seq, call(1), call(2)), call(3), call(3), a, call(0)}, [][]int{{0, 1, 2, 3}, {1, 3}, {2, 3}, {3}, {0, 1, 2, 3, 4}}},
		"two parts":              {[]items{call(2), call(3), call(0), call(1)}, [][]int{{0, 2}, {1, 3}, {0, 2}, {1, 3}}},
		"the start not reached":  {[]items{call(1), with(api.Opt, call(2)), a}, [][]int{{0, 1, 2}, {1, 2}, {2}}},
		"several calls of one":   {[]items{with(api.Choice, call(1), call(1), with(api.Not, call(1))), a}, [][]int{{0, 1}, {1}}},
		"after what always does": {[]items{with(api.Choice, empty, call(1)), with(api.Seq, class(), call(2)), a}, [][]int{{0, 1, 2}, {1, 2}, {2}}},
		"far inside":             {[]items{with(api.And, with(api.Seq, a, with(api.Choice, a, with(api.Plus, with(api.Star, call(2)))), a)), a, a}, [][]int{{0, 2}, {1}, {2}}},
		"first and last nodes":   {[]items{a, with(api.Seq, call(0), a, call(3)), a, a}, [][]int{{0}, {0, 1, 3}, {2}, {3}}},
	} {
		g := grammar(t, x.roots...)
		for rule, want := range x.want {
			if got := Reach(g, rule); !slices.Equal(got, want) {
				t.Errorf("%s: rule %d reaches %d, not %d", name, rule, got, want)
			}
		}
		for _, rule := range []int{-1, len(x.roots), len(x.roots) + 1, math.MinInt, math.MaxInt} {
			if got := Reach(g, rule); len(got) != 0 {
				t.Errorf("%s: rule %d, which there is not, reaches %d", name, rule, got)
			}
		}
	}
}

// callsOf returns an expression that calls the rules whose bits are set.
func callsOf(bits, rules int) items {
	var kids []items
	for rule := range rules {
		if bits>>rule&1 == 1 {
			kids = append(kids, call(rule))
		}
	}
	switch len(kids) {
	case 0:
		return empty
	case 1:
		return kids[0]
	}
	return with(api.Seq, kids...)
}

// P7.2: all ways in which three rules may call each other and themselves.
func TestCallsOfThree(t *testing.T) {
	for bits := range 1 << 9 {
		roots := []items{callsOf(bits&7, 3), callsOf(bits>>3&7, 3), callsOf(bits>>6, 3)}
		g := grammar(t, roots...)
		for rule := range 3 {
			if got, want := Callers(g, rule), callersOf(roots, rule); !slices.Equal(got, want) {
				t.Fatalf("%v: the calls of rule %d are %d, not %d", roots, rule, got, want)
			}
			if got, want := Reach(g, rule), reachOf(roots, rule); !slices.Equal(got, want) {
				t.Fatalf("%v: rule %d reaches %d, not %d", roots, rule, got, want)
			}
		}
	}
}

// P7.2: as many rules as there may be, in a chain, in a chain to the start, in a circle of long steps, and all called by one.
func TestReachOfMost(t *testing.T) {
	const most = api.MaxRules
	var up, down, circle, one, all []items
	var every []int
	for r := range most {
		up = append(up, call(min(r+1, most-1)))
		down = append(down, call(max(r-1, 0)))
		circle = append(circle, call((r+387)%most))
		one = append(one, empty)
		all = append(all, call(most-1-r))
		every = append(every, r)
	}
	one[500] = with(api.Seq, all...)
	for name, x := range map[string]struct {
		roots []items
		rule  int
		want  []int
	}{
		"chain":                     {up, 0, every},
		"chain from inside":         {up, 400, every[400:]},
		"chain from its end":        {up, 999, every[999:]},
		"chain to the start":        {down, 999, every},
		"same from inside":          {down, 400, every[:401]},
		"same from its end":         {down, 0, every[:1]},
		"circle":                    {circle, 123, every},
		"all by one":                {one, 500, every},
		"nothing by the others":     {one, 499, every[499:500]},
		"no rule after the last":    {one, 1000, nil},
		"no rule before the first":  {one, -1, nil},
		"no rule with other number": {circle, 1123, nil},
	} {
		if got := Reach(grammar(t, x.roots...), x.rule); !slices.Equal(got, x.want) {
			t.Errorf("%s: rule %d reaches %d", name, x.rule, got)
		}
	}
	if got := Callers(grammar(t, one...), 999); !slices.Equal(got, []int{500}) {
		t.Errorf("the calls of the last rule are %d", got)
	}
}

// Rules are taken from the queue in ascending order, in whatever order they are put into it.
func TestQueue(t *testing.T) {
	for step := range 50 {
		var q queue
		for i := range 53 {
			heap.Push(&q, i*(step+1)%53)
		}
		for want := range 53 {
			if got := heap.Pop(&q); got != want {
				t.Fatalf("step %d: %v is taken before %d", step, got, want)
			}
		}
		if q.Len() != 0 {
			t.Fatalf("step %d: %d rules are left", step, q.Len())
		}
	}
}

// P7.3: the numbers of nodes for all Ops add up to the size, and so do the number of rules and the number of kids of all nodes.
func TestSums(t *testing.T) {
	for i, roots := range samples() {
		g := grammar(t, roots...)
		s := Of(g)
		nodes, kids := 0, 0
		for _, n := range s.Ops {
			nodes += n
		}
		for _, n := range g.Nodes {
			kids += len(n.Kids)
		}
		if s.Nodes != len(g.Nodes) || nodes != s.Nodes || s.Rules+kids != s.Nodes {
			t.Fatalf("grammar %d: the size is %d, with %d rules, %d kids, and %d nodes for all Ops", i, s.Nodes, s.Rules, kids, nodes)
		}
	}
}

// spare returns a copy of a list with two more elements in its unused capacity.
func spare[T any](l []T, more T) []T {
	return slices.Clip(append(slices.Clone(l), more, more))[:len(l)]
}

// spareGrammar returns a copy of a grammar with more elements in the unused capacity of all its lists.
func spareGrammar(g api.Grammar) api.Grammar {
	g = gram.Clone(g)
	for i, n := range g.Nodes {
		g.Nodes[i].Kids = spare(n.Kids, 77)
	}
	return api.Grammar{Rules: spare(g.Rules, api.Rule{Name: "spare"}), Nodes: spare(g.Nodes, api.Node{Op: api.Class, Set: full})}
}

// whole returns a copy of a grammar with the unused capacity of its lists as a part of them.
func whole(g api.Grammar) api.Grammar {
	g = api.Grammar{Rules: g.Rules[:cap(g.Rules)], Nodes: slices.Clone(g.Nodes[:cap(g.Nodes)])}
	for i, n := range g.Nodes {
		g.Nodes[i].Kids = n.Kids[:cap(n.Kids)]
	}
	return gram.Clone(g)
}

// Rule 5: no function changes its argument, or the unused capacity in it, or reads that.
func TestArgumentsStay(t *testing.T) {
	for i, roots := range samples() {
		given := spareGrammar(grammar(t, roots...))
		before := whole(given)
		if got, want := Of(given), sizesOf(roots); got != want {
			t.Fatalf("grammar %d: the sizes are %+v, not %+v", i, got, want)
		}
		Bytes(given)
		if got, want := Runs(given), runsOf(roots); !slices.Equal(got, want) {
			t.Fatalf("grammar %d: the classes of bytes are %d, not %d", i, got, want)
		}
		for _, rule := range few(len(roots)) {
			Callers(given, rule)
			Reach(given, rule)
		}
		if !gram.Same(whole(given), before) {
			t.Fatalf("the grammar %d has changed", i)
		}
	}
}

// Rule 5: results are new memory: neither later calls nor the argument change with them, nor they with the argument.
func TestResultsStay(t *testing.T) {
	roots := []items{with(api.Seq, char('a'), call(1), call(1)), with(api.Choice, call(0), class('b', 'x')), call(1)}
	g := grammar(t, roots...)
	before := gram.Clone(g)
	runs, callers, reached := Runs(g), Callers(g, 1), Reach(g, 2)
	runs[0], callers[0], reached[0] = [2]byte{9, 9}, 99, 99
	_, _, _ = append(runs, [2]byte{8, 8}), append(callers, 98), append(reached, 98)
	if !gram.Same(g, before) {
		t.Error("the grammar has changed with a result")
	}
	runs, callers, reached = Runs(g), Callers(g, 1), Reach(g, 2)
	for i := range g.Nodes {
		g.Nodes[i] = api.Node{}
	}
	if !slices.Equal(runs, runsOf(roots)) || !slices.Equal(callers, callersOf(roots, 1)) || !slices.Equal(reached, reachOf(roots, 2)) {
		t.Errorf("the results are %d, %d and %d", runs, callers, reached)
	}
}

// Rule 4: empty lists of kids are as good as none.
func TestEmptyKids(t *testing.T) {
	for i, roots := range samples() {
		g := grammar(t, roots...)
		for k := range g.Nodes {
			if len(g.Nodes[k].Kids) == 0 {
				g.Nodes[k].Kids = []int{}
			}
		}
		if got, want := Of(g), sizesOf(roots); got != want {
			t.Fatalf("grammar %d: the sizes are %+v, not %+v", i, got, want)
		}
		if got, want := Reach(g, 0), reachOf(roots, 0); !slices.Equal(got, want) {
			t.Fatalf("grammar %d: the first rule reaches %d, not %d", i, got, want)
		}
	}
}

// P1: all functions end and do not panic, even for grammars that are not valid.
func TestUnspecified(t *testing.T) {
	base := grammar(t, with(api.Seq, call(1), with(api.Not, call(0))), with(api.Choice, char('a'), empty), call(1))
	l := []api.Grammar{{}, {Rules: make([]api.Rule, 3)}, {Nodes: make([]api.Node, 3)}}
	wrong := []int{-1, 4, 7, 8, 10, 11, math.MinInt, math.MaxInt}
	for _, x := range wrong {
		for i := range base.Nodes {
			for _, change := range []func(n *api.Node){
				func(n *api.Node) { n.Op = x },
				func(n *api.Node) { n.Rule = x },
				func(n *api.Node) { n.Kids = []int{x} },
				func(n *api.Node) { n.Kids = []int{i, x} },
				func(n *api.Node) { n.Set = full },
			} {
				g := gram.Clone(base)
				change(&g.Nodes[i])
				l = append(l, g)
			}
		}
		for r := range base.Rules {
			g := gram.Clone(base)
			g.Rules[r].Root = x
			l = append(l, g)
		}
	}
	for _, g := range l {
		Of(g)
		Bytes(g)
		Runs(g)
		for _, rule := range append(wrong, 0, 1, 2, 3) {
			Callers(g, rule)
			if got := Reach(g, rule); (rule < 0 || rule >= len(g.Rules)) && len(got) > 0 {
				t.Errorf("%+v: rule %d, which there is not, reaches %d", g, rule, got)
			}
		}
	}
}
