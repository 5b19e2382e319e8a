package build

import (
	"fmt"
	"iter"
	"math"
	"slices"
	"strings"
	"testing"

	"vetch/api"
	"vetch/gram"
)

// Expressions are told here as trees, from which lists in prefix order and in post-order are made, each as its definition says.

// tree is an expression.
type tree struct {
	op   int
	kids []tree
	rule int
	set  api.Set
}

// named is a rule with its expression.
type named struct {
	name string
	root tree
}

var empty = tree{op: api.Empty}

func char(c byte) tree { return tree{op: api.Class, set: only(c)} }

func call(rule int) tree { return tree{op: api.Call, rule: rule} }

func with(op int, kids ...tree) tree { return tree{op: op, kids: kids} }

// only returns the set of one byte.
func only(c byte) api.Set {
	var set api.Set
	set[c/64] = 1 << (c % 64)
	return set
}

// prefix appends the items of a tree.
func prefix(l []Item, t tree) []Item {
	l = append(l, Item{t.op, len(t.kids), t.rule, t.set})
	for _, kid := range t.kids {
		l = prefix(l, kid)
	}
	return l
}

// postfix appends the nodes of a tree in post-order.
func postfix(l []api.Node, t tree) []api.Node {
	n := api.Node{Op: t.op, Rule: t.rule, Set: t.set}
	for _, kid := range t.kids {
		l = postfix(l, kid)
		n.Kids = append(n.Kids, len(l)-1)
	}
	return append(l, n)
}

// expressions appends the trees of all nodes of a tree in post-order.
func expressions(l []tree, t tree) []tree {
	for _, kid := range t.kids {
		l = expressions(l, kid)
	}
	return append(l, t)
}

// rules returns the rules of the package for rules that are told as trees.
func rules(l []named) []Rule {
	var to []Rule
	for _, x := range l {
		to = append(to, Rule{x.name, prefix(nil, x.root)})
	}
	return to
}

// grammar returns the grammar for rules that are told as trees.
func grammar(l []named) api.Grammar {
	var g api.Grammar
	for _, x := range l {
		g.Nodes = postfix(g.Nodes, x.root)
		g.Rules = append(g.Rules, api.Rule{Name: x.name, Root: len(g.Nodes) - 1})
	}
	return g
}

// parse returns the tree of the expression with which a list begins, and the items after it.
func parse(l []Item) (t tree, rest []Item, ok bool) {
	if len(l) == 0 || l[0].Kids < 0 {
		return tree{}, nil, false
	}
	t, rest = tree{op: l[0].Op, rule: l[0].Rule, set: l[0].Set}, l[1:]
	for range l[0].Kids {
		kid, after, ok := parse(rest)
		if !ok {
			return tree{}, nil, false
		}
		t.kids, rest = append(t.kids, kid), after
	}
	return t, rest, true
}

// numbered returns items with some numbers of kids, which differ in all their other fields.
func numbered(kids ...int) []Item {
	var l []Item
	for i, n := range kids {
		l = append(l, Item{10 + i, n, -i, api.Set{0, uint64(i), 1}})
	}
	return l
}

// choices yields all lists of a length whose elements are some of the numbers.
func choices(length int, numbers ...int) iter.Seq[[]int] {
	return func(yield func([]int) bool) {
		total := 1
		for range length {
			total *= len(numbers)
		}
		for code := range total {
			l := make([]int, length)
			for i := range l {
				l[i], code = numbers[code%len(numbers)], code/len(numbers)
			}
			if !yield(l) {
				return
			}
		}
	}
}

// shapes returns the trees with up to six nodes, each shape once, with the Ops that fit the numbers of kids in turn, and calls of up to so many rules.
func shapes(calls int) []tree {
	var l []tree
	turn := 0
	for nodes := 1; nodes <= 6; nodes++ {
		for kids := range choices(nodes, 0, 1, 2, 3, 4, 5) {
			items := numbered(kids...)
			for i, n := range kids {
				items[i] = fitting(n, turn+i, calls)
			}
			if t, rest, ok := parse(items); ok && len(rest) == 0 {
				l = append(l, t)
				turn++
			}
		}
	}
	return l
}

// fitting returns an item with a number of kids that is well made.
func fitting(kids, turn, calls int) Item {
	switch kids {
	case 0:
		return []Item{{}, {Op: api.Class, Set: only(byte(turn))}, {Op: api.Call, Rule: turn % calls}, {Op: api.Class}, {Op: api.Class, Set: api.Set{1, 2, 3, 1 << 63}}}[turn%5]
	case 1:
		return Item{Op: api.Star + turn%5, Kids: 1}
	}
	return Item{Op: api.Seq + turn%2, Kids: kids}
}

// chain returns an expression of a depth, whose nodes above the innermost one have a kid each.
func chain(depth int) tree {
	t := char('x')
	for i := range depth - 1 {
		t = with(api.Star+i%5, t)
	}
	return t
}

// wide returns an expression with so many kids.
func wide(kids int) tree {
	return with(api.Choice, slices.Repeat([]tree{char('a'), empty}, kids)[:kids]...)
}

// several returns rules with different names.
func several(roots ...tree) []named {
	var l []named
	for i, root := range roots {
		l = append(l, named{fmt.Sprint("r", i), root})
	}
	return l
}

// small returns rules of valid grammars with few nodes: of one and of several rules, with all shapes and all Ops.
func small() [][]named {
	l := [][]named{
		{{"A", with(api.Choice, with(api.Seq, char('a'), call(0)), empty)}},
		{{"A", call(2)}, {"a", call(1)}, {"_", call(0)}},
		{{"A1", with(api.Seq, call(1), call(1))}, {"A_1", with(api.And, with(api.Not, call(0)))}},
		several(with(api.Seq, char('a'), with(api.Choice, empty, with(api.Plus, char('b')), call(1))), with(api.Opt, with(api.Star, char('c')))),
	}
	for _, leaf := range []tree{empty, char('a'), with(api.Class), {op: api.Class, set: api.Set{1, 1, 1, 1}}, call(0)} {
		l = append(l, several(leaf))
		for op := api.Star; op <= api.Not; op++ {
			l = append(l, several(with(op, leaf)), several(leaf, with(op, with(op, leaf))))
		}
		l = append(l, several(with(api.Seq, leaf, empty), with(api.Choice, leaf, leaf, char('b'))))
	}
	one := shapes(1)
	for i, t := range one {
		l = append(l, several(t), several(one[len(one)-1-i], t, one[i/2]))
	}
	return append(l, several(shapes(len(one))...))
}

// valid returns rules of valid grammars: those of small, and those at the limits.
func valid() [][]named {
	return append(small(),
		several(chain(api.MaxDepth)),
		several(empty, with(api.Seq, empty, chain(api.MaxDepth-1)), chain(api.MaxDepth)),
		several(slices.Repeat([]tree{empty}, api.MaxRules)...),
		several(wide(api.MaxNodes-1)),
		several(append(slices.Repeat([]tree{call(999)}, api.MaxRules-1), wide(api.MaxNodes-api.MaxRules))...),
	)
}

func sameRules(a, b []Rule) bool {
	return slices.EqualFunc(a, b, func(x, y Rule) bool {
		return x.Name == y.Name && slices.Equal(x.Items, y.Items)
	})
}

// expectBuilt checks that rules are those of a grammar.
func expectBuilt(t *testing.T, name string, l []Rule, want api.Grammar) {
	t.Helper()
	if g, ok := Of(l); !ok || !gram.Same(g, want) {
		t.Fatalf("%s: the grammar is %.500s, %t", name, fmt.Sprint(g), ok)
	}
}

// expectNone checks that rules have no grammar.
func expectNone(t *testing.T, name string, l []Rule) {
	t.Helper()
	if g, ok := Of(l); ok || len(g.Rules) > 0 || len(g.Nodes) > 0 {
		t.Fatalf("%s: the grammar is %.500s, %t", name, fmt.Sprint(g), ok)
	}
}

// P6.1 and P6.2: the example of the chapter, and a grammar of two rules, written out.
func TestExamples(t *testing.T) {
	a, b := only('a'), only('b')
	l := []Rule{
		{"A", []Item{{Op: api.Seq, Kids: 2}, {Op: api.Class, Set: a}, {Op: api.Call, Rule: 0}}},
		{"B", []Item{{Op: api.Choice, Kids: 3}, {Op: api.Star, Kids: 1}, {Op: api.Class, Set: b}, {}, {Op: api.Not, Kids: 1}, {Op: api.Call, Rule: 1}}},
	}
	g := api.Grammar{
		Rules: []api.Rule{{Name: "A", Root: 2}, {Name: "B", Root: 8}},
		Nodes: []api.Node{
			{Op: api.Class, Set: a}, {Op: api.Call, Rule: 0}, {Op: api.Seq, Kids: []int{0, 1}},
			{Op: api.Class, Set: b}, {Op: api.Star, Kids: []int{3}}, {Op: api.Empty}, {Op: api.Call, Rule: 1}, {Op: api.Not, Kids: []int{6}}, {Op: api.Choice, Kids: []int{4, 5, 7}},
		},
	}
	expectBuilt(t, "two rules", l, g)
	expectBuilt(t, "one rule", l[:1], api.Grammar{Rules: g.Rules[:1], Nodes: g.Nodes[:3]})
	if got := Items(g); !sameRules(got, l) {
		t.Errorf("the items are %+v", got)
	}
	if got := Items(api.Grammar{Rules: g.Rules[:1], Nodes: g.Nodes[:3]}); !sameRules(got, l[:1]) {
		t.Errorf("the items of the first rule are %+v", got)
	}
}

// P6.1: without rules, there is a grammar without rules and nodes.
func TestOfNothing(t *testing.T) {
	expectBuilt(t, "nil", nil, api.Grammar{})
	expectBuilt(t, "no rules", []Rule{}, api.Grammar{})
}

// P6.1: grammars of one and of several rules, with every Op.
func TestOf(t *testing.T) {
	for i, l := range valid() {
		g := grammar(l)
		if err := gram.Check(g); err != nil {
			t.Fatalf("grammar %d is not valid: %v", i, err)
		}
		expectBuilt(t, fmt.Sprint("grammar ", i), rules(l), g)
	}
}

// P6.1: all lists of up to five items with any of these numbers of kids, as the only rule, and among others.
func TestOfAll(t *testing.T) {
	leaf := with(77)
	for length := range 6 {
		found := 0
		for kids := range choices(length, 0, 1, 2, 3, 4, -1, math.MinInt, math.MaxInt, 1<<32) {
			items := numbered(kids...)
			alone := []Rule{{"x", items}}
			among := []Rule{{"a", prefix(nil, leaf)}, {"x", items}, {"b", prefix(nil, leaf)}}
			root, rest, ok := parse(items)
			if !ok || len(rest) > 0 {
				expectNone(t, fmt.Sprint("kids ", kids), alone)
				expectNone(t, fmt.Sprint("kids ", kids, " among others"), among)
				continue
			}
			found++
			expectBuilt(t, fmt.Sprint("kids ", kids), alone, grammar([]named{{"x", root}}))
			expectBuilt(t, fmt.Sprint("kids ", kids, " among others"), among, grammar([]named{{"a", leaf}, {"x", root}, {"b", leaf}}))
		}
		// The numbers of trees are those of Catalan.
		if want := []int{0, 1, 1, 2, 5, 14}[length]; found != want {
			t.Errorf("%d lists of %d items are built, not %d", found, length, want)
		}
	}
}

// wrong returns numbers of kids of items that are not those of one expression.
func wrong() map[string][]int {
	return map[string][]int{
		"no items":                           {},
		"too few, by one":                    {1},
		"too few for two kids":               {2, 0},
		"too few inside":                     {2, 0, 1},
		"too few at each level":              {1, 1, 1, 1},
		"too few by many":                    {9, 0, 0, 0},
		"too many, by one":                   {0, 0},
		"too many after kids":                {2, 0, 0, 0},
		"too many after a deep kid":          {1, 1, 0, 0},
		"too many, another expression":       {1, 0, 2, 0, 0},
		"too many, one without its kids":     {0, 1},
		"too many, a negative one":           {0, -1},
		"negative, alone":                    {-1},
		"negative at first":                  {-1, 0, 0},
		"negative at first, two less":        {-2, 2, 0},
		"negative inside":                    {1, -1, 0},
		"negative that takes back a kid":     {2, -1},
		"negative that takes back one":       {3, -1, 0},
		"negative that takes back later":     {1, 3, 0, -1},
		"negative at the end":                {2, 0, -1},
		"least number":                       {math.MinInt},
		"least number inside":                {2, math.MinInt, 0},
		"least number twice":                 {math.MinInt, math.MinInt, 2},
		"far greater":                        {1 << 20, 0},
		"far greater inside":                 {2, 1 << 40, 0},
		"far greater at the end":             {2, 0, 1 << 62},
		"greatest number":                    {math.MaxInt},
		"greatest number with a kid":         {math.MaxInt, 0},
		"greatest number twice":              {math.MaxInt, math.MaxInt, 4},
		"greatest number and then least":     {math.MaxInt, math.MinInt, 2},
		"numbers that overflow to no number": {1 << 62, 1 << 62, 1 << 62, 1 << 62, 4},
		"number that ends with bits of 0":    {1 << 32},
		"number that ends with bits of 1":    {1<<32 + 1, 0},
	}
}

// P6.1: items that are not those of one expression, in the only rule, the first one, a later one, the last one, and in two.
func TestOfWrong(t *testing.T) {
	good := Rule{"good", numbered(2, 0, 1, 0)}
	for name, kids := range wrong() {
		bad := Rule{"bad", numbered(kids...)}
		expectNone(t, name, []Rule{bad})
		expectNone(t, name+", first", []Rule{bad, good})
		expectNone(t, name+", later", []Rule{good, bad, good})
		expectNone(t, name+", last", []Rule{good, good, good, bad})
		expectNone(t, name+", twice", []Rule{bad, bad})
	}
	expectNone(t, "nil items", []Rule{good, {"bad", nil}})
	// Lists that are those of one expression only together.
	expectNone(t, "joined", []Rule{{"a", numbered(2, 0)}, {"b", numbered(0)}})
	expectNone(t, "joined, after one too many", []Rule{{"a", numbered(0, 1)}, {"b", numbered(0)}})
}

// P6.1: a grammar is built of what is given, valid or not.
func TestOfGiven(t *testing.T) {
	set := api.Set{5, 6, 7, 8}
	for name, l := range map[string][]named{
		"empty name":              {{"", empty}},
		"names that are no words": {{"a b", empty}, {"9", empty}, {"ä\x00\xff", empty}},
		"equal names":             {{"A", char('a')}, {"A", char('b')}, {"A", call(1)}},
		"Op that is less":         several(tree{op: -1}, tree{op: math.MinInt}),
		"Op that is greater":      several(with(10, with(11), with(math.MaxInt, empty))),
		"calls of no rule":        several(call(1), call(-1), call(math.MaxInt), call(math.MinInt)),
		"Rule of others":          several(tree{op: api.Empty, rule: 1}, tree{op: api.Seq, rule: 2, kids: []tree{empty, empty}}),
		"Set of others":           several(tree{op: api.Empty, set: set}, tree{op: api.Not, set: set, kids: []tree{empty}}, tree{op: api.Call, set: set}),
		"leaves with kids":        several(with(api.Empty, empty), with(api.Class, empty, empty), with(api.Call, call(0))),
		"Seq with too few":        several(with(api.Seq), with(api.Seq, empty)),
		"Choice with too few":     several(with(api.Choice), with(api.Choice, empty)),
		"others without kids":     several(with(api.Star), with(api.Plus), with(api.Opt), with(api.And), with(api.Not)),
		"others with kids":        several(with(api.Star, empty, empty), with(api.And, empty, empty, empty)),
		"too many rules":          several(slices.Repeat([]tree{empty}, api.MaxRules+1)...),
		"too many nodes":          several(wide(api.MaxNodes)),
		"too deep":                several(chain(api.MaxDepth + 1)),
	} {
		g := grammar(l)
		if gram.Check(g) == nil {
			t.Errorf("%s: the grammar is valid", name)
		}
		expectBuilt(t, name, rules(l), g)
	}
}

// P6.1: expressions that are as deep and as wide as they may be, and as many rules.
func TestOfLarge(t *testing.T) {
	for name, l := range map[string][]named{
		"deep":            several(chain(1 << 16)),
		"wide":            several(wide(1<<20 - 1)),
		"rules":           several(slices.Repeat([]tree{empty}, 1<<16)...),
		"wide and deep":   several(with(api.Seq, chain(1<<15), wide(1<<15), chain(1<<15)), chain(1<<10)),
		"kids in a chain": several(with(api.Seq, slices.Repeat([]tree{chain(100)}, 1000)...)),
	} {
		expectBuilt(t, name, rules(l), grammar(l))
	}
	deep := prefix(nil, chain(1<<16))
	expectNone(t, "deep without the last", []Rule{{"a", deep[:len(deep)-1]}})
	expectNone(t, "deep with one more", []Rule{{"a", append(deep, Item{})}})
}

// P6.2: the items of valid grammars.
func TestItems(t *testing.T) {
	for i, l := range valid() {
		if got := Items(grammar(l)); !sameRules(got, rules(l)) {
			t.Fatalf("grammar %d: the items are %.500s", i, fmt.Sprint(got))
		}
	}
}

// before returns grammars to which nodes are appended: with and without rules, with and without nodes, valid and not.
func before() map[string]api.Grammar {
	g := grammar([]named{{"A", with(api.Seq, char('a'), call(1), call(0))}, {"B", with(api.Not, with(api.Opt, empty))}})
	bad := gram.Clone(g)
	bad.Rules[0], bad.Rules[1].Root = api.Rule{Name: "no name", Root: -5}, 99
	bad.Nodes[0].Kids, bad.Nodes[3].Kids = []int{-1, 0, math.MaxInt}, []int{3}
	bad.Nodes[1].Op, bad.Nodes[2].Rule, bad.Nodes[5].Set = -7, 33, api.Set{9}
	return map[string]api.Grammar{
		"nothing":         {},
		"empty lists":     {Rules: []api.Rule{}, Nodes: []api.Node{}},
		"one rule":        grammar(several(empty)),
		"rules and nodes": g,
		"more nodes":      {Rules: g.Rules, Nodes: append(slices.Clone(g.Nodes), g.Nodes[1], api.Node{Op: api.Plus, Kids: []int{6}})},
		"only nodes":      {Nodes: g.Nodes},
		"only rules":      {Rules: g.Rules},
		"not valid":       bad,
	}
}

// expectAppended checks that a node's expression is appended to a grammar, and that both grammars stay.
func expectAppended(t *testing.T, name string, g, x api.Grammar, i int, expression tree) {
	t.Helper()
	oldG, oldX := gram.Clone(g), gram.Clone(x)
	want := api.Grammar{Rules: oldG.Rules, Nodes: postfix(slices.Clone(oldG.Nodes), expression)}
	got, last := Append(g, x, i)
	if !gram.Same(got, want) || last != len(want.Nodes)-1 {
		t.Fatalf("node %d of %.500s, appended to %s: %d in %.500s", i, fmt.Sprint(x), name, last, fmt.Sprint(got))
	}
	if !gram.Same(g, oldG) || !gram.Same(x, oldX) {
		t.Fatalf("node %d of %.500s, appended to %s: an argument has changed", i, fmt.Sprint(x), name)
	}
}

// P6.3: each node of valid grammars, appended to each of the grammars before it, and to its own grammar.
func TestAppend(t *testing.T) {
	for _, l := range small() {
		x := grammar(l)
		var all []tree
		for _, rule := range l {
			all = expressions(all, rule.root)
		}
		for i, expression := range all {
			for name, g := range before() {
				expectAppended(t, name, g, x, i, expression)
			}
			expectAppended(t, "its own grammar", x, x, i, expression)
		}
	}
}

// P6.3: the same for some nodes of grammars at the limits.
func TestAppendLarge(t *testing.T) {
	root := with(api.Seq, chain(api.MaxDepth-1), wide(9000), call(1))
	x := grammar(several(empty, root))
	all := expressions([]tree{empty}, root)
	for _, i := range []int{0, 1, 2, 198, 199, 200, 9199, 9200, 9201, 9202} {
		expectAppended(t, "nothing", api.Grammar{}, x, i, all[i])
		expectAppended(t, "its own grammar", x, x, i, all[i])
	}
}

// P6.3: an example, written out. The call keeps its Rule, although there is no such rule.
func TestAppendByHand(t *testing.T) {
	x := grammar(several(empty, with(api.Choice, char('a'), with(api.Seq, call(1), with(api.Star, char('b'))))))
	g := api.Grammar{Rules: []api.Rule{{Name: "g", Root: 0}}, Nodes: []api.Node{{Op: api.Class, Set: only('g')}}}
	got, last := Append(g, x, 5)
	want := api.Grammar{Rules: g.Rules, Nodes: []api.Node{
		{Op: api.Class, Set: only('g')},
		{Op: api.Call, Rule: 1}, {Op: api.Class, Set: only('b')}, {Op: api.Star, Kids: []int{2}}, {Op: api.Seq, Kids: []int{1, 3}},
	}}
	if !gram.Same(got, want) || last != 4 {
		t.Errorf("%d in %+v", last, got)
	}
	// Each result can be appended to again.
	again, last := Append(got, x, 6)
	want.Nodes = append(want.Nodes,
		api.Node{Op: api.Class, Set: only('a')}, api.Node{Op: api.Call, Rule: 1}, api.Node{Op: api.Class, Set: only('b')},
		api.Node{Op: api.Star, Kids: []int{7}}, api.Node{Op: api.Seq, Kids: []int{6, 8}}, api.Node{Op: api.Choice, Kids: []int{5, 9}},
	)
	if !gram.Same(again, want) || last != 10 {
		t.Errorf("%d in %+v", last, again)
	}
}

// P6.3: the expressions of all rules, appended to nothing one after another, are the nodes of the grammar.
func TestAppendRoots(t *testing.T) {
	for _, l := range small() {
		x := grammar(l)
		var g api.Grammar
		for _, rule := range x.Rules {
			var last int
			g, last = Append(g, x, rule.Root)
			if last != rule.Root {
				t.Fatalf("the root of %+v is %d", rule, last)
			}
		}
		if g.Rules = x.Rules; !gram.Same(g, x) {
			t.Fatalf("%+v is not %+v", g, x)
		}
	}
}

// P6.4: no bytes, and every byte.
func TestLiteralOfFew(t *testing.T) {
	for _, b := range [][]byte{nil, {}} {
		if got := Literal(b); !slices.Equal(got, []Item{{}}) {
			t.Errorf("the items of no bytes are %+v", got)
		}
	}
	for c := range 256 {
		if got := Literal([]byte{byte(c)}); !slices.Equal(got, []Item{{Op: api.Class, Set: only(byte(c))}}) {
			t.Errorf("the items of the byte %d are %+v", c, got)
		}
	}
}

// P6.4: several bytes, in order and as often as they are given.
func TestLiteralOfSeveral(t *testing.T) {
	every := make([]byte, 256)
	for c := range every {
		every[c] = byte(c)
	}
	reversed := slices.Clone(every)
	slices.Reverse(reversed)
	l := [][]byte{every, reversed, []byte("ab"), []byte("ba"), []byte("aa"), []byte("aba"), {0, 0, 0}, {255, 0}, []byte("héé"), make([]byte, 1<<16)}
	for _, c := range every {
		l = append(l, []byte{c, 'x'}, []byte{'x', c, c ^ 1, c})
	}
	for _, b := range l {
		want := []Item{{Op: api.Seq, Kids: len(b)}}
		for _, c := range b {
			want = append(want, Item{Op: api.Class, Set: only(c)})
		}
		given := slices.Clone(b)
		if got := Literal(given); !slices.Equal(got, want) || !slices.Equal(given, b) {
			t.Errorf("the items of %.100q are %.500s", b, fmt.Sprint(got))
		}
		if _, ok := Of([]Rule{{"a", Literal(b)}}); !ok {
			t.Errorf("the items of %.100q are not those of one expression", b)
		}
	}
}

// P6.5: Of inverts Items, and Items inverts Of if the grammar is valid.
func TestInverse(t *testing.T) {
	for i, l := range valid() {
		g := grammar(l)
		if got, ok := Of(Items(g)); !ok || !gram.Same(got, g) {
			t.Fatalf("grammar %d: the grammar of its items is %.500s, %t", i, fmt.Sprint(got), ok)
		}
		got, ok := Of(rules(l))
		if back := Items(got); !ok || !sameRules(back, rules(l)) {
			t.Fatalf("grammar %d: the items of the grammar of its items are %.500s, %t", i, fmt.Sprint(back), ok)
		}
	}
}

// spare returns a copy of a list with two more elements in its unused capacity.
func spare[T any](l []T, more T) []T {
	return slices.Clip(append(slices.Clone(l), more, more))[:len(l)]
}

// spareGrammar returns a copy of a grammar with more elements in the unused capacity of all its lists.
func spareGrammar(g api.Grammar) api.Grammar {
	g = gram.Clone(g)
	for i, n := range g.Nodes {
		g.Nodes[i].Kids = spare(n.Kids, 77)
	}
	return api.Grammar{Rules: spare(g.Rules, api.Rule{Name: "spare"}), Nodes: spare(g.Nodes, api.Node{Op: 77})}
}

// wholeGrammar returns a copy of a grammar with the unused capacity of its lists as a part of them.
func wholeGrammar(g api.Grammar) api.Grammar {
	return gram.Clone(api.Grammar{Rules: g.Rules[:cap(g.Rules)], Nodes: g.Nodes[:cap(g.Nodes)]})
}

// wholeKids returns the kids of all nodes with the unused capacity of their lists.
func wholeKids(g api.Grammar) [][]int {
	var l [][]int
	for _, n := range g.Nodes {
		l = append(l, slices.Clone(n.Kids[:cap(n.Kids)]))
	}
	return l
}

// spareRules returns a copy of rules with more elements in the unused capacity of all lists.
func spareRules(l []Rule) []Rule {
	l = slices.Clone(l)
	for i, rule := range l {
		l[i].Items = spare(rule.Items, Item{Op: 77})
	}
	return spare(l, Rule{Name: "spare"})
}

// wholeRules returns a copy of rules with the unused capacity of all lists as a part of them.
func wholeRules(l []Rule) []Rule {
	l = slices.Clone(l[:cap(l)])
	for i, rule := range l {
		l[i].Items = slices.Clone(rule.Items[:cap(rule.Items)])
	}
	return l
}

// spoil changes everything in a grammar, and appends to all its lists.
func spoil(g api.Grammar) {
	for i, n := range g.Nodes {
		for k := range n.Kids {
			n.Kids[k] = 1000 + k
		}
		_ = append(n.Kids, 2000)
		g.Nodes[i] = api.Node{Op: 99, Rule: 98, Kids: []int{97}, Set: api.Set{96}}
	}
	for r := range g.Rules {
		g.Rules[r] = api.Rule{Name: "spoilt", Root: 95}
	}
	_, _ = append(g.Nodes, api.Node{Op: 94}), append(g.Rules, api.Rule{Root: 93})
}

// spoilRules changes everything in rules, and appends to all lists.
func spoilRules(l []Rule) {
	for i, rule := range l {
		for k := range rule.Items {
			rule.Items[k] = Item{99, 98, 97, api.Set{96}}
		}
		_ = append(rule.Items, Item{Op: 94})
		l[i] = Rule{Name: "spoilt"}
	}
	_ = append(l, Rule{Name: "more"})
}

// Rule 5: Of and Items change neither their arguments nor the unused capacity in these, and do not share memory with them.
func TestMemory(t *testing.T) {
	for i, l := range small() {
		given := spareRules(rules(l))
		whole := wholeRules(given)
		g, _ := Of(given)
		spoil(g)
		if !sameRules(wholeRules(given), whole) {
			t.Fatalf("the rules %d have changed", i)
		}
		g, _ = Of(given)
		spoilRules(given)
		if !gram.Same(g, grammar(l)) {
			t.Fatalf("the grammar %d has changed with the rules", i)
		}
		g = spareGrammar(g)
		wholeG, kids := wholeGrammar(g), wholeKids(g)
		spoilRules(Items(g))
		if !gram.Same(wholeGrammar(g), wholeG) || !slices.EqualFunc(wholeKids(g), kids, slices.Equal) {
			t.Fatalf("the grammar %d has changed", i)
		}
		items := Items(g)
		spoil(g)
		if !sameRules(items, rules(l)) {
			t.Fatalf("the items %d have changed with the grammar", i)
		}
	}
}

// Rule 5: the same for Append, and both of its arguments.
func TestAppendMemory(t *testing.T) {
	x := grammar([]named{{"A", with(api.Choice, with(api.Seq, char('a'), call(0)), with(api.Not, empty))}})
	for name, g := range before() {
		given, other := spareGrammar(g), spareGrammar(x)
		wholeG, kidsG, wholeX, kidsX := wholeGrammar(given), wholeKids(given), wholeGrammar(other), wholeKids(other)
		got, _ := Append(given, other, 5)
		spoil(got)
		if !gram.Same(wholeGrammar(given), wholeG) || !slices.EqualFunc(wholeKids(given), kidsG, slices.Equal) {
			t.Errorf("%s has changed", name)
		}
		if !gram.Same(wholeGrammar(other), wholeX) || !slices.EqualFunc(wholeKids(other), kidsX, slices.Equal) {
			t.Errorf("what is appended to %s has changed", name)
		}
		got, _ = Append(given, other, 5)
		want := gram.Clone(got)
		spoil(given)
		spoil(other)
		if !gram.Same(got, want) {
			t.Errorf("the result for %s has changed with the arguments", name)
		}
	}
}

// Rule 7 of the language: no two lists of a result share memory.
func TestResultMemory(t *testing.T) {
	for _, l := range small() {
		items := Items(grammar(l))
		g, _ := Of(items)
		more, _ := Append(g, g, len(g.Nodes)-1)
		for i := range items {
			items[i].Items = append(items[i].Items, Item{Op: 99})
			items[i].Items[0].Op = 98 + i
		}
		for i, rule := range items {
			want := append(prefix(nil, l[i].root), Item{Op: 99})
			if want[0].Op = 98 + i; !slices.Equal(rule.Items, want) {
				t.Fatalf("the items %+v have changed with others", rule)
			}
		}
		for _, x := range []api.Grammar{g, more} {
			want := gram.Clone(x)
			for i := range x.Nodes {
				x.Nodes[i].Kids = append(x.Nodes[i].Kids, 99)
			}
			for i, n := range x.Nodes {
				if !slices.Equal(n.Kids, append(want.Nodes[i].Kids, 99)) {
					t.Fatalf("the kids %d have changed with others", n.Kids)
				}
			}
		}
	}
}

// Rule 5: a result does not change with a later call, or with bytes that were given.
func TestLiteralMemory(t *testing.T) {
	for _, b := range []string{"", "a", "abc", strings.Repeat("ab", 300)} {
		given := []byte(b)
		got := Literal(given)
		want := slices.Clone(got)
		for i := range given {
			given[i] = 'x'
		}
		later := Literal([]byte(b))
		for i := range later {
			later[i] = Item{Op: 99}
		}
		if !slices.Equal(got, want) || !slices.Equal(Literal([]byte(b)), want) {
			t.Errorf("the items of %.100q have changed", b)
		}
	}
}

// P1: Items and Append end and do not panic, even where they are not specified.
func TestUnspecified(t *testing.T) {
	doubled := api.Grammar{Rules: []api.Rule{{Name: "A", Root: 99}}, Nodes: make([]api.Node, 100)}
	for i := range 99 {
		doubled.Nodes[i+1] = api.Node{Op: api.Seq, Kids: []int{i, i}}
	}
	loop := grammar(several(with(api.Not, with(api.Not, empty))))
	loop.Nodes[0].Kids, loop.Nodes[1].Kids = []int{2}, []int{1, 2, 0}
	l := []api.Grammar{{}, {Rules: make([]api.Rule, 3)}, {Nodes: make([]api.Node, 3)}, doubled, loop}
	for _, kids := range [][]int{{-1}, {-1, 1}, {1, 99}, {math.MinInt, math.MaxInt}, {2}, {0, 0}} {
		g := grammar(several(with(api.Seq, empty, empty), empty))
		g.Nodes[2].Kids = kids
		l = append(l, g)
	}
	for _, root := range []int{-1, 4, math.MinInt, math.MaxInt, 0} {
		g := grammar(several(with(api.Seq, empty, empty), empty))
		g.Rules[0].Root = root
		l = append(l, g)
	}
	for _, g := range l {
		if got := Items(g); len(got) != len(g.Rules) {
			t.Errorf("%+v: there are %d rules", g, len(got))
		}
		for _, i := range []int{-1, 0, 1, 2, 3, 4, 99, 100, math.MinInt, math.MaxInt} {
			Append(api.Grammar{}, g, i)
			Append(g, g, i)
		}
	}
}
