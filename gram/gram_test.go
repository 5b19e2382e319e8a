package gram

import (
	"errors"
	"fmt"
	"math"
	"slices"
	"strings"
	"testing"

	"vetch/api"
)

// A grammar is told here as trees, from which lists of nodes are made, and it is checked against models that follow the kids from the roots.

// tree is an expression.
type tree struct {
	op   int
	kids []tree
	rule int
	set  api.Set
}

// named is a rule with its expression.
type named struct {
	name string
	root tree
}

var (
	empty = tree{op: api.Empty}
	small = api.Set{1, 0, 0, 1 << 63}
)

func class(c byte) tree {
	var set api.Set
	set[c/64] = 1 << (c % 64)
	return tree{op: api.Class, set: set}
}

func call(rule int) tree { return tree{op: api.Call, rule: rule} }

func with(op int, kids ...tree) tree { return tree{op: op, kids: kids} }

// place is what a tree tells of its node.
type place struct{ first, depth, owner int }

// flatten returns the grammar of rules, and what is known of its nodes.
func flatten(rules ...named) (api.Grammar, []place) {
	var g api.Grammar
	var places []place
	var add func(t tree, owner int) (int, place)
	add = func(t tree, owner int) (int, place) {
		n := api.Node{Op: t.op, Rule: t.rule, Set: t.set}
		p := place{len(g.Nodes), 1, owner}
		for _, kid := range t.kids {
			i, of := add(kid, owner)
			n.Kids = append(n.Kids, i)
			p.depth = max(p.depth, of.depth+1)
		}
		g.Nodes, places = append(g.Nodes, n), append(places, p)
		return len(g.Nodes) - 1, p
	}
	for r, rule := range rules {
		root, _ := add(rule.root, r)
		g.Rules = append(g.Rules, api.Rule{Name: rule.name, Root: root})
	}
	return g, places
}

// grammar returns the grammar of rules with the names r0, r1 and so on.
func grammar(roots ...tree) api.Grammar {
	g, _ := flatten(rulesOf(roots...)...)
	return g
}

func rulesOf(roots ...tree) []named {
	var l []named
	for i, root := range roots {
		l = append(l, named{fmt.Sprint("r", i), root})
	}
	return l
}

// chain returns an expression of a depth, whose nodes above the innermost one have a kid each.
func chain(depth int) tree {
	t := class('x')
	for i := range depth - 1 {
		t = with(api.Star+i%5, t)
	}
	return t
}

// wide returns an expression with a number of nodes, which is 1 or more than 2.
func wide(nodes int) tree {
	if nodes == 1 {
		return empty
	}
	return with(api.Choice, slices.Repeat([]tree{empty}, nodes-1)...)
}

// random is a source of numbers that are the same each time.
type random uint32

func (r *random) below(n int) int {
	*r = *r*1664525 + 1013904223
	return int(*r>>8) % n
}

// expression returns an expression of at most a depth, with calls of so many rules.
func (r *random) expression(depth, rules int) tree {
	op := r.below(10)
	if depth == 1 {
		op = r.below(3)
	}
	t := tree{op: op}
	kids := 1
	switch op {
	case api.Empty:
		return t
	case api.Class:
		for i := range t.set {
			t.set[i] = uint64(r.below(1<<20)) << r.below(40)
		}
		return t
	case api.Call:
		t.rule = r.below(rules)
		return t
	case api.Seq, api.Choice:
		kids = 2 + r.below(3)
	}
	for range kids {
		t.kids = append(t.kids, r.expression(depth-1, rules))
	}
	return t
}

// samples returns valid grammars: of one and of several rules, with every Op, at the limits, and many others.
func samples() [][]named {
	leaves := []tree{empty, class('a'), {op: api.Class}, {op: api.Class, set: small}, call(0)}
	var l [][]named
	for _, leaf := range leaves {
		l = append(l, rulesOf(leaf))
		for op := api.Star; op <= api.Not; op++ {
			l = append(l, rulesOf(with(op, leaf)), rulesOf(empty, with(op, with(op, leaf)), leaf))
		}
		for _, op := range []int{api.Seq, api.Choice} {
			l = append(l, rulesOf(with(op, leaf, empty)), rulesOf(with(op, empty, leaf, leaf), leaf))
		}
	}
	l = append(l,
		[]named{{"A", with(api.Choice, with(api.Seq, class('a'), call(0)), empty)}},
		[]named{{"A", call(2)}, {"a", call(1)}, {"_", call(0)}},
		[]named{{"A1", with(api.Seq, call(1), call(1))}, {"A_1", with(api.And, with(api.Not, call(0)))}},
		rulesOf(with(api.Seq, class('a'), with(api.Choice, empty, with(api.Plus, class('b')), call(1))), with(api.Opt, with(api.Star, class('c')))),
		rulesOf(chain(api.MaxDepth)),
		rulesOf(empty, with(api.Seq, empty, chain(api.MaxDepth-1)), chain(api.MaxDepth)),
		rulesOf(slices.Repeat([]tree{empty}, api.MaxRules)...),
		rulesOf(wide(api.MaxNodes)),
		rulesOf(append(slices.Repeat([]tree{empty}, api.MaxRules-1), wide(api.MaxNodes-api.MaxRules+1))...),
	)
	r := random(1)
	for range 300 {
		rules := 1 + r.below(4)
		var roots []tree
		for range rules {
			roots = append(roots, r.expression(1+r.below(4), rules))
		}
		l = append(l, rulesOf(roots...))
	}
	return l
}

// describe returns the text of an error and its index; for a code that nothing wraps, it says so.
func describe(err error) string {
	if err == nil {
		return "none"
	}
	text := err.Error()
	var f api.Fault
	if errors.As(err, &f) {
		return fmt.Sprintf("%s at %d", text, f.At)
	}
	if c, ok := err.(api.Code); ok {
		return "just " + c.Error()
	}
	return text
}

const (
	tooLarge = "just error 4"
	noOrder  = "just error 10"
)

func wrongRule(i int) string { return fmt.Sprintf("rule rules: error 10 at %d", i) }
func wrongNode(i int) string { return fmt.Sprintf("rule nodes: error 10 at %d", i) }
func tooDeep(i int) string   { return fmt.Sprintf("rule nodes: error 5 at %d", i) }

// expect checks the error of a grammar.
func expect(t *testing.T, name string, g api.Grammar, want string) {
	t.Helper()
	if got := describe(Check(g)); got != want {
		t.Errorf("%s: the error is %q, not %q", name, got, want)
	}
}

// P5.1: the example of the chapter, written out.
func TestExample(t *testing.T) {
	g := api.Grammar{
		Rules: []api.Rule{{Name: "A", Root: 4}},
		Nodes: []api.Node{
			{Op: api.Class, Set: api.Set{0, 1 << ('a' - 64)}},
			{Op: api.Call, Rule: 0},
			{Op: api.Seq, Kids: []int{0, 1}},
			{Op: api.Empty},
			{Op: api.Choice, Kids: []int{2, 3}},
		},
	}
	expect(t, "example", g, "none")
	if got := Depths(g); !slices.Equal(got, []int{1, 1, 2, 1, 3}) {
		t.Errorf("the depths are %d", got)
	}
	for i, first := range []int{0, 1, 0, 3, 0} {
		if got := First(g, i); got != first {
			t.Errorf("the first node of %d is %d", i, got)
		}
	}
}

// P5.1: valid grammars have no error, also with empty slices in place of nil.
func TestCheckValid(t *testing.T) {
	for i, rules := range samples() {
		g, _ := flatten(rules...)
		if err := Check(g); err != nil {
			t.Fatalf("grammar %d, %+v: %s", i, g, describe(err))
		}
		for i := range g.Nodes {
			if g.Nodes[i].Kids == nil {
				g.Nodes[i].Kids = []int{}
			}
		}
		if err := Check(g); err != nil {
			t.Fatalf("grammar %d with empty kids: %s", i, describe(err))
		}
	}
}

// P5.1: more rules or nodes than the limits, and as many as these.
func TestCheckTooLarge(t *testing.T) {
	rules := func(n int) []tree { return slices.Repeat([]tree{empty}, n) }
	for name, x := range map[string]struct {
		g    api.Grammar
		want string
	}{
		"most rules":                  {grammar(rules(1000)...), "none"},
		"one rule more":               {grammar(rules(1001)...), tooLarge},
		"many rules more":             {grammar(rules(5000)...), tooLarge},
		"most nodes":                  {grammar(wide(10000)), "none"},
		"one node more":               {grammar(wide(10001)), tooLarge},
		"most nodes in two rules":     {grammar(wide(5000), wide(5000)), "none"},
		"one node more in two rules":  {grammar(wide(5000), wide(5001)), tooLarge},
		"most of both":                {grammar(append(rules(999), wide(9001))...), "none"},
		"most of both, one node more": {grammar(append(rules(999), wide(9002))...), tooLarge},
		"too many of both":            {grammar(append(rules(1000), wide(9001))...), tooLarge},
		"zero rules":                  {api.Grammar{Rules: make([]api.Rule, 1001)}, tooLarge},
		"zero nodes":                  {api.Grammar{Nodes: make([]api.Node, 10001)}, tooLarge},
		"most zero rules":             {api.Grammar{Rules: make([]api.Rule, 1000)}, wrongRule(0)},
		"most zero nodes":             {api.Grammar{Nodes: make([]api.Node, 10000)}, wrongRule(0)},
	} {
		expect(t, name, x.g, x.want)
	}
}

// P5.1: no rule, and names that are no identifiers.
func TestCheckNames(t *testing.T) {
	expect(t, "zero grammar", api.Grammar{}, wrongRule(0))
	expect(t, "empty grammar", api.Grammar{Rules: []api.Rule{}, Nodes: []api.Node{}}, wrongRule(0))
	expect(t, "nodes without rules", api.Grammar{Nodes: grammar(empty).Nodes}, wrongRule(0))
	for name, ok := range map[string]bool{
		"": false, " ": false, "9": false, "9a": false, "a b": false, "a ": false, " a": false, "a-b": false, "a\n": false, "a\x00": false,
		"é": false, "a\xff": false, "<-": false, "a.b": false, "'a'": false, "a": true, "Z": true, "_": true, "a9": true, "_9_": true,
		"nodes": true, strings.Repeat("a", 5000): true, strings.Repeat("a", 5000) + "-": false,
	} {
		for at := range 4 {
			g := grammar(empty, empty, empty, empty)
			g.Rules[at].Name = name
			want := "none"
			if !ok {
				want = wrongRule(at)
			}
			expect(t, fmt.Sprintf("%q for rule %d", name, at), g, want)
		}
	}
}

// P5.1: names of earlier rules, and the first of several wrong names.
func TestCheckSameNames(t *testing.T) {
	for _, x := range []struct {
		names string
		want  string
	}{
		{"a a", wrongRule(1)},
		{"a b a", wrongRule(2)},
		{"a b b", wrongRule(2)},
		{"b a a b", wrongRule(2)},
		{"a b c b a", wrongRule(3)},
		{"a a a a", wrongRule(1)},
		{"a A", "none"},
		{"a a1 a_ _a a1a", "none"},
		{"a 1 a", wrongRule(1)},
		{"a a 1", wrongRule(1)},
		{"1 a a 1", wrongRule(0)},
		{"a 1 1", wrongRule(1)},
	} {
		names := strings.Fields(x.names)
		g := grammar(slices.Repeat([]tree{empty}, len(names))...)
		for i, name := range names {
			g.Rules[i].Name = name
		}
		expect(t, x.names, g, x.want)
	}
	g := grammar(slices.Repeat([]tree{empty}, api.MaxRules)...)
	g.Rules[999].Name = g.Rules[0].Name
	expect(t, "the last name is the first one", g, wrongRule(999))
}

// kidsOf returns how many kids a node with an Op may have, from least to most; there is none if the Op is none.
func kidsOf(op int) (least, most int) {
	switch {
	case op == api.Empty, op == api.Class, op == api.Call:
		return 0, 0
	case op == api.Seq, op == api.Choice:
		return 2, math.MaxInt
	case api.Star <= op && op <= api.Not:
		return 1, 1
	}
	return 1, 0
}

// P5.1: each way in which a node is not well made, for each Op.
func TestCheckNodes(t *testing.T) {
	ops := []int{math.MinInt, -256, -10, -1, 10, 11, 100, 256, 1 << 32, math.MaxInt}
	for op := range 10 {
		ops = append(ops, op)
	}
	const rules = 3
	for _, op := range ops {
		least, most := kidsOf(op)
		for kids := range 5 {
			for _, rule := range []int{0, 1, 2, 3, 4, -1, math.MaxInt, math.MinInt, 1 << 32} {
				for _, set := range []api.Set{{}, {1}, {0, 1}, {0, 0, 1}, {0, 0, 0, 1 << 63}, small} {
					root := tree{op: op, rule: rule, set: set, kids: slices.Repeat([]tree{call(0)}, kids)}
					want := "none"
					if kids < least || kids > most || set != (api.Set{}) && op != api.Class || rule != 0 && (op != api.Call || rule < 0 || rule >= rules) {
						want = wrongNode(1 + kids)
					}
					name := fmt.Sprintf("Op %d, %d kids, Rule %d, Set %x", op, kids, rule, set)
					expect(t, name, grammar(empty, root, class('b')), want)
				}
			}
		}
	}
}

// P5.1: what the kids are does not matter for whether a node is well made, only how many they are; and the first wrong node counts.
func TestCheckFirstNode(t *testing.T) {
	bad := tree{op: api.Not}
	for name, x := range map[string]struct {
		g    api.Grammar
		want string
	}{
		"the first node":       {grammar(bad, empty), wrongNode(0)},
		"the last node":        {grammar(empty, with(api.Seq, empty, empty), bad), wrongNode(4)},
		"two of them":          {grammar(empty, with(api.Seq, empty, bad, empty, bad)), wrongNode(2)},
		"kid and parent":       {grammar(with(api.Seq, bad)), wrongNode(0)},
		"parent after kids":    {grammar(with(api.Seq, with(api.Not, empty))), wrongNode(2)},
		"call of the last":     {grammar(call(1), call(1)), "none"},
		"call beyond the last": {grammar(call(1), call(2)), wrongNode(1)},
		"call of itself":       {grammar(call(0)), "none"},
	} {
		expect(t, name, x.g, x.want)
	}
	for _, kids := range [][]int{{-1, 7}, {2, 2}, {0, 0}, {1, 0}, {math.MinInt, math.MaxInt}} {
		g := grammar(with(api.Seq, empty, empty))
		g.Nodes[2].Kids = kids
		expect(t, fmt.Sprint("kids ", kids), g, noOrder)
		g.Nodes[2].Op = api.Star
		expect(t, fmt.Sprint("too many kids ", kids), g, wrongNode(2))
	}
}

// orders are changes of a grammar whose nodes are in post-order, after which they are not.
func orders() map[string]func(g *api.Grammar) {
	kids := func(i int, l ...int) func(*api.Grammar) {
		return func(g *api.Grammar) { g.Nodes[i].Kids = l }
	}
	root := func(r, i int) func(*api.Grammar) {
		return func(g *api.Grammar) { g.Rules[r].Root = i }
	}
	return map[string]func(g *api.Grammar){
		"negative kid":                      kids(3, -1),
		"least kid":                         kids(3, math.MinInt),
		"kid that is too great":             kids(3, 11),
		"greatest kid":                      kids(3, math.MaxInt),
		"kid that is the node itself":       kids(3, 3),
		"kid after the node":                kids(3, 4),
		"kid of another rule":               kids(3, 0),
		"kid of a kid":                      kids(3, 1),
		"negative kid among others":         kids(4, 1, -1),
		"shared kid":                        kids(4, 3, 3),
		"kid of another node, before it":    kids(4, 2, 3),
		"kid of another node, after others": kids(4, 1, 3, 2),
		"exchanged kids":                    kids(4, 3, 1),
		"kid that is left out, the first":   kids(10, 8, 9),
		"kid that is left out, the middle":  kids(10, 7, 9),
		"kid that is left out, the last":    kids(10, 7, 8),
		"kids twice":                        kids(4, 1, 3, 1, 3),
		"kid of the rule before":            kids(4, 0, 1, 3),
		"root of the first rule, too early": root(0, -1),
		"root of the first rule, too late":  root(0, 1),
		"root of a rule, at the one before": root(1, 0),
		"root of a rule, at a kid":          root(1, 5),
		"root of a rule, after its nodes":   root(1, 7),
		"root of the last rule, too early":  root(2, 9),
		"root of the last rule, too great":  root(2, 11),
		"root of the last rule, greatest":   root(2, math.MaxInt),
		"root of the last rule, least":      root(2, math.MinInt),
		"roots that are exchanged": func(g *api.Grammar) {
			g.Rules[1].Root, g.Rules[2].Root = g.Rules[2].Root, g.Rules[1].Root
		},
		"node without a rule, at the end": func(g *api.Grammar) {
			g.Nodes = append(g.Nodes, api.Node{})
		},
		"expression without a rule, at the end": func(g *api.Grammar) {
			g.Nodes = append(g.Nodes, api.Node{}, api.Node{Op: api.Not, Kids: []int{11}})
		},
		"node without a rule, at the beginning": func(g *api.Grammar) {
			*g = shifted(*g)
		},
		"rule without nodes, at the end": func(g *api.Grammar) {
			g.Rules = append(g.Rules, api.Rule{Name: "s", Root: 11})
		},
		"rule without nodes, with a root before": func(g *api.Grammar) {
			g.Rules = append(g.Rules, api.Rule{Name: "s", Root: 10})
		},
		"rule without nodes, in between": func(g *api.Grammar) {
			g.Rules = slices.Insert(g.Rules, 1, api.Rule{Name: "s", Root: 0})
		},
		"last node left out": func(g *api.Grammar) {
			g.Nodes = g.Nodes[:10]
		},
		"no nodes": func(g *api.Grammar) {
			g.Nodes = nil
		},
		"last rule left out": func(g *api.Grammar) {
			g.Rules = g.Rules[:2]
		},
		"rules exchanged": func(g *api.Grammar) {
			g.Rules[0], g.Rules[1] = g.Rules[1], g.Rules[0]
		},
	}
}

// shifted returns a grammar with another node before all others.
func shifted(g api.Grammar) api.Grammar {
	g.Nodes = slices.Insert(g.Nodes, 0, api.Node{})
	for i := range g.Nodes {
		for k := range g.Nodes[i].Kids {
			g.Nodes[i].Kids[k]++
		}
	}
	for r := range g.Rules {
		g.Rules[r].Root++
	}
	return g
}

// forOrder is the grammar that orders change: one node for the first rule, 1 to 6 for the second, and 7 to 10 for the third.
func forOrder() api.Grammar {
	return grammar(
		empty,
		with(api.Choice, with(api.Seq, empty, with(api.Not, class('a'))), class('b')),
		with(api.Seq, empty, class('c'), call(1)),
	)
}

// P5.1: nodes that are not in post-order.
func TestCheckOrder(t *testing.T) {
	expect(t, "unchanged", forOrder(), "none")
	for name, change := range orders() {
		g := forOrder()
		change(&g)
		expect(t, name, g, noOrder)
	}
}

// listed returns the nodes of an expression in post-order, and whether they can be told: at most so many, with kids before their parents.
func listed(g api.Grammar, i int) (l []int, ok bool) {
	for _, kid := range g.Nodes[i].Kids {
		if kid < 0 || kid >= i {
			return nil, false
		}
		of, ok := listed(g, kid)
		if !ok || len(l)+len(of) > len(g.Nodes) {
			return nil, false
		}
		l = append(l, of...)
	}
	return append(l, i), true
}

// inOrder reports whether the nodes of all rules, one after another, are all nodes in order.
func inOrder(g api.Grammar) bool {
	var all []int
	for _, rule := range g.Rules {
		if rule.Root < 0 || rule.Root >= len(g.Nodes) {
			return false
		}
		l, ok := listed(g, rule.Root)
		if !ok {
			return false
		}
		all = append(all, l...)
	}
	for i, node := range all {
		if node != i {
			return false
		}
	}
	return len(all) == len(g.Nodes)
}

// P5.1: all grammars of up to three nodes and two rules, whose nodes are Empty, Not or Seq with any kids and roots.
func TestCheckOrderOfAll(t *testing.T) {
	for nodes := range 4 {
		var l []api.Node
		l = append(l, api.Node{})
		for a := -1; a <= nodes; a++ {
			l = append(l, api.Node{Op: api.Not, Kids: []int{a}})
			for b := -1; b <= nodes; b++ {
				l = append(l, api.Node{Op: api.Seq, Kids: []int{a, b}})
			}
		}
		number := 1
		for range nodes {
			number *= len(l)
		}
		found := 0
		for code := range number {
			g := api.Grammar{Nodes: make([]api.Node, nodes)}
			for i := range g.Nodes {
				g.Nodes[i], code = l[code%len(l)], code/len(l)
			}
			found += countInOrder(t, g)
		}
		// These are counted by hand: the expressions of 3 nodes are Not of Not, and Seq; those of two rules have 1 and 2 nodes, or 2 and 1.
		if want := []int{0, 1, 1 + 1, 2 + 2}[nodes]; found != want {
			t.Errorf("%d grammars of %d nodes are valid, not %d", found, nodes, want)
		}
	}
}

// countInOrder checks the nodes of a grammar with all roots for one and for two rules, and returns how many of these are valid.
func countInOrder(t *testing.T, g api.Grammar) int {
	found := 0
	for first := -1; first <= len(g.Nodes); first++ {
		for second := -1; second <= len(g.Nodes)+1; second++ {
			g.Rules = []api.Rule{{Name: "a", Root: first}, {Name: "b", Root: second}}
			// The last number stands for no second rule.
			if second > len(g.Nodes) {
				g.Rules = g.Rules[:1]
			}
			err := Check(g)
			if ok := inOrder(g); ok != (err == nil) || !ok && describe(err) != noOrder {
				t.Fatalf("%+v: %s", g, describe(err))
			} else if ok {
				found++
			}
		}
	}
	return found
}

// P5.1: valid grammars with any other number in place of one of their kids or roots are not in post-order.
func TestCheckOrderChanged(t *testing.T) {
	for _, rules := range samples() {
		g, _ := flatten(rules...)
		if len(g.Nodes) > 30 {
			continue
		}
		for i := range g.Nodes {
			for k, kid := range g.Nodes[i].Kids {
				changeNumber(t, g, &g.Nodes[i].Kids[k], kid)
			}
		}
		for r, rule := range g.Rules {
			changeNumber(t, g, &g.Rules[r].Root, rule.Root)
		}
	}
}

// changeNumber checks a grammar with each other number in one place.
func changeNumber(t *testing.T, g api.Grammar, place *int, was int) {
	for n := -1; n <= len(g.Nodes); n++ {
		*place = n
		if err := Check(g); (n == was) != (err == nil) || n != was && describe(err) != noOrder {
			t.Fatalf("%+v: %s", g, describe(err))
		}
	}
	*place = was
}

// P5.1: the greatest depth, and one more.
func TestCheckDepth(t *testing.T) {
	for name, x := range map[string]struct {
		g    api.Grammar
		want string
	}{
		"greatest":                   {grammar(chain(200)), "none"},
		"one more":                   {grammar(chain(201)), tooDeep(200)},
		"two more":                   {grammar(chain(202)), tooDeep(200)},
		"many more":                  {grammar(chain(9000)), tooDeep(200)},
		"greatest in a later rule":   {grammar(empty, chain(200), empty), "none"},
		"one more in a later rule":   {grammar(empty, chain(201), empty), tooDeep(201)},
		"greatest at the first kid":  {grammar(with(api.Seq, chain(199), empty)), "none"},
		"one more at the first kid":  {grammar(with(api.Seq, chain(200), empty)), tooDeep(201)},
		"greatest at the middle kid": {grammar(with(api.Seq, empty, chain(199), empty)), "none"},
		"one more at the middle kid": {grammar(with(api.Seq, empty, chain(200), empty)), tooDeep(202)},
		"greatest at the last kid":   {grammar(with(api.Choice, empty, chain(199))), "none"},
		"one more at the last kid":   {grammar(with(api.Choice, empty, chain(200))), tooDeep(201)},
		"two of them":                {grammar(chain(200), chain(201), chain(205)), tooDeep(400)},
		"through calls":              {grammar(with(api.Not, call(1)), chain(200)), "none"},
		"many nodes, little depth":   {grammar(wide(10000)), "none"},
	} {
		expect(t, name, x.g, x.want)
	}
}

// P5.1: of several errors, the first one counts; each set of them is checked.
func TestCheckFirstError(t *testing.T) {
	flaws := []struct {
		make func(g *api.Grammar)
		want string
	}{
		{func(g *api.Grammar) { g.Nodes = append(g.Nodes, make([]api.Node, api.MaxNodes)...) }, tooLarge},
		{func(g *api.Grammar) { g.Rules[3].Name = g.Rules[1].Name }, wrongRule(3)},
		{func(g *api.Grammar) { g.Nodes[5].Rule = -1 }, wrongNode(5)},
		{func(g *api.Grammar) { g.Nodes[3].Kids[0] = 1 }, noOrder},
		{func(g *api.Grammar) { *g = joined(*g, chain(201)) }, tooDeep(212)},
	}
	for chosen := range 1 << len(flaws) {
		g := joined(forOrder(), empty)
		want := "none"
		// The last flaws are made first, as those before leave no grammar to which rules can be appended.
		for i := len(flaws) - 1; i >= 0; i-- {
			if chosen>>i&1 == 1 {
				flaws[i].make(&g)
				want = flaws[i].want
			}
		}
		expect(t, fmt.Sprintf("errors %05b", chosen), g, want)
	}
}

// joined returns a grammar with one more rule.
func joined(g api.Grammar, root tree) api.Grammar {
	more := grammar(root)
	for _, n := range more.Nodes {
		for k := range n.Kids {
			n.Kids[k] += len(g.Nodes)
		}
	}
	name := fmt.Sprint("s", len(g.Rules))
	g.Nodes = append(g.Nodes, more.Nodes...)
	g.Rules = append(g.Rules, api.Rule{Name: name, Root: len(g.Nodes) - 1})
	return g
}

// P5.2: First, Depths and Owner of every node.
func TestPlaces(t *testing.T) {
	for _, rules := range samples() {
		g, places := flatten(rules...)
		depths := Depths(g)
		if len(depths) != len(places) {
			t.Fatalf("there are %d depths of %d nodes", len(depths), len(places))
		}
		for i, want := range places {
			if got := (place{First(g, i), depths[i], Owner(g, i)}); got != want {
				t.Fatalf("node %d of %+v: %+v, not %+v", i, g, got, want)
			}
		}
	}
}

// P5.2: the same, written out.
func TestPlacesByHand(t *testing.T) {
	g := forOrder()
	for i, want := range []place{{0, 1, 0}, {1, 1, 1}, {2, 1, 1}, {2, 2, 1}, {1, 3, 1}, {5, 1, 1}, {1, 4, 1}, {7, 1, 2}, {8, 1, 2}, {9, 1, 2}, {7, 2, 2}} {
		if got := (place{First(g, i), Depths(g)[i], Owner(g, i)}); got != want {
			t.Errorf("node %d: %+v, not %+v", i, got, want)
		}
	}
}

// P1: First, Depths and Owner end and do not panic, even where they are not specified.
func TestPlacesOfInvalid(t *testing.T) {
	l := []api.Grammar{{}, {Rules: make([]api.Rule, 3)}, {Nodes: make([]api.Node, 3)}}
	for _, change := range orders() {
		g := forOrder()
		change(&g)
		l = append(l, g)
	}
	loop := grammar(with(api.Not, with(api.Not, empty)))
	loop.Nodes[0].Kids, loop.Nodes[1].Kids = []int{2}, []int{1, 2, 0}
	for _, g := range append(l, loop) {
		for _, i := range []int{-1, 0, 1, 2, 3, 4, 9, 10, math.MaxInt, math.MinInt} {
			First(g, i)
			Owner(g, i)
		}
		if got := Depths(g); len(got) != len(g.Nodes) {
			t.Errorf("%+v: %d depths", g, len(got))
		}
	}
}

// changes are grammars that differ from that of forOrder in one thing each.
func changes() map[string]api.Grammar {
	l := map[string]api.Grammar{}
	add := func(name string, change func(g *api.Grammar)) {
		g := forOrder()
		change(&g)
		l[name] = g
	}
	for r := range forOrder().Rules {
		add(fmt.Sprint("name of rule ", r), func(g *api.Grammar) { g.Rules[r].Name += "x" })
		add(fmt.Sprint("no name of rule ", r), func(g *api.Grammar) { g.Rules[r].Name = "" })
		add(fmt.Sprint("root of rule ", r), func(g *api.Grammar) { g.Rules[r].Root-- })
	}
	for i, n := range forOrder().Nodes {
		add(fmt.Sprint("op of node ", i), func(g *api.Grammar) { g.Nodes[i].Op++ })
		add(fmt.Sprint("rule of node ", i), func(g *api.Grammar) { g.Nodes[i].Rule = -1 })
		for w := range 4 {
			add(fmt.Sprint("set of node ", i, " in element ", w), func(g *api.Grammar) { g.Nodes[i].Set[w] ^= 1 << 63 })
		}
		add(fmt.Sprint("more kids of node ", i), func(g *api.Grammar) { g.Nodes[i].Kids = append(g.Nodes[i].Kids, 0) })
		for k := range n.Kids {
			add(fmt.Sprint("kid ", k, " of node ", i), func(g *api.Grammar) { g.Nodes[i].Kids[k] = -1 })
			add(fmt.Sprint("no kid ", k, " of node ", i), func(g *api.Grammar) { g.Nodes[i].Kids = slices.Delete(g.Nodes[i].Kids, k, k+1) })
		}
		if len(n.Kids) > 1 {
			add(fmt.Sprint("reversed kids of node ", i), func(g *api.Grammar) { slices.Reverse(g.Nodes[i].Kids) })
		}
	}
	add("no last node", func(g *api.Grammar) { g.Nodes = g.Nodes[:10] })
	add("no first node", func(g *api.Grammar) { g.Nodes = g.Nodes[1:] })
	add("one more node", func(g *api.Grammar) { g.Nodes = append(g.Nodes, api.Node{}) })
	add("no nodes", func(g *api.Grammar) { g.Nodes = nil })
	add("exchanged nodes", func(g *api.Grammar) { g.Nodes[4], g.Nodes[5] = g.Nodes[5], g.Nodes[4] })
	add("no last rule", func(g *api.Grammar) { g.Rules = g.Rules[:2] })
	add("no first rule", func(g *api.Grammar) { g.Rules = g.Rules[1:] })
	add("one more rule", func(g *api.Grammar) { g.Rules = append(g.Rules, api.Rule{}) })
	add("no rules", func(g *api.Grammar) { g.Rules = nil })
	add("exchanged rules", func(g *api.Grammar) { g.Rules[0], g.Rules[1] = g.Rules[1], g.Rules[0] })
	add("nothing", func(g *api.Grammar) { *g = api.Grammar{} })
	return l
}

// P5.3: Same of grammars, of which most are not valid and no two are the same.
func TestSame(t *testing.T) {
	l := changes()
	l["unchanged"] = forOrder()
	again := changes()
	again["unchanged"] = forOrder()
	for name, a := range l {
		for other, b := range again {
			if got := Same(a, b); got != (name == other) {
				t.Errorf("Same of %q and %q is %t", name, other, got)
			}
		}
	}
}

// P5.3: nil and empty slices are the same, and capacities and names in other memory do not matter.
func TestSameOfEqual(t *testing.T) {
	for _, rules := range samples() {
		a, _ := flatten(rules...)
		b, _ := flatten(rules...)
		for i := range b.Nodes {
			b.Nodes[i].Kids = append(make([]int, 0, 10), b.Nodes[i].Kids...)
		}
		for r := range b.Rules {
			b.Rules[r].Name = strings.Clone(b.Rules[r].Name)
		}
		if !Same(a, b) || !Same(b, a) || !Same(a, a) {
			t.Fatalf("%+v is not the same as %+v", a, b)
		}
	}
	none := api.Grammar{Rules: []api.Rule{}, Nodes: []api.Node{}}
	if !Same(api.Grammar{}, none) || !Same(none, api.Grammar{}) || !Same(none, none) {
		t.Error("empty slices are not the same as nil")
	}
}

// copied returns a copy of a grammar that was made in another way than by Clone, with its unused capacity.
func copied(g api.Grammar) api.Grammar {
	var c api.Grammar
	c.Rules = append(c.Rules, g.Rules[:cap(g.Rules)]...)[:len(g.Rules)]
	for _, n := range g.Nodes[:cap(g.Nodes)] {
		n.Kids = append([]int(nil), n.Kids[:cap(n.Kids)]...)[:len(n.Kids)]
		c.Nodes = append(c.Nodes, n)
	}
	c.Nodes = c.Nodes[:len(g.Nodes)]
	return c
}

// spare returns a grammar with something in the unused capacity of all its slices.
func spare(g api.Grammar) api.Grammar {
	g = copied(g)
	for i := range g.Nodes {
		l := g.Nodes[i].Kids
		g.Nodes[i].Kids = slices.Clip(append(slices.Clone(l), 77, 78, 79))[:len(l)]
	}
	g.Nodes = slices.Clip(append(slices.Clone(g.Nodes), api.Node{Op: 77}, api.Node{Op: 78}))[:len(g.Nodes)]
	g.Rules = slices.Clip(append(slices.Clone(g.Rules), api.Rule{Name: "spare"}))[:len(g.Rules)]
	return g
}

// whole returns a grammar with the unused capacity of its slices as a part of them.
func whole(g api.Grammar) api.Grammar {
	g = copied(g)
	g.Rules, g.Nodes = g.Rules[:cap(g.Rules)], g.Nodes[:cap(g.Nodes)]
	for i, n := range g.Nodes {
		g.Nodes[i].Kids = n.Kids[:cap(n.Kids)]
	}
	return g
}

// spoil changes everything in a grammar, and appends to all its slices.
func spoil(g api.Grammar) {
	for i := range g.Nodes {
		for k := range g.Nodes[i].Kids {
			g.Nodes[i].Kids[k] = 1000 + k
		}
		_ = append(g.Nodes[i].Kids, 2000)
		g.Nodes[i] = api.Node{Op: 99, Rule: 98, Kids: []int{97}, Set: api.Set{96}}
	}
	for r := range g.Rules {
		g.Rules[r] = api.Rule{Name: "spoilt", Root: 95}
	}
	_, _ = append(g.Nodes, api.Node{Op: 94}), append(g.Rules, api.Rule{Root: 93})
}

// cloned returns grammars to be copied: valid ones, others, and those without rules, nodes or kids.
func cloned() []api.Grammar {
	l := []api.Grammar{{}, {Rules: []api.Rule{}, Nodes: []api.Node{}}, {Rules: []api.Rule{{Name: "a", Root: 5}}}, {Nodes: []api.Node{{}, {Kids: []int{}}, {Kids: []int{-1, 3}}}}}
	for _, g := range changes() {
		l = append(l, g)
	}
	for _, rules := range samples() {
		g, _ := flatten(rules...)
		l = append(l, g)
	}
	return l
}

// P5.3: the copy is the same, and neither of the two changes with the other one.
func TestClone(t *testing.T) {
	for _, g := range cloned() {
		given := spare(g)
		c := Clone(given)
		if !Same(c, g) {
			t.Fatalf("the copy of %+v is %+v", g, c)
		}
		want := whole(given)
		spoil(c)
		if !Same(whole(given), want) {
			t.Fatalf("%+v has changed with its copy", g)
		}
		c = Clone(given)
		spoil(given)
		if !Same(c, g) {
			t.Fatalf("the copy of %+v has changed with it", g)
		}
		if d := Clone(c); !Same(d, g) {
			t.Fatalf("the copy of the copy of %+v is %+v", g, d)
		}
	}
}

// P5.3, and rule 7 of the language: no two lists of kids in a copy share memory, even if those of the grammar do.
func TestCloneOfShared(t *testing.T) {
	kids := []int{4, 5, 6}
	g := api.Grammar{Nodes: []api.Node{{Kids: kids}, {Kids: kids[:2]}, {Kids: kids[1:]}}}
	c := Clone(g)
	c.Nodes[0].Kids[1] = 50
	c.Nodes[1].Kids = append(c.Nodes[1].Kids, 60)
	if !slices.Equal(c.Nodes[0].Kids, []int{4, 50, 6}) || !slices.Equal(c.Nodes[1].Kids, []int{4, 5, 60}) || !slices.Equal(c.Nodes[2].Kids, []int{5, 6}) || !slices.Equal(kids, []int{4, 5, 6}) {
		t.Errorf("the copy is %+v, and the kids are %d", c, kids)
	}
}

// Rule 5: no function changes its argument, or the unused capacity in it; and results are new.
func TestArgumentsStay(t *testing.T) {
	for _, g := range cloned() {
		given := spare(g)
		want := whole(given)
		Check(given)
		Clone(given)
		Same(given, given)
		if l := Depths(given); len(l) > 0 {
			l[0] = 77
			if Depths(given)[0] == 77 {
				t.Fatal("a result was changed through an earlier one")
			}
		}
		for i := range given.Nodes {
			First(given, i)
			Owner(given, i)
		}
		if !Same(whole(given), want) {
			t.Fatalf("%+v has changed", g)
		}
	}
}
