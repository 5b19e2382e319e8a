package flow

import (
	"fmt"
	"math"
	"math/rand/v2"
	"slices"
	"strings"
	"testing"

	"vetch/api"
	"vetch/gram"
	"vetch/resolve"
)

// factsOf reads facts that are written as the letters n, e and f, or as a hyphen.
func factsOf(s string) Facts {
	return Facts{Null: strings.Contains(s, "n"), Eat: strings.Contains(s, "e"), Fail: strings.Contains(s, "f")}
}

// listOf reads the facts of several nodes.
func listOf(s string) []Facts {
	var l []Facts
	for _, word := range strings.Fields(s) {
		l = append(l, factsOf(word))
	}
	return l
}

// eight are all facts that a node may have.
var eight = listOf("- n e f ne nf ef nef")

// read returns the grammar of a file.
func read(t *testing.T, file string) api.Grammar {
	t.Helper()
	g, err := resolve.Grammar(file)
	if err != nil {
		t.Fatalf("%.200q: %v", file, err)
	}
	return g
}

// tree is an expression, of which the nodes of grammars are made.
type tree struct {
	op   int
	rule int
	set  api.Set
	kids []tree
}

var (
	empty  = tree{op: api.Empty}
	nobyte = tree{op: api.Class}
	a      = tree{op: api.Class, set: api.Set{1: 1 << ('a' - 64)}}
	dot    = tree{op: api.Class, set: api.Set{math.MaxUint64, math.MaxUint64, math.MaxUint64, math.MaxUint64}}
)

// call returns a call of the rule with an index.
func call(rule int) tree { return tree{op: api.Call, rule: rule} }

func with(op int, kids ...tree) tree { return tree{op: op, kids: kids} }

// grammar returns the grammar whose rules have some expressions.
func grammar(roots ...tree) api.Grammar {
	var g api.Grammar
	var add func(x tree) int
	add = func(x tree) int {
		var kids []int
		for _, kid := range x.kids {
			kids = append(kids, add(kid))
		}
		g.Nodes = append(g.Nodes, api.Node{Op: x.op, Kids: kids, Rule: x.rule, Set: x.set})
		return len(g.Nodes) - 1
	}
	for r, root := range roots {
		g.Rules = append(g.Rules, api.Rule{Name: fmt.Sprint("r", r), Root: add(root)})
	}
	return g
}

// The model: the table as clauses, each of which tells one fact of a node if all given ones are true. That a node may succeed is a fact here.

const (
	null = iota
	eat
	fail
	succeed
	kinds
)

// clause tells the fact then, if all facts of given are true; the number of a fact is that of its node times kinds plus its kind.
type clause struct {
	then  int
	given []int
}

// each returns the numbers of one fact of several nodes.
func each(kind int, nodes ...int) []int {
	var l []int
	for _, i := range nodes {
		l = append(l, i*kinds+kind)
	}
	return l
}

// clauses returns the lines of the table for all nodes.
func clauses(g api.Grammar) []clause {
	var l []clause
	for i, n := range g.Nodes {
		add := func(kind int, given ...[]int) {
			l = append(l, clause{i*kinds + kind, slices.Concat(given...)})
		}
		add(succeed, each(null, i))
		add(succeed, each(eat, i))
		if n.Op == api.Seq || n.Op == api.Choice {
			many(n, add)
			continue
		}
		from := n.Kids
		if n.Op == api.Call {
			from = []int{g.Rules[n.Rule].Root}
		}
		one(n, from, add)
	}
	return l
}

// many adds the clauses of a sequence or a choice.
func many(n api.Node, add func(kind int, given ...[]int)) {
	for k, kid := range n.Kids {
		if n.Op == api.Seq {
			add(eat, each(succeed, n.Kids...), each(eat, kid))
			add(fail, each(succeed, n.Kids[:k]...), each(fail, kid))
		} else {
			add(null, each(fail, n.Kids[:k]...), each(null, kid))
			add(eat, each(fail, n.Kids[:k]...), each(eat, kid))
		}
	}
	if n.Op == api.Seq {
		add(null, each(null, n.Kids...))
	} else {
		add(fail, each(fail, n.Kids...))
	}
}

// one adds the clauses of another node, whose facts follow from at most one other.
func one(n api.Node, from []int, add func(kind int, given ...[]int)) {
	switch n.Op {
	case api.Empty:
		add(null)
	case api.Class:
		if n.Set[0]|n.Set[1]|n.Set[2]|n.Set[3] != 0 {
			add(eat)
		}
		add(fail)
	case api.Call:
		add(null, each(null, from...))
		add(eat, each(eat, from...))
		add(fail, each(fail, from...))
	case api.Star:
		add(null, each(fail, from...))
		add(eat, each(eat, from...))
	case api.Plus:
		add(null, each(null, from...), each(fail, from...))
		add(eat, each(eat, from...))
		add(fail, each(fail, from...))
	case api.Opt:
		add(null, each(null, from...))
		add(null, each(fail, from...))
		add(eat, each(eat, from...))
	case api.And:
		add(null, each(succeed, from...))
		add(fail, each(fail, from...))
	case api.Not:
		add(null, each(fail, from...))
		add(fail, each(succeed, from...))
	}
}

// unpack returns the facts as a list of bools by their numbers.
func unpack(l []Facts) []bool {
	var all []bool
	for _, f := range l {
		all = append(all, f.Null, f.Eat, f.Fail, f.Null || f.Eat)
	}
	return all
}

// pack returns the facts of bools by their numbers.
func pack(all []bool) []Facts {
	var l []Facts
	for i := 0; i < len(all); i += kinds {
		l = append(l, Facts{all[i+null], all[i+eat], all[i+fail]})
	}
	return l
}

// stepOf is the model of Step: what the clauses tell whose given facts are true.
func stepOf(cs []clause, l []Facts) []Facts {
	given := unpack(l)
	next := make([]bool, len(given))
	for _, c := range cs {
		if !slices.ContainsFunc(c.given, func(f int) bool { return !given[f] }) {
			next[c.then] = true
		}
	}
	return pack(next)
}

// leastOf is the model of Of: each fact that becomes true is crossed out in the clauses it is given for, and a clause of which nothing is left tells its own.
func leastOf(g api.Grammar, cs []clause) []Facts {
	all := make([]bool, len(g.Nodes)*kinds)
	left := make([]int, len(cs))
	uses := make([][]int, len(all))
	var told []int
	tell := func(c int) {
		if left[c] == 0 && !all[cs[c].then] {
			all[cs[c].then] = true
			told = append(told, cs[c].then)
		}
	}
	for c, x := range cs {
		left[c] = len(x.given)
		for _, f := range x.given {
			uses[f] = append(uses[f], c)
		}
		tell(c)
	}
	for len(told) > 0 {
		f := told[len(told)-1]
		told = told[:len(told)-1]
		for _, c := range uses[f] {
			left[c]--
			tell(c)
		}
	}
	return pack(all)
}

// bruteOf is a model of Of for few nodes: the facts that are true in all lists for which the clauses hold.
func bruteOf(g api.Grammar, cs []clause) []Facts {
	type bits struct{ then, given uint }
	var l []bits
	for _, c := range cs {
		b := bits{then: 1 << c.then}
		for _, f := range c.given {
			b.given |= 1 << f
		}
		l = append(l, b)
	}
	least := ^uint(0)
	for code := range 1 << (3 * len(g.Nodes)) {
		x := uint(0)
		for i := range g.Nodes {
			x |= uint(code>>(3*i)&7) << (kinds * i)
			if code>>(3*i)&3 != 0 {
				x |= 1 << (kinds*i + succeed)
			}
		}
		if !slices.ContainsFunc(l, func(b bits) bool { return x&b.given == b.given && x&b.then == 0 }) {
			least &= x
		}
	}
	var all []bool
	for f := range kinds * len(g.Nodes) {
		all = append(all, least>>f&1 == 1)
	}
	return pack(all)
}

// within reports whether each fact of l is one of m.
func within(l, m []Facts) bool {
	for i, f := range l {
		if f.Null && !m[i].Null || f.Eat && !m[i].Eat || f.Fail && !m[i].Fail {
			return false
		}
	}
	return len(l) == len(m)
}

// check compares what the functions return for a grammar with the model, and with each other (P11.4). It returns the facts.
func check(t *testing.T, g api.Grammar) []Facts {
	t.Helper()
	cs := clauses(g)
	want := leastOf(g, cs)
	got := Of(g)
	if !slices.Equal(got, want) {
		t.Errorf("%+v: the facts are %v, and not %v", g, got, want)
	}
	if again := Of(g); !slices.Equal(again, got) {
		t.Errorf("%+v: the facts are %v, and then %v", g, got, again)
	}
	for r, rule := range g.Rules {
		if got := Rule(g, r); got != want[rule.Root] {
			t.Errorf("%+v: the rule %d has %v, and not %v", g, r, got, want[rule.Root])
		}
	}
	if next := Step(g, got); !slices.Equal(next, got) {
		t.Errorf("%+v: a step from the facts %v leads to %v", g, got, next)
	}
	l := make([]Facts, len(g.Nodes))
	for range 3 * len(g.Nodes) {
		checkStep(t, g, cs, l)
		next := Step(g, l)
		if !within(l, next) || !within(next, want) {
			t.Errorf("%+v: a step from %v leads to %v", g, l, next)
		}
		if slices.Equal(next, l) {
			break
		}
		l = next
	}
	if !slices.Equal(l, want) {
		t.Errorf("%+v: steps from no facts lead to %v, and not to %v", g, l, want)
	}
	return got
}

// checkStep compares a step with the model.
func checkStep(t *testing.T, g api.Grammar, cs []clause, l []Facts) {
	t.Helper()
	if got, want := Step(g, l), stepOf(cs, l); !slices.Equal(got, want) {
		t.Errorf("%+v: a step from %v leads to %v, and not to %v", g, l, got, want)
	}
}

// classed are rules that have each of the facts of eight, in this order.
const classed = `
X <- X
N <- ''
E <- 'a' / X
F <- []
NE <- 'a'*
NF <- &'a'
EF <- 'a'
NEF <- 'a' / &'a'
`

// names are the names of the rules of classed.
var names = strings.Fields("X N E F NE NF EF NEF")

// checkKids checks the facts of an expression whose kids are rules of classed, and that they are the same where the kids are told to Step.
func checkKids(t *testing.T, expression, want string) {
	t.Helper()
	g := read(t, "S <- "+expression+classed)
	if got := Rule(g, 0); got != factsOf(want) {
		t.Errorf("%s has %v, and not %s", expression, got, want)
	}
	root := g.Rules[0].Root
	if got := Of(g)[root]; got != factsOf(want) {
		t.Errorf("the node of %s has %v, and not %s", expression, got, want)
	}
	l := make([]Facts, len(g.Nodes))
	for _, kid := range g.Nodes[root].Kids {
		l[kid] = eight[g.Nodes[kid].Rule-1]
	}
	if got := Step(g, l)[root]; len(g.Nodes[root].Kids) > 0 && got != factsOf(want) {
		t.Errorf("a step tells %v of %s, and not %s", got, expression, want)
	}
}

// P11.1 and P11.3: there are nodes with each of the facts.
func TestEight(t *testing.T) {
	g := read(t, "S <- ''"+classed)
	for r, name := range names {
		if got := Rule(g, r+1); g.Rules[r+1].Name != name || got != eight[r] {
			t.Errorf("%s has %v, and not %v", name, got, eight[r])
		}
	}
}

// P11.1 and P11.2: a node with one kid or a call, for all facts of it, by hand.
func TestOneKid(t *testing.T) {
	for form, wants := range map[string]string{
		"%s":  "- n e f ne nf ef nef",
		"%s*": "- - e n e n ne ne",
		"%s+": "- - e f e nf ef nef",
		"%s?": "- n e n ne n ne ne",
		"&%s": "- n n f n nf nf nf",
		"!%s": "- f f n f nf nf nf",
	} {
		for k, want := range strings.Fields(wants) {
			checkKids(t, strings.ReplaceAll(form, "%s", names[k]), want)
		}
	}
}

// P11.1 and P11.2: sequences and choices of two kids, for all facts of both, by hand: a line for the first kid, and a column for the second one.
func TestTwoKids(t *testing.T) {
	for separator, lines := range map[string][]string{
		" ": {
			"- - - - - - - -",
			"- n e f ne nf ef nef",
			"- e e f e ef ef ef",
			"f f f f f f f f",
			"- ne e f ne nef ef nef",
			"f nf ef f nef nf ef nef",
			"f ef ef f ef ef ef ef",
			"f nef ef f nef nef ef nef",
		},
		" / ": {
			"- - - - - - - -",
			"n n n n n n n n",
			"e e e e e e e e",
			"- n e f ne nf ef nef",
			"ne ne ne ne ne ne ne ne",
			"n n ne nf ne nf nef nef",
			"e ne e ef ne nef ef nef",
			"ne ne ne nef ne nef nef nef",
		},
	} {
		for first, line := range lines {
			for second, want := range strings.Fields(line) {
				checkKids(t, names[first]+separator+names[second], want)
			}
		}
	}
}

// P11.1 and P11.2: sequences of more kids, by hand: a kid in the middle takes nothing, fails, or can do neither.
func TestMoreOfSequence(t *testing.T) {
	for kids, want := range map[string]string{
		"EF N EF": "ef", "N N N": "n", "N NF N": "nf", "NE N NE": "ne", "N E N": "e", "NE NE NF": "nef", "N N EF": "ef",
		"EF F EF": "f", "NE F N": "f", "N F X": "f", "N F N": "f", "NE NE F": "f", "E N F": "f", "F F F": "f",
		"EF X EF": "f", "N X F": "-", "NE X F": "-", "NF X N": "f", "N N X": "-", "N NF X": "f", "X N N": "-", "X F F": "-", "F X N": "f",
		"NEF E N": "ef", "NF NF NF": "nf", "NF NE NF": "nef", "NEF NEF NEF": "nef", "NE NE NE": "ne", "EF EF EF": "ef",
		"N NE NF N": "nef", "N N N F": "f", "N E X F": "-", "N NF X F": "f", "EF N N N": "ef", "N N N NE N": "ne", "N N N X N": "-",
	} {
		checkKids(t, kids, want)
	}
}

// P11.1 and P11.2: choices of more kids, by hand, as above.
func TestMoreOfChoice(t *testing.T) {
	for kids, want := range map[string]string{
		"F N X": "n", "EF N X": "ne", "NF N EF": "n", "F E N": "e", "EF NE X": "ne", "EF E N": "e", "NE EF F": "ne", "N X F": "n",
		"F F F": "f", "F F N": "n", "EF F N": "ne", "EF F F": "ef", "EF F X": "e", "F F NE": "ne", "NF F NF": "nf", "NF F EF": "nef",
		"F X N": "-", "EF X N": "e", "NF X EF": "n", "NEF X F": "ne", "X N N": "-", "F F X": "-", "X F F": "-",
		"EF NF N": "ne", "EF NF EF": "nef", "F EF NF": "nef", "NF EF NF": "nef", "NF NF F": "nf", "NEF NEF NEF": "nef", "EF EF EF": "ef",
		"F EF F X": "e", "F F F NEF": "nef", "EF F NF N": "ne", "F F F F": "f", "F F F X F": "-", "NF F F E X": "ne",
	} {
		checkKids(t, strings.ReplaceAll(kids, " ", " / "), want)
	}
}

// P11.1: Empty, and classes without members, with one, with one in each element of the set, and with all.
func TestLeaves(t *testing.T) {
	checkKids(t, "''", "n")
	checkKids(t, "[]", "f")
	checkKids(t, "'a'", "ef")
	checkKids(t, ".", "ef")
	for c := range 256 {
		x := tree{op: api.Class}
		x.set[c/64] = 1 << (c % 64)
		g := grammar(x)
		if got, step := Of(g), Step(g, eight[:1]); !slices.Equal(got, listOf("ef")) || !slices.Equal(step, got) {
			t.Errorf("the class of %d has %v, and by a step %v", c, got, step)
		}
	}
}

// byHand are files, and the facts of all nodes, written by hand.
var byHand = []struct{ file, want string }{
	// The examples of the chapter and of the document.
	{"A <- 'a' A / ''", "ef ne ef n ne"},
	{"A <- 'a' / 'ab'", "ef ef ef ef ef"},
	{"A <- ('a'?)*", "ef ne e"},
	{
		"S <- &(A 'c') 'a'+ B !.\nA <- 'a' A? 'b'\nB <- 'b' B? 'c'",
		"ef ef ef nf ef ef ef ef nf ef  ef ef ne ef ef  ef ef ne ef ef",
	},
	// Leaves, prefixes and suffixes.
	{"A <- ''", "n"}, {"A <- 'a'", "ef"}, {"A <- []", "f"},
	{"A <- ''*", "n -"}, {"A <- ''+", "n -"}, {"A <- ''?", "n n"}, {"A <- &''", "n n"}, {"A <- !''", "n f"},
	{"A <- []*", "f n"}, {"A <- []+", "f f"}, {"A <- []?", "f n"}, {"A <- &[]", "f f"}, {"A <- ![]", "f n"},
	{"A <- (!'a')*", "ef nf n"}, {"A <- (!'a')+", "ef nf nf"}, {"A <- !(!'a')", "ef nf nf"}, {"A <- ('a'*)+", "ef ne e"},
	// A rule that calls itself at once.
	{"A <- A", "-"}, {"A <- A*", "- -"}, {"A <- A+", "- -"}, {"A <- A?", "- -"}, {"A <- &A", "- -"}, {"A <- !A", "- -"},
	{"A <- A A", "- - -"}, {"A <- A / A", "- - -"}, {"A <- !(!A)", "- - -"}, {"A <- (A*)?", "- - -"},
	// On the left.
	{"A <- A 'x' / 'y'", "- ef - ef -"}, {"A <- A / 'a'", "- ef -"}, {"A <- A / ''", "- n -"}, {"A <- A ''", "- n -"},
	{"A <- '' A", "n - -"}, {"A <- ![] A", "f n - -"}, {"A <- 'a'? A 'b'", "ef ne - ef -"}, {"A <- 'a'* A", "ef ne - -"},
	// On the right.
	{"A <- 'a' A", "ef f f"}, {"A <- [] A", "f f f"}, {"A <- 'a' / A", "ef e e"}, {"A <- '' / A", "n n n"}, {"A <- [] / A", "f - -"},
	{"A <- 'a' A 'b' / ''", "ef ne ef ef n ne"}, {"A <- 'y' / A 'x'", "ef ef ef ef ef"}, {"A <- &'a' A", "ef nf f f"},
	// Under each prefix and suffix, after a byte and as another way.
	{"A <- 'a' A*", "ef ef ne ef"}, {"A <- 'a' A+", "ef f f f"}, {"A <- 'a' A?", "ef ef ne ef"}, {"A <- 'a' &A", "ef f f f"}, {"A <- 'a' !A", "ef ef nf ef"},
	{"A <- 'a' / A*", "ef e e e"}, {"A <- 'a' / A+", "ef e e e"}, {"A <- 'a' / A?", "ef e e e"}, {"A <- 'a' / &A", "ef ne n ne"}, {"A <- 'a' / !A", "ef nef nf nef"},
	// Through other rules.
	{"A <- B\nB <- A", "- -"}, {"A <- B\nB <- 'b'", "ef ef"}, {"A <- B\nB <- C\nC <- A", "- - -"}, {"A <- 'a'\nB <- A\nC <- B", "ef ef ef"},
	{"A <- B C\nB <- ''\nC <- 'c'", "n ef ef n ef"},
	{"A <- B 'a' / ''\nB <- A 'b' / 'c'", "- ef - n -  - ef - ef -"},
	{"A <- '' / B 'a'\nB <- A 'b' / 'c'", "n ef ef ef n  n ef ef ef ef"},
	{"A <- 'a' B / 'c'\nB <- 'b' A / ''", "ef ne ef ef ef  ef ef ef n ne"},
	{"A <- B 'a'\nB <- C / ''\nC <- 'c' A", "ne ef ef  ef n ne  ef ef ef"},
	{"A <- !B\nB <- !A", "- - - -"}, {"A <- !B\nB <- 'b' A", "ef nf ef nf ef"}, {"A <- B*\nB <- A+ 'b'", "- - - - ef -"},
	{"A <- B C\nB <- 'b' C?\nC <- 'c' B*", "ef ef ef  ef ef ne ef  ef ef ne ef"},
	// Rules from which no fact follows, and what other rules make of them.
	{"A <- '' / B\nB <- B", "n - n -"}, {"A <- 'a' / B\nB <- B 'b'", "ef - e - ef -"}, {"A <- 'a' B\nB <- !B", "ef - f - -"}, {"A <- [] / B / ''\nB <- B", "f - n - -"},
	{"A <- 'a' B 'c'\nB <- B", "ef - ef f -"}, {"A <- 'a' / B / 'c'\nB <- B?", "ef - ef e - -"}, {"A <- []\nB <- A / B", "f f - -"},
	// Rules that are not reached.
	{"A <- 'a'\nB <- B\nC <- ''", "ef - n"}, {"A <- A\nB <- 'b' C\nC <- 'c'?", "-  ef ne ef  ef ne"},
}

// P11.1 and P11.3: grammars by hand.
func TestByHand(t *testing.T) {
	for _, c := range byHand {
		g := read(t, c.file)
		want := listOf(c.want)
		if got := Of(g); !slices.Equal(got, want) {
			t.Errorf("%q has %v, and not %v", c.file, got, want)
		}
		for r, rule := range g.Rules {
			if got := Rule(g, r); got != want[rule.Root] {
				t.Errorf("%q: the rule %s has %v, and not %v", c.file, rule.Name, got, want[rule.Root])
			}
		}
		check(t, g)
	}
}

// P11.2 and P11.4: steps by hand: from none to what follows from them. All nodes take a step together, so facts come up one level by each.
func TestStepsByHand(t *testing.T) {
	for file, lists := range map[string][]string{
		"A <- ''":                  {"-", "n", "n"},
		"A <- A":                   {"-", "-"},
		"A <- 'a'*":                {"- -", "ef -", "ef ne", "ef ne"},
		"A <- 'a' A / ''":          {"- - - - -", "ef - - n -", "ef - f n -", "ef - f n n", "ef n f n n", "ef n ef n n", "ef n ef n ne", "ef ne ef n ne", "ef ne ef n ne"},
		"A <- B\nB <- C\nC <- 'c'": {"- - -", "- - ef", "- ef ef", "ef ef ef", "ef ef ef"},
		"A <- 'a'\nB <- A\nC <- B": {"- - -", "ef - -", "ef ef -", "ef ef ef", "ef ef ef"},
		"A <- 'a' / !A":            {"- - - -", "ef - - -", "ef - - e", "ef e - e", "ef e f e", "ef e f ef", "ef ef f ef", "ef ef nf ef", "ef ef nf nef", "ef nef nf nef", "ef nef nf nef"},
	} {
		g := read(t, file)
		for i, from := range lists[:len(lists)-1] {
			if got, want := Step(g, listOf(from)), listOf(lists[i+1]); !slices.Equal(got, want) {
				t.Errorf("%q: a step from %s leads to %v, and not to %v", file, from, got, want)
			}
		}
		if got, want := Of(g), listOf(lists[len(lists)-1]); !slices.Equal(got, want) {
			t.Errorf("%q has %v, and not %v", file, got, want)
		}
	}
}

// P11.2: steps by hand from other facts: those of a node itself are not carried over, unless the table yields them.
func TestNotCarriedOver(t *testing.T) {
	for _, c := range []struct{ file, from, want string }{
		{"A <- ''", "nef", "n"}, {"A <- ''", "ef", "n"}, {"A <- 'a'", "nef", "ef"}, {"A <- 'a'", "n", "ef"}, {"A <- []", "nef", "f"},
		{"A <- 'a'*", "nef nef", "ef ne"}, {"A <- 'a'*", "- nef", "ef -"}, {"A <- 'a'*", "n nef", "ef -"},
		{"A <- 'a'+", "- nef", "ef -"}, {"A <- 'a'+", "n nef", "ef -"}, {"A <- 'a'+", "nf -", "ef nf"},
		{"A <- 'a'?", "- nef", "ef -"}, {"A <- 'a'?", "nef -", "ef ne"}, {"A <- &'a'", "- nef", "ef -"}, {"A <- &'a'", "e nef", "ef n"},
		{"A <- !'a'", "- nef", "ef -"}, {"A <- !'a'", "f nef", "ef n"}, {"A <- !'a'", "e nef", "ef f"},
		{"A <- 'a' 'b'", "- - nef", "ef ef -"}, {"A <- 'a' 'b'", "n - nef", "ef ef -"}, {"A <- 'a' 'b'", "f nef nef", "ef ef f"}, {"A <- 'a' 'b'", "n e nef", "ef ef e"},
		{"A <- 'a' / 'b'", "- nef nef", "ef ef -"}, {"A <- 'a' / 'b'", "f - nef", "ef ef -"}, {"A <- 'a' / 'b'", "n nef nef", "ef ef n"}, {"A <- 'a' / 'b'", "ef nf -", "ef ef nef"},
		{"A <- B\nB <- 'b'", "nef -", "- ef"}, {"A <- B\nB <- 'b'", "- nef", "nef ef"}, {"A <- B\nB <- ''", "ef nf", "nf n"},
		// A call of its own rule has what it had, and two rules hand their facts to each other.
		{"A <- A", "nef", "nef"}, {"A <- A", "e", "e"}, {"A <- B\nB <- A", "n f", "f n"}, {"A <- B\nB <- C\nC <- A", "n e f", "e f n"},
		{"A <- 'a' A / ''", "nef nef nef nef nef", "ef nef nef n nef"}, {"A <- 'a' A / ''", "- - - - -", "ef - - n -"},
	} {
		g := read(t, c.file)
		if got, want := Step(g, listOf(c.from)), listOf(c.want); !slices.Equal(got, want) {
			t.Errorf("%q: a step from %s leads to %v, and not to %v", c.file, c.from, got, want)
		}
		checkStep(t, g, clauses(g), listOf(c.from))
	}
}

// P11.3: the texts of all facts.
func TestText(t *testing.T) {
	for f, want := range map[Facts]string{
		{}:                                  "-",
		{Null: true}:                        "n",
		{Eat: true}:                         "e",
		{Fail: true}:                        "f",
		{Null: true, Eat: true}:             "ne",
		{Null: true, Fail: true}:            "nf",
		{Eat: true, Fail: true}:             "ef",
		{Null: true, Eat: true, Fail: true}: "nef",
	} {
		for range 2 {
			if got := Text(f); got != want {
				t.Errorf("%v is %q, and not %q", f, got, want)
			}
		}
	}
}

// expressions returns all expressions of each number of nodes up to most.
func expressions(most int, leaves ...tree) [][]tree {
	all := [][]tree{nil, leaves}
	for n := 2; n <= most; n++ {
		var l []tree
		for _, kids := range kidLists(all, n-1) {
			if len(kids) > 1 {
				l = append(l, with(api.Seq, kids...), with(api.Choice, kids...))
				continue
			}
			for op := api.Star; op <= api.Not; op++ {
				l = append(l, with(op, kids...))
			}
		}
		all = append(all, l)
	}
	return all
}

// kidLists returns all lists of expressions that have n nodes together.
func kidLists(all [][]tree, n int) [][]tree {
	if n == 0 {
		return [][]tree{nil}
	}
	var l [][]tree
	for first := 1; first <= n; first++ {
		for _, x := range all[first] {
			for _, more := range kidLists(all, n-first) {
				l = append(l, append([]tree{x}, more...))
			}
		}
	}
	return l
}

// small calls do with all grammars of one and two rules, and with at most so many nodes.
func small(most int, do func(g api.Grammar)) {
	for _, l := range expressions(most, empty, nobyte, a, call(0)) {
		for _, x := range l {
			do(grammar(x))
		}
	}
	for n := 2; n <= most; n++ {
		for _, roots := range kidLists(expressions(most, empty, nobyte, a, call(0), call(1)), n) {
			if len(roots) == 2 {
				do(grammar(roots...))
			}
		}
	}
}

// P11.1 to P11.4: all grammars of one and two rules and at most four nodes.
func TestSmall(t *testing.T) {
	number := 0
	small(4, func(g api.Grammar) {
		number++
		if !t.Failed() {
			check(t, g)
		}
	})
	// 1264 of one rule, and 2650 of two.
	if number != 3914 {
		t.Errorf("%d grammars", number)
	}
}

// P11.1: the facts of small grammars are the least ones, which are those in all lists for which the table holds.
func TestLeast(t *testing.T) {
	small(4, func(g api.Grammar) {
		if t.Failed() {
			return
		}
		cs := clauses(g)
		if got, want := Of(g), bruteOf(g, cs); !slices.Equal(got, want) {
			t.Errorf("%+v: the facts are %v, and the least ones %v", g, got, want)
		}
	})
}

// lists calls do with all lists of n facts.
func lists(n int, do func(l []Facts)) {
	for code := range 1 << (3 * n) {
		var l []Facts
		for i := range n {
			l = append(l, eight[code>>(3*i)&7])
		}
		do(l)
	}
}

// P11.2 and P11.4: steps of small grammars from all lists of facts; and with one more fact, they lead to at least as many.
func TestAllSteps(t *testing.T) {
	small(3, func(g api.Grammar) {
		if t.Failed() {
			return
		}
		cs := clauses(g)
		lists(len(g.Nodes), func(l []Facts) {
			checkStep(t, g, cs, l)
			next := Step(g, l)
			for f := range 3 * len(l) {
				more := slices.Clone(l)
				add := []Facts{{Null: true}, {Eat: true}, {Fail: true}}[f%3]
				more[f/3] = union(more[f/3], add)
				if after := Step(g, more); !within(next, after) {
					t.Errorf("%+v: a step leads from %v to %v, and from %v to %v", g, l, next, more, after)
				}
			}
		})
	})
}

// union returns the facts of both.
func union(f, g Facts) Facts {
	return Facts{f.Null || g.Null, f.Eat || g.Eat, f.Fail || g.Fail}
}

// randomTree returns an expression at random of at most some depth, for a grammar of some number of rules.
func randomTree(r *rand.Rand, rules, depth int) tree {
	if depth == 1 || r.IntN(6) == 0 {
		return []tree{empty, nobyte, a, a, dot, call(r.IntN(rules)), call(r.IntN(rules)), call(r.IntN(rules))}[r.IntN(8)]
	}
	op := api.Seq + r.IntN(api.Not+1-api.Seq)
	if r.IntN(2) == 0 {
		op = api.Seq + r.IntN(2)
	}
	n := 1
	if op == api.Seq || op == api.Choice {
		n = 2 + r.IntN(3)
	}
	x := tree{op: op}
	for range n {
		x.kids = append(x.kids, randomTree(r, rules, depth-1))
	}
	return x
}

// randomGrammar returns a grammar at random.
func randomGrammar(r *rand.Rand) api.Grammar {
	roots := make([]tree, 1+r.IntN(7))
	for i := range roots {
		roots[i] = randomTree(r, len(roots), 1+r.IntN(4))
	}
	return grammar(roots...)
}

// P11.1, P11.3 and P11.4: grammars at random.
func TestRandom(t *testing.T) {
	r := rand.New(rand.NewPCG(11, 1))
	seen := map[Facts]int{}
	for range 4000 {
		g := randomGrammar(r)
		if err := gram.Check(g); err != nil {
			t.Fatalf("%+v is not valid: %v", g, err)
		}
		for i, f := range check(t, g) {
			if op := g.Nodes[i].Op; op == api.Call || op == api.Seq || op == api.Choice {
				seen[f]++
			}
		}
		if t.Failed() {
			return
		}
	}
	for _, f := range eight {
		if seen[f] < 300 {
			t.Errorf("%s has been seen only %d times", Text(f), seen[f])
		}
	}
}

// randomFacts returns facts at random of n nodes.
func randomFacts(r *rand.Rand, n int) []Facts {
	l := make([]Facts, n)
	for i := range l {
		l[i] = eight[r.IntN(8)]
	}
	return l
}

// P11.2 and P11.4: steps of grammars at random: from no facts, all facts, the facts of Of, facts at random, and from more and from less than these.
func TestRandomSteps(t *testing.T) {
	r := rand.New(rand.NewPCG(11, 2))
	for range 3000 {
		g := randomGrammar(r)
		cs := clauses(g)
		n := len(g.Nodes)
		checkStep(t, g, cs, make([]Facts, n))
		checkStep(t, g, cs, slices.Repeat(eight[7:], n))
		checkStep(t, g, cs, Of(g))
		for _, l := range [][]Facts{randomFacts(r, n), Of(g)} {
			checkStep(t, g, cs, l)
			more := slices.Clone(l)
			for i, f := range randomFacts(r, n) {
				more[i] = union(l[i], f)
			}
			checkStep(t, g, cs, more)
			if from, to := Step(g, l), Step(g, more); !within(from, to) {
				t.Errorf("%+v: a step leads from %v to %v, and from %v to %v", g, l, from, more, to)
			}
		}
		if t.Failed() {
			return
		}
	}
}

// P11.1 to P11.4: as many rules as there may be, of which each calls the next one, the one before it, or one far from it.
func TestManyRules(t *testing.T) {
	const most = api.MaxRules
	for _, c := range []struct {
		name string
		next func(r int) int // the rule that is called, or the rule itself for a byte
		want string
		step int // after so many steps from no facts, they are all there
	}{
		{"to the end", func(r int) int { return min(r+1, most-1) }, "ef", most},
		{"to the start", func(r int) int { return max(r-1, 0) }, "ef", most},
		{"all to the middle", func(r int) int { return most / 2 }, "ef", 2},
		{"in a circle", func(r int) int { return (r + 387) % most }, "-", 0},
	} {
		var roots []tree
		for r := range most {
			root := a
			if next := c.next(r); next != r {
				root = call(next)
			}
			roots = append(roots, root)
		}
		g := grammar(roots...)
		want := slices.Repeat(listOf(c.want), most)
		if got := check(t, g); !slices.Equal(got, want) {
			t.Errorf("%s: the facts are %v", c.name, got)
		}
		l := make([]Facts, most)
		steps := 0
		for ; steps < 3*most && !slices.Equal(l, want); steps++ {
			l = Step(g, l)
		}
		if steps != c.step {
			t.Errorf("%s: there are %d steps, and not %d", c.name, steps, c.step)
		}
	}
}

// P11.1: as many nodes as there may be, in one sequence or choice: its facts follow once those of all kids are known, which come to calls one after another.
func TestManyNodes(t *testing.T) {
	nef := with(api.Choice, a, with(api.Not, call(1)))
	for _, c := range []struct {
		name      string
		op        int
		kid, last tree
		want      string
	}{
		{"bytes", api.Seq, a, a, "ef"},
		{"bytes", api.Choice, a, a, "ef"},
		{"bytes and nothing", api.Choice, a, empty, "ne"},
		{"nothing", api.Seq, empty, empty, "n"},
		{"nothing and a failure", api.Seq, empty, nobyte, "f"},
		{"failures and nothing", api.Choice, nobyte, empty, "n"},
		{"calls", api.Seq, call(1), call(1), "nef"},
		{"calls", api.Choice, call(1), call(1), "nef"},
		{"calls and nothing", api.Choice, call(1), empty, "ne"},
		{"calls and the rule itself", api.Seq, call(1), call(0), "f"},
		{"calls and the rule itself", api.Choice, call(1), call(0), "ne"},
	} {
		kids := slices.Repeat([]tree{c.kid}, api.MaxNodes-6)
		g := grammar(with(c.op, append(kids, c.last)...), nef)
		if err := gram.Check(g); err != nil || len(g.Nodes) != api.MaxNodes {
			t.Fatalf("%d nodes: %v", len(g.Nodes), err)
		}
		got := Of(g)
		if got[g.Rules[0].Root] != factsOf(c.want) || Rule(g, 1) != factsOf("nef") {
			t.Errorf("%s with the Op %d: the rules have %v and %v, and not %s and nef", c.name, c.op, got[g.Rules[0].Root], Rule(g, 1), c.want)
		}
		if next := Step(g, got); !slices.Equal(next, got) {
			t.Errorf("%s with the Op %d: a step leads to other facts", c.name, c.op)
		}
		l := make([]Facts, len(g.Nodes))
		for range 20 {
			l = Step(g, l)
		}
		if !slices.Equal(l, got) {
			t.Errorf("%s with the Op %d: steps from no facts lead to other facts", c.name, c.op)
		}
	}
}

// P11.1 to P11.4: as many levels as there may be.
func TestManyLevels(t *testing.T) {
	for _, c := range []struct {
		up   func(x tree) tree
		want string // of the root
	}{
		{func(x tree) tree { return with(api.Not, x) }, "nf"},
		{func(x tree) tree { return with(api.And, x) }, "nf"},
		{func(x tree) tree { return with(api.Star, x) }, "e"},
		{func(x tree) tree { return with(api.Plus, x) }, "ef"},
		{func(x tree) tree { return with(api.Opt, x) }, "ne"},
		{func(x tree) tree { return with(api.Seq, empty, x) }, "ef"},
		{func(x tree) tree { return with(api.Seq, x, call(0)) }, "f"},
		{func(x tree) tree { return with(api.Choice, x, empty) }, "ne"},
		{func(x tree) tree { return with(api.Choice, x, call(0)) }, "e"},
	} {
		x := a
		for range api.MaxDepth - 1 {
			x = c.up(x)
		}
		g := grammar(x)
		if err := gram.Check(g); err != nil {
			t.Fatal(err)
		}
		if got := check(t, g)[g.Rules[0].Root]; got != factsOf(c.want) {
			t.Errorf("Op %d: the root has %v, and not %s", g.Nodes[g.Rules[0].Root].Op, got, c.want)
		}
	}
}

// Nodes are taken from the queue in ascending order, each once, however often and in whatever order they are put into it.
func TestQueue(t *testing.T) {
	q := newQueue(53)
	for step := range 52 {
		for want := range 53 {
			if got := q.take(); got != want {
				t.Fatalf("step %d: %d is taken, and not %d", step, got, want)
			}
		}
		if q.Len() != 0 {
			t.Fatalf("step %d: %d nodes are left", step, q.Len())
		}
		for i := range 106 {
			q.add(i * (step + 1) % 53)
		}
	}
}

// spare returns a copy of a list with one more element in its unused capacity.
func spare[T any](l []T, more T) []T { return append(slices.Clone(l), more)[:len(l)] }

// spareGrammar returns a copy of a grammar whose lists have unused capacity.
func spareGrammar(g api.Grammar) api.Grammar {
	s := api.Grammar{
		Rules: spare(g.Rules, api.Rule{Name: "more", Root: 7}),
		Nodes: spare(g.Nodes, api.Node{Op: api.Class, Rule: 7, Set: dot.set}),
	}
	for i, n := range s.Nodes {
		s.Nodes[i].Kids = spare(n.Kids, 7)
	}
	return s
}

// whole returns a grammar with its unused capacity, as a text.
func whole(g api.Grammar) string {
	s := api.Grammar{Rules: g.Rules[:cap(g.Rules)], Nodes: slices.Clone(g.Nodes[:cap(g.Nodes)])}
	for i, n := range s.Nodes {
		s.Nodes[i].Kids = n.Kids[:cap(n.Kids)]
	}
	return fmt.Sprintf("%+v", s)
}

// Rules 4, 5 and 7: arguments and their unused capacity stay and are not read, a second call returns the same, and nil and empty lists are equivalent.
func TestArgumentsStay(t *testing.T) {
	r := rand.New(rand.NewPCG(11, 3))
	for range 500 {
		g := randomGrammar(r)
		l := randomFacts(r, len(g.Nodes))
		facts, next := Of(g), Step(g, l)
		sg, sl := spareGrammar(g), spare(l, eight[7])
		for i, n := range sg.Nodes {
			if len(n.Kids) == 0 && r.IntN(2) == 0 {
				sg.Nodes[i].Kids = []int{}
			}
		}
		before := whole(sg) + fmt.Sprint(sl[:cap(sl)])
		for range 2 {
			if got := Of(sg); !slices.Equal(got, facts) {
				t.Fatalf("%+v: the facts are %v, and not %v", g, got, facts)
			}
			if got := Step(sg, sl); !slices.Equal(got, next) {
				t.Fatalf("%+v: a step from %v leads to %v, and not to %v", g, l, got, next)
			}
			for i, rule := range g.Rules {
				if got := Rule(sg, i); got != facts[rule.Root] {
					t.Fatalf("%+v: the rule %d has %v, and not %v", g, i, got, facts[rule.Root])
				}
			}
		}
		if whole(sg)+fmt.Sprint(sl[:cap(sl)]) != before {
			t.Fatalf("%+v: an argument has changed", g)
		}
	}
}

// Rule 5: results are new memory: neither arguments nor later results change with them.
func TestResultsAreNew(t *testing.T) {
	for _, c := range byHand {
		g := read(t, c.file)
		l := Of(g)
		next := Step(g, l)
		for i := range next {
			next[i] = Facts{}
		}
		if want := listOf(c.want); !slices.Equal(l, want) || !slices.Equal(Of(g), want) || !slices.Equal(Step(g, l), want) {
			t.Errorf("%q: the facts have changed with a result", c.file)
		}
		again := Step(g, l)
		for i := range l {
			l[i] = Facts{}
		}
		if !slices.Equal(again, listOf(c.want)) {
			t.Errorf("%q: a result has changed with an argument", c.file)
		}
	}
}

// P1: all functions end and do not panic where they are not specified: grammars that are not valid, lists of another length, and indices of no rules.
func TestUnspecified(t *testing.T) {
	base := read(t, "A <- B !A / 'a'*\nB <- 'b' A / ''\nC <- C")
	grammars := []api.Grammar{{}, {Rules: make([]api.Rule, 3)}, {Nodes: make([]api.Node, 3)}}
	wrong := []int{math.MinInt, -1, 0, 3, 10, 11, 12, math.MaxInt}
	for _, x := range wrong {
		for i := range base.Nodes {
			for _, change := range []func(n *api.Node){
				func(n *api.Node) { n.Op = x },
				func(n *api.Node) { n.Rule = x },
				func(n *api.Node) { n.Kids = nil },
				func(n *api.Node) { n.Kids = []int{x} },
				func(n *api.Node) { n.Kids = []int{i, x, i, 0} },
				func(n *api.Node) { n.Op, n.Kids = api.Not, []int{i} },
				func(n *api.Node) { n.Op, n.Rule = api.Call, x },
			} {
				g := gram.Clone(base)
				change(&g.Nodes[i])
				grammars = append(grammars, g)
			}
		}
		for r := range base.Rules {
			g := gram.Clone(base)
			g.Rules[r].Root = x
			grammars = append(grammars, g)
		}
	}
	for _, g := range grammars {
		for n := range len(g.Nodes) + 3 {
			Step(g, slices.Repeat(eight[7:], n))
		}
		if got := Of(g); len(got) != len(g.Nodes) {
			t.Errorf("%+v: there are %d facts", g, len(got))
		}
		for _, r := range append(wrong, 1, 2) {
			if got := Rule(g, r); (r < 0 || r >= len(g.Rules)) && got != (Facts{}) {
				t.Errorf("%+v: the rule %d, which there is not, has %v", g, r, got)
			}
		}
	}
}
