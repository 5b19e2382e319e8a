package resolve

import (
	"errors"
	"fmt"
	"math"
	"math/rand/v2"
	"slices"
	"strings"
	"testing"
	"unsafe"

	"vetch/api"
	"vetch/build"
	"vetch/fault"
	"vetch/gram"
	"vetch/syntax"
)

// Expressions are told here as items in prefix order (layer 6), which become nodes in post-order.

type items []build.Item

var (
	empty = items{{Op: api.Empty}}
	dot   = items{{Op: api.Class, Set: api.Set{math.MaxUint64, math.MaxUint64, math.MaxUint64, math.MaxUint64}}}
)

// char returns the class of one byte.
func char(c byte) items {
	var s api.Set
	s[c/64] |= 1 << (c % 64)
	return items{{Op: api.Class, Set: s}}
}

// call returns the call of the rule with an index.
func call(rule int) items { return items{{Op: api.Call, Rule: rule}} }

func with(op int, kids ...items) items {
	return append(items{{Op: op, Kids: len(kids)}}, slices.Concat(kids...)...)
}

// rule is a rule of a grammar that is expected.
type rule struct {
	name string
	root items
}

func grammarOf(t *testing.T, rules ...rule) api.Grammar {
	t.Helper()
	var l []build.Rule
	for _, r := range rules {
		l = append(l, build.Rule{Name: r.name, Items: r.root})
	}
	g, ok := build.Of(l)
	if !ok {
		t.Fatal("there are items of no expression")
	}
	return g
}

// equal compares two grammars field by field.
func equal(a, b api.Grammar) bool { return fmt.Sprintf("%+v", a) == fmt.Sprintf("%+v", b) }

// zero reports whether a grammar is the zero value.
func zero(g api.Grammar) bool { return len(g.Rules) == 0 && len(g.Nodes) == 0 }

func parse(t *testing.T, s string) syntax.File {
	t.Helper()
	f, err := syntax.Parse(s)
	if err != nil {
		t.Fatalf("%.200q: %v", s, err)
	}
	return f
}

// named is an error that is expected: within a rule or call (or within nothing, if bare), with a code and an offset.
type named struct {
	name string
	code api.Code
	at   int
	bare bool
}

func (n named) text() string {
	if n.bare {
		return fmt.Sprintf("error %d", n.code)
	}
	return fmt.Sprintf("rule %s: error %d", n.name, n.code)
}

// checkError checks the text and the chain of an error, without package fault, and that the grammar is zero.
func checkError(t *testing.T, s string, g api.Grammar, err error, want named) {
	t.Helper()
	if err == nil || err.Error() != want.text() || !zero(g) {
		t.Errorf("%.200q: %.200v, %v, and not %s", s, g, err, want.text())
		return
	}
	if !want.bare {
		err = errors.Unwrap(err)
	}
	if f, ok := err.(api.Fault); !ok || f != (api.Fault{Code: want.code, At: want.at}) {
		t.Errorf("%.200q: %#v, and not the code %d at %d", s, err, want.code, want.at)
	}
}

// checkGrammar checks a grammar without an error.
func checkGrammar(t *testing.T, s string, g api.Grammar, err error, want api.Grammar) {
	t.Helper()
	if err != nil || !equal(g, want) {
		t.Errorf("%.200q: %.2000v, %v, and not %.2000v", s, g, err, want)
	}
}

// Closed files, and their grammars.
var closed = []struct {
	s    string
	want []rule
}{
	// One rule.
	{"A <-", []rule{{"A", empty}}},
	{"A <- 'a'", []rule{{"A", char('a')}}},
	{" longer_Name1 <- .", []rule{{"longer_Name1", dot}}},
	{"A <- 'ab' / [c]", []rule{{"A", with(api.Choice, with(api.Seq, char('a'), char('b')), char('c'))}}},
	// Calls of the rule itself.
	{"A <- A", []rule{{"A", call(0)}}},
	{"A <- 'a' A / ''", []rule{{"A", with(api.Choice, with(api.Seq, char('a'), call(0)), empty)}}},
	{"A <- A A A", []rule{{"A", with(api.Seq, call(0), call(0), call(0))}}},
	{"A <- 'a' B <- B", []rule{{"A", char('a')}, {"B", call(1)}}},
	// Calls of later rules.
	{"A <- B B <- 'b'", []rule{{"A", call(1)}, {"B", char('b')}}},
	{"A <- B C\nB <- C\nC <- ''", []rule{{"A", with(api.Seq, call(1), call(2))}, {"B", call(2)}, {"C", empty}}},
	{"A <- C B\nB <- 'b'\nC <- 'c'", []rule{{"A", with(api.Seq, call(2), call(1))}, {"B", char('b')}, {"C", char('c')}}},
	// Calls of earlier rules.
	{"A <- 'a'\nB <- A", []rule{{"A", char('a')}, {"B", call(0)}}},
	{"A <- ''\nB <- A\nC <- B / A", []rule{{"A", empty}, {"B", call(0)}, {"C", with(api.Choice, call(1), call(0))}}},
	// Rules that nothing calls.
	{"A <-\nB <-\nC <-", []rule{{"A", empty}, {"B", empty}, {"C", empty}}},
	// All kinds of calls, within all kinds of nodes.
	{"A <- &(B? C+ / !A*) .\nB <- C 'b'\nC <- A / B", []rule{
		{"A", with(api.Seq, with(api.And, with(api.Choice, with(api.Seq, with(api.Opt, call(1)), with(api.Plus, call(2))), with(api.Not, with(api.Star, call(0))))), dot)},
		{"B", with(api.Seq, call(2), char('b'))},
		{"C", with(api.Choice, call(0), call(1))},
	}},
	// Names that differ only a little.
	{"a <- A aa\nA <- a\naa <- a_\na_ <- a1\na1 <- a", []rule{
		{"a", with(api.Seq, call(1), call(2))}, {"A", call(0)}, {"aa", call(3)}, {"a_", call(4)}, {"a1", call(0)},
	}},
	// Examples of the document.
	{"S <- &(A 'c') 'a'+ B !.\nA <- 'a' A? 'b'\nB <- 'b' B? 'c'", []rule{
		{"S", with(api.Seq, with(api.And, with(api.Seq, call(1), char('c'))), with(api.Plus, char('a')), call(2), with(api.Not, dot))},
		{"A", with(api.Seq, char('a'), with(api.Opt, call(1)), char('b'))},
		{"B", with(api.Seq, char('b'), with(api.Opt, call(2)), char('c'))},
	}},
}

// P9.1 and P9.3: closed files have grammars.
func TestClosed(t *testing.T) {
	for _, c := range closed {
		want := grammarOf(t, c.want...)
		g, err := Of(parse(t, c.s))
		checkGrammar(t, c.s, g, err, want)
		g, err = Grammar(c.s)
		checkGrammar(t, c.s, g, err, want)
		if err := gram.Check(g); err != nil {
			t.Errorf("%q: the grammar is not valid: %v", c.s, err)
		}
	}
}

// P9.1: the names and roots of the rules, and the nodes, by hand.
func TestNodes(t *testing.T) {
	g, err := Of(parse(t, "A <- 'a' B / ''\nB <- A* A"))
	want := api.Grammar{
		Rules: []api.Rule{{Name: "A", Root: 4}, {Name: "B", Root: 8}},
		Nodes: []api.Node{
			{Op: api.Class, Set: api.Set{0, 1 << ('a' - 64)}},
			{Op: api.Call, Rule: 1},
			{Op: api.Seq, Kids: []int{0, 1}},
			{Op: api.Empty},
			{Op: api.Choice, Kids: []int{2, 3}},
			{Op: api.Call, Rule: 0},
			{Op: api.Star, Kids: []int{5}},
			{Op: api.Call, Rule: 0},
			{Op: api.Seq, Kids: []int{6, 7}},
		},
	}
	checkGrammar(t, "two rules", g, err, want)
}

// Files whose names are wrong. The mark ^ is before the rule or call with the first error, and is no part of the file.
var open = []struct {
	s    string
	name string
	code api.Code
}{
	// The same name at two, three and more rules.
	{"A <- '' ^A <- ''", "A", api.Duplicate},
	{"A <- ''\nB <- ''\n^A <- ''", "A", api.Duplicate},
	{"A <- ''\nB <- ''\n^B <- ''\nA <- ''", "B", api.Duplicate},
	{"A <- '' ^A <- '' A <- ''", "A", api.Duplicate},
	{"first <- ''\n^first <- ''\nfirst <- ''\nfirst <- ''", "first", api.Duplicate},
	{"A <- B\nB <- A\nC <- A\n\n # again\n ^B <- C", "B", api.Duplicate},
	{"A <- '' B <- '' C <- '' ^A <- '' B <- '' C <- ''", "A", api.Duplicate},
	// A name of no rule at the first, at a later and at several calls.
	{"A <- ^B", "B", api.Undefined},
	{"A <- A ^B", "B", api.Undefined},
	{"A <- A ^B B", "B", api.Undefined},
	{"A <- ^B C", "B", api.Undefined},
	{"A <- ^C B", "C", api.Undefined},
	{"A <- B B <- A ^C A", "C", api.Undefined},
	{"A <- (B / &(!^other_1)*)+ B <- C", "other_1", api.Undefined},
	{"A <- ^a", "a", api.Undefined},
	{"A1 <- ^A", "A", api.Undefined},
	{"A <- ^A1", "A1", api.Undefined},
	// Both errors: the rule is first, wherever the call is.
	{"A <- B ^A <- ''", "A", api.Duplicate},
	{"A <- '' ^A <- B", "A", api.Duplicate},
	{"A <- B B <- C ^B <- ''", "B", api.Duplicate},
	{"X <- C\nA <- B\nB <- D\n^A <- C\nB <- X\nX <- A", "A", api.Duplicate},
}

// P9.1 and P9.3: the first error of files whose names are wrong.
func TestOpen(t *testing.T) {
	for _, c := range open {
		at := strings.Index(c.s, "^")
		s := c.s[:at] + c.s[at+1:]
		want := named{name: c.name, code: c.code, at: at}
		g, err := Of(parse(t, s))
		checkError(t, s, g, err, want)
		g, err = Grammar(s)
		checkError(t, s, g, err, want)
	}
}

// The example of the chapter.
func TestExample(t *testing.T) {
	const s = "A <- B"
	want := named{name: "B", code: 3, at: 5}
	g, err := Of(parse(t, s))
	checkError(t, s, g, err, want)
	g, err = Grammar(s)
	checkError(t, s, g, err, want)
	if err == nil || err.Error() != "rule B: error 3" {
		t.Errorf("%v", err)
	}
}

// P9.2: the first rule with a name, by hand.
func TestRule(t *testing.T) {
	for s, rules := range map[string]map[string]int{
		"A <- ''":                             {"A": 0, "B": -1, "": -1, "a": -1, "AA": -1, " A": -1, "A ": -1},
		"A <- B":                              {"A": 0, "B": -1, "": -1},
		"A <- '' B <- A C <- D":               {"A": 0, "B": 1, "C": 2, "D": -1, "": -1, "A B": -1},
		"A <- '' A <- ''":                     {"A": 0, "": -1},
		"A <- '' B <- '' A <- B B <- A":       {"A": 0, "B": 1},
		"C <- '' B <- '' A <- '' A <- B B <-": {"A": 2, "B": 1, "C": 0},
		"a_1 <- 'x' a_2 <- a_1":               {"a_1": 0, "a_2": 1, "a_": -1, "x": -1, "'x'": -1, "\x00": -1, "\xff": -1},
	} {
		f := parse(t, s)
		for name, want := range rules {
			if got := Rule(f, name); got != want {
				t.Errorf("%q: %q is rule %d, and not %d", s, name, got, want)
			}
		}
	}
}

// P9.2: names that are called or defined only, by hand (with a space between each two).
func TestNames(t *testing.T) {
	for _, c := range []struct{ s, undefined, unused string }{
		// No name.
		{"A <- ''", "", ""},
		{"A <- A", "", ""},
		{"A <- B B <- A", "", ""},
		{"A <- A B B B <- ''", "", ""},
		// One and several calls of no rule.
		{"A <- B", "B", ""},
		{"A <- B C", "B C", ""},
		{"A <- C B", "C B", ""},
		{"A <- A C A B", "C B", ""},
		{"A <- B D D <- C A", "B C", ""},
		// Names that are called more than once.
		{"A <- B B", "B", ""},
		{"A <- C B C B C", "C B", ""},
		{"A <- B C B <- C D C D", "C D", ""},
		{"A <- x y x B z B <- y z w x", "x y z w", ""},
		// One and several rules that nothing calls.
		{"A <- '' B <- ''", "", "B"},
		{"A <- '' B <- '' C <- ''", "", "B C"},
		{"A <- '' C <- '' B <- ''", "", "C B"},
		{"A <- C B <- '' C <- ''", "", "B"},
		{"A <- C B <- '' C <- '' D <- 'B' # B\n", "", "B D"},
		// A first rule that nothing calls, and one that is called.
		{"A <- B B <- B", "", ""},
		{"A <- B B <- A", "", ""},
		// Rules that only call themselves, or each other.
		{"A <- '' B <- B", "", ""},
		{"A <- '' B <- C C <- B", "", ""},
		{"A <- '' B <- B C <- D", "D", "C"},
		// Names that are defined more than once.
		{"A <- '' B <- '' B <- ''", "", "B"},
		{"A <- '' C <- '' B <- '' C <- '' B <- ''", "", "C B"},
		{"A <- B B <- '' B <- ''", "", ""},
		// The first rule is excepted, but not another rule with its name.
		{"A <- '' A <- ''", "", "A"},
		{"A <- '' B <- '' A <- '' A <- ''", "", "B A"},
		{"A <- A A <- ''", "", ""},
		// Names of both kinds, which differ only a little.
		{"A <- a Aa <- A_", "a A_", "Aa"},
		{"A <- B1 C B <- B2 B3 <- B1", "B1 C B2", "B B3"},
	} {
		f := parse(t, c.s)
		if got := strings.Join(Undefined(f), " "); got != c.undefined {
			t.Errorf("%q: %q is not defined, and not %q", c.s, got, c.undefined)
		}
		if got := strings.Join(Unused(f), " "); got != c.unused {
			t.Errorf("%q: %q is not used, and not %q", c.s, got, c.unused)
		}
	}
}

// nest returns an expression within n others.
func nest(before, inner, after string, n int) string {
	return strings.Repeat(before, n) + inner + strings.Repeat(after, n)
}

// many returns a file with some rules that have no nodes but one.
func many(rules int) string {
	var b strings.Builder
	for i := range rules {
		fmt.Fprintf(&b, "r%d <-\n", i)
	}
	return b.String()
}

// P9.3: for each of the steps, strings with their first error there, and with errors of two steps.
func TestSteps(t *testing.T) {
	classes := strings.Repeat(".", 9999)
	for _, c := range []struct {
		name, s string
		want    named
	}{
		// syntax.Parse.
		{"no file", "", named{code: 1, at: 0, bare: true}},
		{"a character", "A <- $", named{code: 1, at: 5, bare: true}},
		{"a literal without an end", "A <- B 'x", named{code: 1, at: 7, bare: true}},
		{"a wrong token", "A <- (B <- c", named{code: 1, at: 8, bare: true}},
		{"a missing close", "A <- (A", named{code: 1, at: 7, bare: true}},
		{"parentheses", "A <- " + nest("(", "A", ")", 201), named{code: 5, at: 205, bare: true}},
		// Of.
		{"a rule", "A <- '' A <- ''", named{name: "A", code: 2, at: 8}},
		{"a call", "A <- 'b' B", named{name: "B", code: 3, at: 9}},
		// gram.Check, which has no offset for too many nodes or rules.
		{"depth", "A <- " + nest("(!", "'a'", ")", 200), named{name: "nodes", code: 5, at: 200}},
		{"depth of a later rule", "A <- 'a'\nB <- " + nest("(", "A", ")?", 200) + "\nC <-", named{name: "nodes", code: 5, at: 201}},
		// Two steps: the first is told.
		{"a wrong token, and a rule before it", "A <- '' A <- '' )", named{code: 1, at: 16, bare: true}},
		{"a wrong token, and a call before it", "A <- B )", named{code: 1, at: 7, bare: true}},
		{"a wrong token, and depth before it", "A <- " + nest("(!", "'a'", ")", 200) + ")", named{code: 1, at: 608, bare: true}},
		{"a wrong token, and nodes before it", "A <- " + classes + ". .)", named{code: 1, at: 10007, bare: true}},
		{"parentheses, and a call before them", "A <- B " + nest("(", "A", ")", 201), named{code: 5, at: 207, bare: true}},
		{"depth, and a call behind it", "A <- " + nest("(!", "'a'", ")", 200) + " B", named{name: "B", code: 3, at: 609}},
		{"depth, and a rule behind it", "A <- " + nest("(!", "'a'", ")", 200) + " A <-", named{name: "A", code: 2, at: 609}},
		{"nodes, and a call behind them", "A <- " + classes + ". B", named{name: "B", code: 3, at: 10006}},
		{"rules, and one more with the same name", many(1000) + "r7 <-", named{name: "r7", code: 2, at: len(many(1000))}},
	} {
		g, err := Grammar(c.s)
		checkError(t, c.name, g, err, c.want)
	}
}

// P9.3: the limits of grammars. Too many rules or nodes are told before depth.
func TestLimits(t *testing.T) {
	nodes := strings.Repeat(".", api.MaxNodes)
	deep := nest("(!", "'a'", ")", 200)
	for _, c := range []struct {
		name, s string
		large   bool
	}{
		{"1000 rules", many(1000), false},
		{"1001 rules", many(1001), true},
		{"10000 nodes", "A <- " + nodes[1:], false},
		{"10001 nodes", "A <- " + nodes, true},
		{"10000 nodes of two rules", "A <- " + nodes[:5000] + " B <- " + nodes[:4998], false},
		{"10001 nodes of two rules", "A <- " + nodes[:5000] + " B <- " + nodes[:4999], true},
		{"the depth of 200", "A <- " + nest("(!", "'a'", ")", 199), false},
		{"1001 rules and depth", many(1000) + "A <- " + deep, true},
		{"10001 nodes and depth", "A <- " + deep + nodes[:9799], true},
	} {
		g, err := Grammar(c.s)
		f := parse(t, c.s)
		if c.large {
			if !sameError(err, api.TooLarge) || !zero(g) {
				t.Errorf("%s: %v, and not the code %d", c.name, err, api.TooLarge)
			}
			continue
		}
		if err != nil || len(g.Rules) != len(f.Rules) || len(g.Nodes) != len(f.Nodes) || gram.Check(g) != nil {
			t.Errorf("%s: %v", c.name, err)
		}
	}
}

// sameError reports whether an error is a code itself, without a name and an offset.
func sameError(err error, code api.Code) bool {
	c, ok := err.(api.Code)
	return ok && c == code
}

// P9.1: Of has no limits: files that are too large or too deep have grammars that are not valid.
func TestOfNotValid(t *testing.T) {
	for name, s := range map[string]string{
		"rules": many(1500),
		"nodes": "A <-" + strings.Repeat(" A", 12000),
		"depth": "A <- " + nest("(!", "A", ")", 200),
	} {
		f := parse(t, s)
		g, err := Of(f)
		if err != nil || len(g.Rules) != len(f.Rules) || len(g.Nodes) != len(f.Nodes) || gram.Check(g) == nil {
			t.Errorf("%s: %v, and %v", name, err, gram.Check(g))
		}
	}
}

// source is a file that is told by its names: those of the rules, and for each rule those that it calls.
type source struct {
	rules []string
	calls [][]string
}

// write returns the file as a string, and the offsets of the names.
func (c source) write() (s string, rules []int, calls [][]int) {
	var b strings.Builder
	calls = make([][]int, len(c.rules))
	for i, name := range c.rules {
		rules = append(rules, b.Len())
		b.WriteString(name + "<-")
		for _, call := range c.calls[i] {
			b.WriteString(" ")
			calls[i] = append(calls[i], b.Len())
			b.WriteString(call)
		}
		b.WriteString("\n")
	}
	return b.String(), rules, calls
}

// error returns the error that the file has, if it has one.
func (c source) error(rules []int, calls [][]int) (named, bool) {
	for i := range c.rules {
		for j := range i {
			if c.rules[i] == c.rules[j] {
				return named{name: c.rules[i], code: api.Duplicate, at: rules[i]}, true
			}
		}
	}
	for i, l := range c.calls {
		for j, call := range l {
			if !slices.Contains(c.rules, call) {
				return named{name: call, code: api.Undefined, at: calls[i][j]}, true
			}
		}
	}
	return named{}, false
}

// grammar returns the rules of the grammar, if there is no error.
func (c source) grammar() []rule {
	var l []rule
	for i, name := range c.rules {
		kids := []items{}
		for _, name := range c.calls[i] {
			kids = append(kids, call(slices.Index(c.rules, name)))
		}
		root := empty
		if len(kids) == 1 {
			root = kids[0]
		} else if len(kids) > 1 {
			root = with(api.Seq, kids...)
		}
		l = append(l, rule{name, root})
	}
	return l
}

// undefined and unused return the names that Undefined and Unused return.
func (c source) undefined() []string {
	var l []string
	for _, call := range slices.Concat(c.calls...) {
		if !slices.Contains(c.rules, call) && !slices.Contains(l, call) {
			l = append(l, call)
		}
	}
	return l
}

func (c source) unused() []string {
	var l []string
	for _, name := range c.rules[1:] {
		if !slices.Contains(slices.Concat(c.calls...), name) && !slices.Contains(l, name) {
			l = append(l, name)
		}
	}
	return l
}

// check compares all functions with the model.
func (c source) check(t *testing.T, names []string) {
	t.Helper()
	s, rules, calls := c.write()
	f := parse(t, s)
	of, ofErr := Of(f)
	g, err := Grammar(s)
	if want, wrong := c.error(rules, calls); wrong {
		checkError(t, s, of, ofErr, want)
		checkError(t, s, g, err, want)
	} else {
		want := grammarOf(t, c.grammar()...)
		checkGrammar(t, s, of, ofErr, want)
		checkGrammar(t, s, g, err, want)
		checkCalls(t, s, f, of)
	}
	for _, name := range names {
		if got := Rule(f, name); got != slices.Index(c.rules, name) {
			t.Errorf("%q: %s is rule %d", s, name, got)
		}
	}
	if got, want := Undefined(f), c.undefined(); !slices.Equal(got, want) {
		t.Errorf("%q: %q is not defined, and not %q", s, got, want)
	}
	if got, want := Unused(f), c.unused(); !slices.Equal(got, want) {
		t.Errorf("%q: %q is not used, and not %q", s, got, want)
	}
}

// P9.4: checkCalls checks that the names of the calls of a closed file are those of the rules of its Call nodes.
func checkCalls(t *testing.T, s string, f syntax.File, g api.Grammar) {
	t.Helper()
	var names []string
	for _, n := range g.Nodes {
		if n.Op == api.Call {
			names = append(names, g.Rules[n.Rule].Name)
		}
	}
	var want []string
	for _, call := range f.Calls {
		want = append(want, call.Text)
	}
	if !slices.Equal(names, want) {
		t.Errorf("%q: the calls have the names %q, and not %q", s, names, want)
	}
}

// lists returns all lists of at most n names.
func lists(names []string, n int) [][]string {
	all := [][]string{nil}
	last := all
	for range n {
		var longer [][]string
		for _, l := range last {
			for _, name := range names {
				longer = append(longer, append(slices.Clip(l), name))
			}
		}
		all, last = append(all, longer...), longer
	}
	return all
}

// P9.1 to P9.4: all files of few names with one or two rules and up to three calls in each, or with three rules and up to one call in each.
func TestAllSmall(t *testing.T) {
	names := []string{"A", "B", "AB"}
	for _, rules := range lists(names, 3)[1:] {
		most := []int{0, 3, 3, 1}[len(rules)]
		choices := lists(names, most)
		chosen := make([]int, len(rules))
		for more := true; more; more = next(chosen, len(choices)) {
			c := source{rules: rules}
			for _, i := range chosen {
				c.calls = append(c.calls, choices[i])
			}
			c.check(t, names)
			if t.Failed() {
				return
			}
		}
	}
}

// next changes numbers below n to the next ones, as an odometer does, and reports whether there were any.
func next(numbers []int, n int) bool {
	for i := range numbers {
		if numbers[i]++; numbers[i] < n {
			return true
		}
		numbers[i] = 0
	}
	return false
}

// P9.1 to P9.4: longer files at random, of many names.
func TestRandom(t *testing.T) {
	r := rand.New(rand.NewPCG(9, 9))
	for range 3000 {
		var names []string
		for i := range 1 + r.IntN(40) {
			names = append(names, fmt.Sprintf("%c%d", "ab_"[i%3], i/3))
		}
		// Most files have all names as rules once; some have others and more of them.
		c := source{rules: slices.Clone(names)}
		r.Shuffle(len(c.rules), func(i, j int) { c.rules[i], c.rules[j] = c.rules[j], c.rules[i] })
		c.rules = c.rules[:len(c.rules)-r.IntN(2)*r.IntN(len(c.rules))]
		for range r.IntN(4) / 2 {
			c.rules = append(c.rules, names[r.IntN(len(names))])
		}
		for range c.rules {
			var l []string
			for range r.IntN(4) {
				l = append(l, names[r.IntN(len(names))])
			}
			c.calls = append(c.calls, l)
		}
		c.check(t, append(names, "other", ""))
		if t.Failed() {
			return
		}
	}
}

// P9.1 and P9.4: the calls of closed files within all kinds of nodes.
func TestCallsOfClosed(t *testing.T) {
	for _, c := range closed {
		f := parse(t, c.s)
		g, err := Of(f)
		if err != nil {
			t.Errorf("%q: %v", c.s, err)
			continue
		}
		checkCalls(t, c.s, f, g)
	}
}

// Strings with all errors and without one.
func someStrings() []string {
	l := []string{"", "A <- )", "A <- " + nest("(!", "'a'", ")", 200), many(1001)}
	for _, c := range closed {
		l = append(l, c.s)
	}
	for _, c := range open {
		l = append(l, strings.Replace(c.s, "^", "", 1))
	}
	return l
}

// results returns what all functions return for a file, as a string.
func results(f syntax.File) string {
	g, err := Of(f)
	return fmt.Sprintf("%+v %v %v %q %q", g, err, Rule(f, "A"), Undefined(f), Unused(f))
}

// spare returns a list with unused capacity, which holds one more element.
func spare[T any](l []T, more T) []T {
	return append(slices.Clone(l), more)[:len(l)]
}

// spareFile returns a file whose lists have unused capacity.
func spareFile(f syntax.File) syntax.File {
	c := syntax.File{
		Rules: spare(f.Rules, syntax.Definition{Name: "more", At: 7, Root: 7}),
		Nodes: spare(f.Nodes, api.Node{Op: api.Call, Rule: 7}),
		Calls: spare(f.Calls, syntax.Name{Text: "more", At: 7}),
	}
	for i, n := range c.Nodes {
		c.Nodes[i].Kids = spare(n.Kids, 7)
	}
	return c
}

// whole returns a file with its unused capacity.
func whole(f syntax.File) syntax.File {
	c := syntax.File{
		Rules: f.Rules[:cap(f.Rules)],
		Nodes: slices.Clone(f.Nodes[:cap(f.Nodes)]),
		Calls: f.Calls[:cap(f.Calls)],
	}
	for i, n := range c.Nodes {
		c.Nodes[i].Kids = n.Kids[:cap(n.Kids)]
	}
	return c
}

// Rules 5 and 7: arguments and their unused capacity stay, and a second call returns the same.
func TestArgumentsStay(t *testing.T) {
	for _, s := range someStrings() {
		g, err := Grammar(s)
		again, errAgain := Grammar(s)
		if !equal(g, again) || fmt.Sprintf("%#v", errors.Unwrap(err)) != fmt.Sprintf("%#v", errors.Unwrap(errAgain)) || fmt.Sprint(err) != fmt.Sprint(errAgain) {
			t.Errorf("%.200q: a second call returns %v", s, errAgain)
		}
		f, err := syntax.Parse(s)
		if err != nil {
			continue
		}
		f = spareFile(f)
		before := fmt.Sprintf("%+v", whole(f))
		first := results(f)
		if fmt.Sprintf("%+v", whole(f)) != before {
			t.Errorf("%.200q: the file has changed", s)
		}
		if results(f) != first {
			t.Errorf("%.200q: a second call returns other results", s)
		}
	}
}

// Rule 5: results stay when the file is changed, and a grammar shares no memory with the file.
func TestResultsStay(t *testing.T) {
	for _, c := range closed {
		f := spareFile(parse(t, c.s))
		g, _ := Of(f)
		undefined, unused := Undefined(f), Unused(f)
		before := fmt.Sprintf("%+v %q %q", g, undefined, unused)
		all := whole(f)
		for i := range all.Rules {
			all.Rules[i] = syntax.Definition{Name: "changed", At: 77, Root: 77}
		}
		for i := range all.Calls {
			all.Calls[i] = syntax.Name{Text: "changed", At: 77}
		}
		for _, n := range all.Nodes {
			for k := range n.Kids {
				n.Kids[k] = 77
			}
		}
		for i := range f.Nodes {
			f.Nodes[i] = api.Node{Op: api.Not}
		}
		if after := fmt.Sprintf("%+v %q %q", g, undefined, unused); after != before {
			t.Errorf("%q: %s, and then %s", c.s, before, after)
		}
	}
}

// Rule 5, and rule 7 of the language: no two lists of kids of a grammar share memory, not even what is not used of them.
func TestKidsAreNew(t *testing.T) {
	f := parse(t, "A <- 'ab' B? / !C* ('a' / B) / &D+\nB <- 'abc' 'd' A\nC <-\nD <-")
	for i := range f.Nodes {
		if f.Nodes[i].Kids == nil {
			f.Nodes[i].Kids = make([]int, 0, 3)
		}
	}
	g, _ := Of(f)
	for i, n := range g.Nodes {
		if k := f.Nodes[i].Kids; cap(k) > 0 && unsafe.SliceData(n.Kids) == unsafe.SliceData(k) {
			t.Errorf("the kids of node %d are those of the file", i)
		}
		before := fmt.Sprint(g.Nodes[:i], g.Nodes[i+1:])
		more := n.Kids[:cap(n.Kids)]
		for k := range more {
			more[k] = -7
		}
		if fmt.Sprint(g.Nodes[:i], g.Nodes[i+1:]) != before {
			t.Errorf("the kids of node %d are those of another node", i)
		}
	}
}

// Rule 5: names in results and errors are copies, as their bytes would otherwise be those of the file.
func TestNamesAreNew(t *testing.T) {
	text := "firstsecondthirdunused"
	part := func(name string) string {
		at := strings.Index(text, name)
		return text[at : at+len(name)]
	}
	f := parse(t, "first <- first second third\nsecond <- first\nthird <- second\nunused <-")
	for i, r := range f.Rules {
		f.Rules[i].Name = part(r.Name)
	}
	for i, c := range f.Calls {
		f.Calls[i].Text = part(c.Text)
	}
	g, _ := Of(f)
	names := Unused(f)
	for _, r := range g.Rules {
		names = append(names, r.Name)
	}
	f.Rules = f.Rules[:1]
	names = append(names, Undefined(f)...)
	_, err := Of(f)
	names = append(names, nameIn(err))
	f.Rules = append(f.Rules, f.Rules[0])
	_, err = Of(f)
	names = append(names, nameIn(err))
	if !slices.Equal(names, []string{"unused", "first", "second", "third", "unused", "second", "third", "second", "first"}) {
		t.Fatalf("%q", names)
	}
	from := uintptr(unsafe.Pointer(unsafe.StringData(text)))
	for _, name := range names {
		if at := uintptr(unsafe.Pointer(unsafe.StringData(name))); from <= at && at < from+uintptr(len(text)) {
			t.Errorf("%s is a part of the file", name)
		}
	}
}

// nameIn returns the name of the rule or call that an error is within.
func nameIn(err error) string {
	name, _ := fault.Rule(err)
	return name
}

// Rule 4: nil and empty lists are equivalent.
func TestEmptyLists(t *testing.T) {
	for _, s := range []string{"A <- ''", "A <- B", "A <- '' A <- ''"} {
		f := parse(t, s)
		c := spareFile(f)
		if results(f) != results(c) {
			t.Errorf("%q: %s, and %s", s, results(f), results(c))
		}
	}
	for _, f := range []syntax.File{{}, {Rules: []syntax.Definition{}, Nodes: []api.Node{}, Calls: []syntax.Name{}}} {
		g, err := Of(f)
		if err != nil || !zero(g) || Rule(f, "") != -1 || len(Undefined(f)) != 0 || len(Unused(f)) != 0 {
			t.Errorf("no rules: %s", results(f))
		}
	}
}

// P9.1 and P9.2: expressions (layer 8) are files of one rule with an empty name; what is unspecified ends without a panic.
func TestUnspecified(t *testing.T) {
	f, err := syntax.Expression("'a' B / C B")
	if err != nil {
		t.Fatal(err)
	}
	g, err := Of(f)
	checkError(t, "an expression", g, err, named{name: "B", code: api.Undefined, at: 4})
	if Rule(f, "") != 0 || !slices.Equal(Undefined(f), []string{"B", "C"}) || len(Unused(f)) != 0 {
		t.Errorf("an expression: %s", results(f))
	}
	for _, n := range []int{math.MinInt, -1, 0, 1, 2, math.MaxInt} {
		f := syntax.File{
			Rules: []syntax.Definition{{Name: "A", At: n, Root: n}},
			Nodes: []api.Node{{Op: api.Call, Rule: n}, {Op: n, Kids: []int{n}, Rule: n}, {Op: api.Class, Rule: n}},
			Calls: []syntax.Name{{Text: "A", At: n}},
		}
		results(f)
		f.Calls = nil
		results(f)
		f.Rules = nil
		results(f)
	}
}

// P9.3: large strings end soon.
func TestLarge(t *testing.T) {
	var b strings.Builder
	for i := range 60000 {
		fmt.Fprintf(&b, "r%d <- r%d r%d\n", i, i+1, i/2)
	}
	s := b.String()
	g, err := Grammar(s)
	checkError(t, "many rules and a call", g, err, named{name: "r60000", code: api.Undefined, at: len(s) - len("r60000 r29999\n")})
	f := parse(t, s)
	if got := Undefined(f); !slices.Equal(got, []string{"r60000"}) {
		t.Errorf("%d names are not defined", len(got))
	}
	if got := Unused(f); len(got) != 0 {
		t.Errorf("%d names are not used", len(got))
	}
	s += "r60000 <-"
	if g, err = Grammar(s); !sameError(err, api.TooLarge) || !zero(g) {
		t.Errorf("many rules: %v", err)
	}
	if g, err = Of(parse(t, s)); err != nil || len(g.Rules) != 60001 {
		t.Errorf("many rules: %v", err)
	}
}

// P9.3: every string has a valid grammar, or one of the errors.
func TestEveryString(t *testing.T) {
	r := rand.New(rand.NewPCG(9, 10))
	parts := []string{"A", "B", " ", "<-", " <- ", "'a'", "[b]", ".", "(", ")", "/", "*", "!", "\nA <- ", "\nB <- ", "$"}
	valid := 0
	for range 30000 {
		s := "A <- "
		for range r.IntN(12) {
			s += parts[r.IntN(len(parts))]
		}
		g, err := Grammar(s)
		if err == nil {
			valid++
			if gram.Check(g) != nil {
				t.Errorf("%q: the grammar is not valid", s)
			}
			continue
		}
		var f api.Fault
		if !errors.As(err, &f) || !slices.Contains([]api.Code{api.Syntax, api.Duplicate, api.Undefined}, f.Code) || f.At < 0 || f.At > len(s) || !zero(g) {
			t.Errorf("%q: %v", s, err)
		}
	}
	if valid < 1000 {
		t.Errorf("only %d valid strings", valid)
	}
}
