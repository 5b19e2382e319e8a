package printer

import (
	"errors"
	"fmt"
	"math"
	"math/rand/v2"
	"slices"
	"strings"
	"testing"
	"unsafe"

	"vetch/api"
	"vetch/gram"
	"vetch/lexer"
	"vetch/resolve"
)

// tree is an expression. Its nodes and its text are made from it by different functions, which are compared here.
type tree struct {
	op   int
	rule int
	set  api.Set
	kids []tree
}

// set returns the set with some bytes.
func set(l ...byte) api.Set {
	var s api.Set
	for _, c := range l {
		s[c/64] |= 1 << (c % 64)
	}
	return s
}

// span returns the set of the bytes from first to last.
func span(first, last int) api.Set {
	var s api.Set
	for c := first; c <= last; c++ {
		s[c/64] |= 1 << (c % 64)
	}
	return s
}

// full is the set of all bytes.
var full = span(0, 255)

var (
	empty = tree{op: api.Empty}
	dot   = class(full)
	a, b  = class(set('a')), class(set('b'))
	c     = class(set('c'))
)

func class(s api.Set) tree { return tree{op: api.Class, set: s} }

// call returns the call of the rule with an index.
func call(rule int) tree { return tree{op: api.Call, rule: rule} }

func with(op int, kids ...tree) tree { return tree{op: op, kids: kids} }

func seq(kids ...tree) tree { return with(api.Seq, kids...) }

func choice(kids ...tree) tree { return with(api.Choice, kids...) }

func star(kid tree) tree { return with(api.Star, kid) }

func plus(kid tree) tree { return with(api.Plus, kid) }

func opt(kid tree) tree { return with(api.Opt, kid) }

func and(kid tree) tree { return with(api.And, kid) }

func not(kid tree) tree { return with(api.Not, kid) }

// rule is a rule of a grammar.
type rule struct {
	name string
	root tree
}

// namesOf returns the names of rules.
func namesOf(rules []rule) []string {
	var l []string
	for _, r := range rules {
		l = append(l, r.name)
	}
	return l
}

// grammarOf returns the grammar with some rules, and the expression of each of its nodes.
func grammarOf(rules ...rule) (api.Grammar, []tree) {
	var g api.Grammar
	var trees []tree
	var add func(x tree) int
	add = func(x tree) int {
		var kids []int
		for _, kid := range x.kids {
			kids = append(kids, add(kid))
		}
		g.Nodes = append(g.Nodes, api.Node{Op: x.op, Kids: kids, Rule: x.rule, Set: x.set})
		trees = append(trees, x)
		return len(g.Nodes) - 1
	}
	for _, r := range rules {
		g.Rules = append(g.Rules, api.Rule{Name: r.name, Root: add(r.root)})
	}
	return g, trees
}

// equal compares two grammars field by field.
func equal(a, b api.Grammar) bool { return fmt.Sprintf("%+v", a) == fmt.Sprintf("%+v", b) }

// enclosedIn tells for each Op the places of the chapter's table at which there are parentheses: in a choice (c), in a sequence (s), after a prefix (p) and before a suffix (x).
var enclosedIn = map[int]string{
	api.Seq:    "spx",
	api.Choice: "cspx",
	api.Star:   "x",
	api.Plus:   "x",
	api.Opt:    "x",
	api.And:    "px",
	api.Not:    "px",
}

// text returns the text of an expression at a place of enclosedIn, or in an expression (e).
func (x tree) text(names []string, place string) string {
	var s string
	kids := func(place string) []string {
		var l []string
		for _, kid := range x.kids {
			l = append(l, kid.text(names, place))
		}
		return l
	}
	switch x.op {
	case api.Empty:
		s = "''"
	case api.Class:
		s = classText(x.set)
	case api.Call:
		s = names[x.rule]
	case api.Seq:
		s = strings.Join(kids("s"), " ")
	case api.Choice:
		s = strings.Join(kids("c"), " / ")
	case api.Star:
		s = kids("x")[0] + "*"
	case api.Plus:
		s = kids("x")[0] + "+"
	case api.Opt:
		s = kids("x")[0] + "?"
	case api.And:
		s = "&" + kids("p")[0]
	case api.Not:
		s = "!" + kids("p")[0]
	}
	if strings.Contains(enclosedIn[x.op], place) {
		return "(" + s + ")"
	}
	return s
}

// classText returns the text of a set, byte by byte.
func classText(s api.Set) string {
	var members [257]bool
	var l []byte
	for c := range 256 {
		if s[c/64]&(1<<(c%64)) != 0 {
			members[c] = true
			l = append(l, byte(c))
		}
	}
	if len(l) == 1 {
		return "'" + formText(l[0], `'\`) + "'"
	}
	if len(l) == 256 {
		return "."
	}
	text := "["
	for c := 0; c < 256; c++ {
		if !members[c] {
			continue
		}
		first := c
		for members[c+1] {
			c++
		}
		text += formText(byte(first), `[]\`)
		if c > first+1 {
			text += "-"
		}
		if c > first {
			text += formText(byte(c), `[]\`)
		}
	}
	return text + "]"
}

// formText returns the form of a byte in a literal or a class, in which some bytes have a backslash.
func formText(c byte, escaped string) string {
	switch {
	case c == 10:
		return `\n`
	case c == 13:
		return `\r`
	case c == 9:
		return `\t`
	case strings.IndexByte(escaped, c) >= 0:
		return `\` + string(rune(c))
	case c < 32 || c >= 127 && c < 192 || c == '-' && strings.Contains(escaped, "["):
		return fmt.Sprintf(`\%03o`, c)
	}
	return string([]byte{c})
}

// check compares what all functions return for a grammar with what is expected.
func check(t *testing.T, rules ...rule) {
	t.Helper()
	g, trees := grammarOf(rules...)
	if err := gram.Check(g); err != nil {
		t.Fatalf("the grammar is not valid: %v", err)
	}
	names := namesOf(rules)
	want := ""
	for r, rule := range rules {
		line := rule.name + " <- " + rule.root.text(names, "e")
		if got := Rule(g, r); got != line {
			t.Errorf("rule %d is %q, and not %q", r, got, line)
		}
		want += line + "\n"
	}
	for i, x := range trees {
		if got, want := Node(g, i), x.text(names, "e"); got != want {
			t.Errorf("%q: node %d is %q, and not %q", Print(g), i, got, want)
		}
	}
	checkText(t, g, want)
}

// checkText checks that the text of a grammar is as expected, is read as the grammar again (P10.4), and is canonical (P10.3 and P10.4).
func checkText(t *testing.T, g api.Grammar, want string) {
	t.Helper()
	text := Print(g)
	if text != want {
		t.Errorf("%.200q, and not %.200q", text, want)
	}
	if again, err := resolve.Grammar(text); err != nil || !equal(again, g) {
		t.Errorf("%.200q is read as %.2000v, %v, and not as %.2000v", text, again, err, g)
	}
	if again, err := Canonical(text); err != nil || again != text {
		t.Errorf("%.200q is not canonical: %.200q, %v", text, again, err)
	}
}

// kinds are expressions of each kind of nodes, their texts, and whether they are in parentheses in a choice, in a sequence, after a prefix and before a suffix.
var kinds = []struct {
	x      tree
	text   string
	choice bool
	seq    bool
	prefix bool
	suffix bool
}{
	{x: empty, text: "''"},
	{x: dot, text: "."},
	{x: a, text: "'a'"},
	{x: class(set('\'')), text: `'\''`},
	{x: class(span('a', 'c')), text: "[a-c]"},
	{x: class(api.Set{}), text: "[]"},
	{x: call(0), text: "S"},
	{x: call(1), text: "T1"},
	{x: seq(a, b), text: "'a' 'b'", seq: true, prefix: true, suffix: true},
	{x: seq(call(0), empty, dot), text: "S '' .", seq: true, prefix: true, suffix: true},
	{x: seq(a, seq(b, c)), text: "'a' ('b' 'c')", seq: true, prefix: true, suffix: true},
	{x: choice(a, b), text: "'a' / 'b'", choice: true, seq: true, prefix: true, suffix: true},
	{x: choice(a, empty), text: "'a' / ''", choice: true, seq: true, prefix: true, suffix: true},
	{x: choice(seq(a, b), c), text: "'a' 'b' / 'c'", choice: true, seq: true, prefix: true, suffix: true},
	{x: star(a), text: "'a'*", suffix: true},
	{x: plus(a), text: "'a'+", suffix: true},
	{x: opt(a), text: "'a'?", suffix: true},
	{x: opt(seq(a, b)), text: "('a' 'b')?", suffix: true},
	{x: and(a), text: "&'a'", prefix: true, suffix: true},
	{x: not(a), text: "!'a'", prefix: true, suffix: true},
	{x: not(star(a)), text: "!'a'*", prefix: true, suffix: true},
}

// places are what a node may be a kid of, with the text before and after the kid.
var places = []struct {
	place  string
	of     func(tree) tree
	before string
	after  string
}{
	{"expression", func(x tree) tree { return x }, "", ""},
	{"choice", func(x tree) tree { return choice(x, c) }, "", " / 'c'"},
	{"choice", func(x tree) tree { return choice(c, x) }, "'c' / ", ""},
	{"choice", func(x tree) tree { return choice(empty, x, c) }, "'' / ", " / 'c'"},
	{"sequence", func(x tree) tree { return seq(x, c) }, "", " 'c'"},
	{"sequence", func(x tree) tree { return seq(c, x) }, "'c' ", ""},
	{"sequence", func(x tree) tree { return seq(empty, x, c) }, "'' ", " 'c'"},
	{"prefix", and, "&", ""},
	{"prefix", not, "!", ""},
	{"suffix", star, "", "*"},
	{"suffix", plus, "", "+"},
	{"suffix", opt, "", "?"},
}

// P10.1: every kind of node at every place of the chapter's table, with and without parentheses.
func TestPlaces(t *testing.T) {
	for _, kind := range kinds {
		enclosed := map[string]bool{"choice": kind.choice, "sequence": kind.seq, "prefix": kind.prefix, "suffix": kind.suffix}
		for _, p := range places {
			want := kind.text
			if enclosed[p.place] {
				want = "(" + want + ")"
			}
			want = p.before + want + p.after
			g, _ := grammarOf(rule{"S", p.of(kind.x)}, rule{"T1", c})
			if got := Node(g, g.Rules[0].Root); got != want {
				t.Errorf("%q, and not %q", got, want)
			}
			if got := Rule(g, 0); got != "S <- "+want {
				t.Errorf("%q, and not %q", got, "S <- "+want)
			}
			checkText(t, g, "S <- "+want+"\nT1 <- 'c'\n")
			// The text of the node itself has no parentheses, whatever it is a kid of.
			kidGrammar, _ := grammarOf(rule{"S", kind.x}, rule{"T1", c})
			i := nodeOf(g, kidGrammar)
			if got := Node(g, i); got != kind.text {
				t.Errorf("%q: node %d is %q, and not %q", want, i, got, kind.text)
			}
		}
	}
}

// nodeOf returns the index of the node in the first rule of g whose expression is the first rule of x.
func nodeOf(g, x api.Grammar) int {
	root := x.Rules[0].Root
	for i := root; i <= g.Rules[0].Root; i++ {
		first := gram.First(g, i)
		if i-first != root {
			continue
		}
		same := true
		for k, n := range x.Nodes[:root+1] {
			m := g.Nodes[first+k]
			for j := range n.Kids {
				same = same && m.Kids[j] == n.Kids[j]+first
			}
			same = same && m.Op == n.Op && m.Rule == n.Rule && m.Set == n.Set && len(m.Kids) == len(n.Kids)
		}
		if same {
			return i
		}
	}
	return -1
}

// Expressions whose texts are written by hand: nodes within nodes.
var nested = []struct {
	x    tree
	want string
}{
	// A sequence within a sequence.
	{seq(seq(a, b), c), "('a' 'b') 'c'"},
	{seq(a, seq(b, c)), "'a' ('b' 'c')"},
	{seq(seq(a, b), seq(b, c)), "('a' 'b') ('b' 'c')"},
	{seq(seq(seq(a, b), b), c), "(('a' 'b') 'b') 'c'"},
	// A choice within a choice.
	{choice(choice(a, b), c), "('a' / 'b') / 'c'"},
	{choice(a, choice(b, c)), "'a' / ('b' / 'c')"},
	{choice(a, choice(b, empty), c), "'a' / ('b' / '') / 'c'"},
	{choice(choice(choice(a, b), b), c), "(('a' / 'b') / 'b') / 'c'"},
	// A choice within a sequence.
	{seq(choice(a, b), c), "('a' / 'b') 'c'"},
	{seq(a, choice(b, c)), "'a' ('b' / 'c')"},
	{seq(choice(a, empty), choice(empty, c)), "('a' / '') ('' / 'c')"},
	// A sequence within a choice.
	{choice(seq(a, b), c), "'a' 'b' / 'c'"},
	{choice(a, seq(b, c)), "'a' / 'b' 'c'"},
	{choice(seq(a, b), seq(b, c), empty), "'a' 'b' / 'b' 'c' / ''"},
	// Several levels of both.
	{choice(seq(a, choice(b, seq(c, a))), b), "'a' ('b' / 'c' 'a') / 'b'"},
	{seq(choice(seq(a, seq(b, c)), choice(a, b)), c), "('a' ('b' 'c') / ('a' / 'b')) 'c'"},
	{choice(choice(seq(a, b), c), seq(choice(a, b), c)), "('a' 'b' / 'c') / ('a' / 'b') 'c'"},
	// A suffix after a suffix.
	{star(star(a)), "('a'*)*"},
	{plus(opt(a)), "('a'?)+"},
	{opt(plus(a)), "('a'+)?"},
	{star(plus(opt(a))), "(('a'?)+)*"},
	// A prefix after a prefix.
	{not(not(a)), "!(!'a')"},
	{and(not(a)), "&(!'a')"},
	{not(and(a)), "!(&'a')"},
	{and(and(not(a))), "&(&(!'a'))"},
	// A suffix after a prefix.
	{not(star(a)), "!'a'*"},
	{and(plus(a)), "&'a'+"},
	{not(opt(call(0))), "!S?"},
	{not(star(opt(a))), "!('a'?)*"},
	// A prefix before a suffix.
	{star(not(a)), "(!'a')*"},
	{plus(and(a)), "(&'a')+"},
	{opt(not(star(a))), "(!'a'*)?"},
	{not(star(and(a))), "!(&'a')*"},
	// Prefixes and suffixes of sequences and choices, and in them.
	{not(seq(a, b)), "!('a' 'b')"},
	{and(choice(a, b)), "&('a' / 'b')"},
	{star(seq(a, b)), "('a' 'b')*"},
	{plus(choice(a, seq(b, c))), "('a' / 'b' 'c')+"},
	{not(opt(choice(a, b))), "!('a' / 'b')?"},
	{opt(not(choice(a, b))), "(!('a' / 'b'))?"},
	{seq(not(a), star(b), and(opt(c))), "!'a' 'b'* &'c'?"},
	{choice(not(a), star(b), and(opt(c))), "!'a' / 'b'* / &'c'?"},
	// No bytes, all bytes, and no byte at all.
	{seq(empty, empty), "'' ''"},
	{choice(empty, empty, empty), "'' / '' / ''"},
	{star(empty), "''*"},
	{not(empty), "!''"},
	{seq(dot, class(api.Set{}), not(dot)), ". [] !."},
	{plus(class(api.Set{})), "[]+"},
	// Many kids.
	{seq(a, b, c, a, b, c), "'a' 'b' 'c' 'a' 'b' 'c'"},
	{choice(a, b, c, a, b, c), "'a' / 'b' / 'c' / 'a' / 'b' / 'c'"},
	// The example of the chapter (with a call of the rule itself).
	{choice(star(seq(a, b)), not(opt(choice(call(0), empty)))), "('a' 'b')* / !(S / '')?"},
}

// P10.1: nodes within nodes, by hand.
func TestNested(t *testing.T) {
	for _, n := range nested {
		g, _ := grammarOf(rule{"S", n.x})
		if got := Node(g, g.Rules[0].Root); got != n.want {
			t.Errorf("%q, and not %q", got, n.want)
		}
		checkText(t, g, "S <- "+n.want+"\n")
		check(t, rule{"S", n.x})
	}
}

// grammars are grammars whose texts are written by hand.
var grammars = []struct {
	rules []rule
	want  string
}{
	// One rule.
	{[]rule{{"A", empty}}, "A <- ''\n"},
	{[]rule{{"longer_Name1", dot}}, "longer_Name1 <- .\n"},
	{[]rule{{"A", choice(seq(a, call(0)), empty)}}, "A <- 'a' A / ''\n"},
	// Calls of the rule itself.
	{[]rule{{"A", call(0)}}, "A <- A\n"},
	{[]rule{{"A", seq(call(0), not(call(0)), star(call(0)))}}, "A <- A !A A*\n"},
	{[]rule{{"A", a}, {"B", call(1)}}, "A <- 'a'\nB <- B\n"},
	// Calls of later rules.
	{[]rule{{"A", call(1)}, {"B", b}}, "A <- B\nB <- 'b'\n"},
	{[]rule{{"A", choice(call(2), call(1))}, {"B", call(2)}, {"C", c}}, "A <- C / B\nB <- C\nC <- 'c'\n"},
	// Calls of earlier rules.
	{[]rule{{"B", b}, {"A", call(0)}}, "B <- 'b'\nA <- B\n"},
	{[]rule{{"A", empty}, {"B", call(0)}, {"C", seq(call(1), call(0))}}, "A <- ''\nB <- A\nC <- B A\n"},
	// All of them, in rules with several nodes.
	{
		[]rule{
			{"S", seq(and(seq(call(1), c)), plus(a), call(2), not(dot))},
			{"A", seq(a, opt(call(1)), b)},
			{"B", choice(seq(b, opt(call(2)), call(0)), call(1))},
		},
		"S <- &(A 'c') 'a'+ B !.\nA <- 'a' A? 'b'\nB <- 'b' B? S / A\n",
	},
	// Rules that nothing calls, and the same expression twice.
	{[]rule{{"A", seq(a, b)}, {"B", seq(a, b)}, {"_", seq(a, b)}}, "A <- 'a' 'b'\nB <- 'a' 'b'\n_ <- 'a' 'b'\n"},
	// Names that are the beginning of others.
	{[]rule{{"a", call(2)}, {"aa", call(0)}, {"a1", call(1)}}, "a <- a1\naa <- a\na1 <- aa\n"},
}

// P10.1: the texts of grammars and rules, by hand.
func TestGrammars(t *testing.T) {
	for _, c := range grammars {
		g, _ := grammarOf(c.rules...)
		checkText(t, g, c.want)
		lines := strings.Split(c.want, "\n")
		for r := range g.Rules {
			if got := Rule(g, r); got != lines[r] {
				t.Errorf("rule %d is %q, and not %q", r, got, lines[r])
			}
		}
		check(t, c.rules...)
	}
}

// The examples of the chapter and of the document.
func TestExamples(t *testing.T) {
	const s = "A <- ('a' 'b')* / !(B / '')?\nB <- [a-cx]\n"
	if text, err := Canonical(s); err != nil || text != s {
		t.Errorf("%q, %v", text, err)
	}
	if text := Class(set('a', 'b', 'c', 'x')); text != "[a-cx]" {
		t.Errorf("%q", text)
	}
	if text, err := Canonical("A <- 'ab'"); err != nil || text != "A <- 'a' 'b'\n" {
		t.Errorf("%q, %v", text, err)
	}
}

// classes are sets whose texts are written by hand.
var classes = []struct {
	set  api.Set
	want string
}{
	// No bytes, all bytes, and nearly so.
	{api.Set{}, "[]"},
	{full, "."},
	{span(1, 255), "[\\001-\xff]"},
	{span(0, 254), "[\\000-\xfe]"},
	{set(0, 255), "[\\000\xff]"},
	// One byte, as a literal.
	{set('a'), "'a'"},
	{set(' '), "' '"},
	{set('\''), `'\''`},
	{set('"'), `'"'`},
	{set('\\'), `'\\'`},
	{set('-'), `'-'`},
	{set('['), `'['`},
	{set(']'), `']'`},
	{set('^'), `'^'`},
	{set('#'), `'#'`},
	{set('\n'), `'\n'`},
	{set('\r'), `'\r'`},
	{set('\t'), `'\t'`},
	{set(0), `'\000'`},
	{set(7), `'\007'`},
	{set(31), `'\037'`},
	{set(126), `'~'`},
	{set(127), `'\177'`},
	{set(191), `'\277'`},
	{set(192), "'\xc0'"},
	{set(255), "'\xff'"},
	// Two bytes, in one run and in two.
	{set('a', 'b'), "[ab]"},
	{set('a', 'c'), "[ac]"},
	{set(63, 64), "[?@]"},
	{set(127, 128), `[\177\200]`},
	{set(191, 192), "[\\277\xc0]"},
	{set(254, 255), "[\xfe\xff]"},
	{set(0, 1), `[\000\001]`},
	// Three bytes and more in one run.
	{span('a', 'c'), "[a-c]"},
	{span('a', 'd'), "[a-d]"},
	{span('a', 'z'), "[a-z]"},
	{span('0', '9'), "[0-9]"},
	{span(62, 65), "[>-A]"},
	{span(0, 31), `[\000-\037]`},
	{span(128, 255), "[\\200-\xff]"},
	// Several runs.
	{set('a', 'b', 'c', 'x'), "[a-cx]"},
	{set('a', 'c', 'd', 'f', 'g', 'h'), "[acdf-h]"},
	{set('z', 'a', 'y', 'x', '0', '1', '2'), "[0-2ax-z]"},
	{set('A', 'C', 'E'), "[ACE]"},
	{set('\'', '"'), `["']`},
	{set('^', 'a'), "[^a]"},
	// Runs that begin or end with a byte with a backslash.
	{set('[', '\\', ']'), `[\[-\]]`},
	{set('[', ']'), `[\[\]]`},
	{set('[', '\\'), `[\[\\]`},
	{set('\\', ']'), `[\\\]]`},
	{span('A', '['), `[A-\[]`},
	{span('A', ']'), `[A-\]]`},
	{span('A', '\\'), `[A-\\]`},
	{span('[', 'z'), `[\[-z]`},
	{span(']', 'z'), `[\]-z]`},
	{span('\\', 'z'), `[\\-z]`},
	{span('+', '-'), `[+-\055]`},
	{span('-', '/'), `[\055-/]`},
	{span(',', '.'), `[,-.]`},
	{set(',', '-'), `[,\055]`},
	{set('-', '.'), `[\055.]`},
	{set('-', 'a'), `[\055a]`},
	{span('\t', '\n'), `[\t\n]`},
	{span('\t', '\r'), `[\t-\r]`},
	{span('\n', 'A'), `[\n-A]`},
	{span(8, '\n'), `[\010-\n]`},
	{span('a', 127), `[a-\177]`},
	{set('\t', '\n', '\r', ' '), `[\t\n\r ]`},
	{set('-', '0', '1', ']', '['), `[\05501\[\]]`},
}

// checkClass checks the text of a set, and that it is read as a token with this set, or as a literal of one byte, or as a Dot.
func checkClass(t *testing.T, s api.Set, want string) {
	t.Helper()
	got := Class(s)
	if got != want {
		t.Errorf("%v: %q, and not %q", s, got, want)
	}
	tokens, err := lexer.Tokens(got)
	if err != nil || len(tokens) != 2 {
		t.Errorf("%q has the tokens %v, %v", got, tokens, err)
		return
	}
	read := tokens[0].Set
	switch tokens[0].Kind {
	case lexer.Dot:
		read = full
	case lexer.Literal:
		read = set([]byte(tokens[0].Text)...)
	}
	if read != s {
		t.Errorf("%q is read as %v, and not as %v", got, read, s)
	}
}

// P10.2: sets, by hand; the text of a class is also that of its node.
func TestClass(t *testing.T) {
	for _, c := range classes {
		checkClass(t, c.set, c.want)
		g, _ := grammarOf(rule{"S", class(c.set)})
		if got := Node(g, 0); got != c.want {
			t.Errorf("the node is %q, and not %q", got, c.want)
		}
		checkText(t, g, "S <- "+c.want+"\n")
	}
}

// P10.2: all sets of at most two bytes, all runs, and all but one byte and all but a run.
func TestAllClasses(t *testing.T) {
	for first := range 256 {
		for last := range 256 {
			run := span(first, last)
			for _, s := range []api.Set{set(byte(first), byte(last)), run, {^run[0], ^run[1], ^run[2], ^run[3]}} {
				checkClass(t, s, classText(s))
			}
		}
		if t.Failed() {
			return
		}
	}
}

// randomSet returns a set at random, with few or with many members or runs.
func randomSet(r *rand.Rand) api.Set {
	var s api.Set
	for range r.IntN(6) {
		first := r.IntN(256)
		run := span(first, min(255, first+r.IntN(1+r.IntN(40))))
		for i, w := range run {
			s[i] |= w
		}
	}
	switch r.IntN(8) {
	case 0:
		return api.Set{r.Uint64(), r.Uint64(), r.Uint64(), r.Uint64()}
	case 1:
		return api.Set{^s[0], ^s[1], ^s[2], ^s[3]}
	case 2:
		return set(byte(r.IntN(256)))
	}
	return s
}

// P10.2: sets at random.
func TestRandomClasses(t *testing.T) {
	r := rand.New(rand.NewPCG(10, 1))
	for range 20000 {
		s := randomSet(r)
		checkClass(t, s, classText(s))
		if t.Failed() {
			return
		}
	}
}

// expressions returns all expressions with some number of nodes, by their number.
func expressions(most int, leaves []tree) [][]tree {
	all := make([][]tree, most+1)
	for n := 1; n <= most; n++ {
		if n == 1 {
			all[n] = leaves
			continue
		}
		for _, kids := range kidLists(all, n-1) {
			if len(kids) > 1 {
				all[n] = append(all[n], seq(kids...), choice(kids...))
				continue
			}
			all[n] = append(all[n], star(kids[0]), plus(kids[0]), opt(kids[0]), and(kids[0]), not(kids[0]))
		}
	}
	return all
}

// kidLists returns all lists of expressions with n nodes together.
func kidLists(all [][]tree, n int) [][]tree {
	if n == 0 {
		return [][]tree{nil}
	}
	var l [][]tree
	for first := 1; first <= n; first++ {
		for _, x := range all[first] {
			for _, more := range kidLists(all, n-first) {
				l = append(l, append([]tree{x}, more...))
			}
		}
	}
	return l
}

// P10.1, P10.3 and P10.4: all expressions of at most five nodes.
func TestAllSmall(t *testing.T) {
	for _, l := range expressions(5, []tree{empty, a, call(0)}) {
		for _, x := range l {
			check(t, rule{"S", x})
		}
		if t.Failed() {
			return
		}
	}
}

// randomTree returns an expression at random, of a grammar with some number of rules.
func randomTree(r *rand.Rand, rules, depth int) tree {
	ops := api.Not + 1
	if depth == 1 {
		ops = api.Call + 1
	}
	switch op := r.IntN(ops); op {
	case api.Empty:
		return empty
	case api.Class:
		return class(randomSet(r))
	case api.Call:
		return call(r.IntN(rules))
	case api.Seq, api.Choice:
		x := tree{op: op}
		for range 2 + r.IntN(3) {
			x.kids = append(x.kids, randomTree(r, rules, depth-1))
		}
		return x
	default:
		return with(op, randomTree(r, rules, depth-1))
	}
}

// randomRules returns rules at random.
func randomRules(r *rand.Rand) []rule {
	l := make([]rule, 1+r.IntN(6))
	for i := range l {
		name := fmt.Sprintf("%c%d", "ab_S"[r.IntN(4)], i)
		l[i] = rule{name, randomTree(r, len(l), 1+r.IntN(6))}
	}
	return l
}

// P10.1, P10.3 and P10.4: grammars at random, of several rules.
func TestRandom(t *testing.T) {
	r := rand.New(rand.NewPCG(10, 2))
	for range 4000 {
		check(t, randomRules(r)...)
		if t.Failed() {
			return
		}
	}
}

// canonical are files that are not canonical, and their canonical texts.
var canonical = []struct{ s, want string }{
	// Spacing and comments.
	{"A<-'a'", "A <- 'a'\n"},
	{"A <- 'a'\n", "A <- 'a'\n"},
	{"  A\t<-\r\n'a' \n\n", "A <- 'a'\n"},
	{"# first\nA <- # then\n 'a' # not # again\n", "A <- 'a'\n"},
	{"A <- A B<-A", "A <- A\nB <- A\n"},
	{"A <- A\r\r\rB <- 'b'/A!A&A*", "A <- A\nB <- 'b' / A !A &A*\n"},
	{"A <- 'a'/'b' / \n'c'", "A <- 'a' / 'b' / 'c'\n"},
	{"A <- !  'a'  *", "A <- !'a'*\n"},
	// Parentheses that are not needed.
	{"A <- ('a')", "A <- 'a'\n"},
	{"A <- ((('a')))", "A <- 'a'\n"},
	{"A <- ('a' 'b')", "A <- 'a' 'b'\n"},
	{"A <- ('a' 'b') / ('c')", "A <- 'a' 'b' / 'c'\n"},
	{"A <- ('a')* (!'b') ('c'?)", "A <- 'a'* !'b' 'c'?\n"},
	{"A <- !('a'*) &('b')", "A <- !'a'* &'b'\n"},
	{"A <- (('a' / 'b'))", "A <- 'a' / 'b'\n"},
	{"A <- ((A B)) (((A / B)))\nB <- (())", "A <- (A B) (A / B)\nB <- ''\n"},
	// Parentheses that are needed.
	{"A <- ('a' 'b') 'c'", "A <- ('a' 'b') 'c'\n"},
	{"A <- 'a' / ('b' / 'c')", "A <- 'a' / ('b' / 'c')\n"},
	{"A <- !(!('a'))", "A <- !(!'a')\n"},
	// Expressions without parts.
	{"A <-", "A <- ''\n"},
	{"A <- B <-", "A <- ''\nB <- ''\n"},
	{"A <- /", "A <- '' / ''\n"},
	{"A <- 'a' / / ()", "A <- 'a' / '' / ''\n"},
	{"A <- ()* !()", "A <- ''* !''\n"},
	// Literals.
	{`A <- "a"`, "A <- 'a'\n"},
	{`A <- ""`, "A <- ''\n"},
	{`A <- "'"`, `A <- '\''` + "\n"},
	{`A <- '\"'`, `A <- '"'` + "\n"},
	{`A <- '\141\60'`, "A <- 'a' '0'\n"},
	{"A <- '\n\t\r'", `A <- '\n' '\t' '\r'` + "\n"},
	{`A <- "ab" 'c'`, "A <- ('a' 'b') 'c'\n"},
	{`A <- 'ab' / 'cd'*`, "A <- 'a' 'b' / ('c' 'd')*\n"},
	{`A <- !'ab' 'a'`, "A <- !('a' 'b') 'a'\n"},
	{"A <- '\\0\\177\xc0'", "A <- '\\000' '\\177' '\xc0'\n"},
	{`A <- '\300'`, `A <- '\030' '0'` + "\n"},
	// Classes.
	{"A <- [a]", "A <- 'a'\n"},
	{"A <- [cab]", "A <- [a-c]\n"},
	{"A <- [a-cb-e]", "A <- [a-e]\n"},
	{"A <- [b-a]", "A <- []\n"},
	{"A <- [\\000-\\277\xc0-\xff]", "A <- .\n"},
	{`A <- [+--]`, `A <- [+-\055]` + "\n"},
	{`A <- [\]-\[x]`, "A <- 'x'\n"},
	{`A <- ["'-'"]`, `A <- ["']` + "\n"},
}

// P10.3: files that are not canonical, by hand.
func TestCanonical(t *testing.T) {
	for _, c := range canonical {
		text, err := Canonical(c.s)
		if err != nil || text != c.want {
			t.Errorf("%q: %q, %v, and not %q", c.s, text, err, c.want)
			continue
		}
		if again, err := Canonical(text); err != nil || again != text {
			t.Errorf("%q is not canonical: %q, %v", text, again, err)
		}
		g, _ := resolve.Grammar(c.s)
		if again, err := resolve.Grammar(text); err != nil || !equal(again, g) {
			t.Errorf("%q is read as %v, %v, and not as %v", text, again, err, g)
		}
	}
}

// noise returns spacing at random; it may be none.
func noise(r *rand.Rand) string {
	return []string{"", "", " ", "\t", "\n", "\r\n", "  \r", " # A <- ' [ (\n", "#\r"}[r.IntN(9)]
}

// noisy returns an expression with spacing, and with parentheses that are not needed.
func (x tree) noisy(r *rand.Rand, names []string, place string) string {
	var parts []string
	kids := func(place string) string {
		for _, kid := range x.kids {
			parts = append(parts, kid.noisy(r, names, place))
		}
		return parts[0]
	}
	var s string
	switch x.op {
	case api.Empty:
		s = []string{"''", `""`, "()"}[r.IntN(3)]
	case api.Class:
		s = classText(x.set)
	case api.Call:
		s = names[x.rule] + " "
	case api.Seq:
		kids("s")
		s = strings.Join(parts, noise(r))
	case api.Choice:
		kids("c")
		s = strings.Join(parts, noise(r)+"/"+noise(r))
	case api.Star:
		s = kids("x") + noise(r) + "*"
	case api.Plus:
		s = kids("x") + noise(r) + "+"
	case api.Opt:
		s = kids("x") + noise(r) + "?"
	case api.And:
		s = "&" + noise(r) + kids("p")
	case api.Not:
		s = "!" + noise(r) + kids("p")
	}
	if strings.Contains(enclosedIn[x.op], place) || r.IntN(3) == 0 {
		s = "(" + noise(r) + s + noise(r) + ")"
	}
	return s
}

// P10.3: files of grammars at random, with spacing and with parentheses that are not needed.
func TestNoisy(t *testing.T) {
	r := rand.New(rand.NewPCG(10, 3))
	for range 4000 {
		rules := randomRules(r)
		s := noise(r)
		for _, rule := range rules {
			s += rule.name + noise(r) + "<-" + noise(r) + rule.root.noisy(r, namesOf(rules), "e") + "\n" + noise(r)
		}
		g, _ := grammarOf(rules...)
		text, err := Canonical(s)
		if want := Print(g); err != nil || text != want {
			t.Errorf("%q: %q, %v, and not %q", s, text, err, want)
			return
		}
	}
}

// nest returns an expression within n others.
func nest(before, inner, after string, n int) string {
	return strings.Repeat(before, n) + inner + strings.Repeat(after, n)
}

// many returns a file with some rules that have no nodes but one.
func many(rules int) string {
	var b strings.Builder
	for i := range rules {
		fmt.Fprintf(&b, "r%d <- ''\n", i)
	}
	return b.String()
}

// wrong are strings that have no canonical text: the text of the error, its code, and its offset (-1 if it has none).
var wrong = []struct {
	name, s string
	text    string
	code    api.Code
	at      int
}{
	{"no file", "", "error 1", api.Syntax, 0},
	{"spacing", " \n", "error 1", api.Syntax, 2},
	{"a character", "A <- $", "error 1", api.Syntax, 5},
	{"a literal without an end", "A <- 'a' 'b", "error 1", api.Syntax, 9},
	{"a class without an end", "A <- [a-]", "error 1", api.Syntax, 5},
	{"a character of a class", `A <- [+\-]`, "error 1", api.Syntax, 5},
	{"a comment without an end", "A <- 'a' # b", "error 1", api.Syntax, 9},
	{"a wrong token", "A <- (B <- c", "error 1", api.Syntax, 8},
	{"two suffixes", "A <- 'a'**", "error 1", api.Syntax, 9},
	{"two prefixes", "A <- !!'a'", "error 1", api.Syntax, 6},
	{"a missing close", "A <- ('a'", "error 1", api.Syntax, 9},
	{"an expression", "'a'", "error 1", api.Syntax, 0},
	{"a rule", "A <- ''\nB <- A\nA <- B", "rule A: error 2", api.Duplicate, 15},
	{"a call", "A <- B", "rule B: error 3", api.Undefined, 5},
	{"a later call", "A <- B\nB <- A C", "rule C: error 3", api.Undefined, 14},
	{"rules", many(1001), "error 4", api.TooLarge, -1},
	{"nodes", "A <- " + strings.Repeat(".", 10000), "error 4", api.TooLarge, -1},
	{"parentheses", "A <- " + nest("(", "A", ")", 201), "error 5", api.TooDeep, 205},
	{"depth", "A <- " + nest("(!", "'a'", ")", 200), "rule nodes: error 5", api.TooDeep, 200},
	// Two errors: the first one of resolve.Grammar.
	{"a token and a rule", "A <- ''\nA <- )", "error 1", api.Syntax, 13},
	{"a rule and a call", "A <- B\nA <- ''", "rule A: error 2", api.Duplicate, 7},
	{"a call and depth", "A <- " + nest("(!", "B", ")", 200), "rule B: error 3", api.Undefined, 405},
}

// P10.3: for each error of resolve.Grammar, strings that have it.
func TestWrong(t *testing.T) {
	for _, c := range wrong {
		text, err := Canonical(c.s)
		if text != "" || err == nil || err.Error() != c.text {
			t.Errorf("%s: %.200q, %v, and not %s", c.name, text, err, c.text)
			continue
		}
		var code api.Code
		if !errors.As(err, &code) || code != c.code {
			t.Errorf("%s: the code %d, and not %d", c.name, code, c.code)
		}
		f := api.Fault{At: -1}
		if errors.As(err, &f); f.At != c.at {
			t.Errorf("%s: the offset %d, and not %d", c.name, f.At, c.at)
		}
		if _, want := resolve.Grammar(c.s); fmt.Sprintf("%T %v", err, err) != fmt.Sprintf("%T %v", want, want) {
			t.Errorf("%s: %T %v, and not %T %v", c.name, err, err, want, want)
		}
	}
}

// P10.3: every string has a canonical text, or the error of resolve.Grammar.
func TestEveryString(t *testing.T) {
	r := rand.New(rand.NewPCG(10, 4))
	parts := []string{"A", "B", " ", "<-", " <- ", "'a'", "[b]", ".", "(", ")", "/", "*", "!", "\nA <- ", "\nB <- ", "$"}
	valid := 0
	for range 30000 {
		s := "A <- "
		for range r.IntN(12) {
			s += parts[r.IntN(len(parts))]
		}
		text, err := Canonical(s)
		g, want := resolve.Grammar(s)
		if err == nil && want == nil {
			valid++
			checkText(t, g, text)
			continue
		}
		if text != "" || fmt.Sprint(err) != fmt.Sprint(want) {
			t.Errorf("%q: %q, %v, and not %v", s, text, err, want)
		}
	}
	if valid < 1000 {
		t.Errorf("only %d valid strings", valid)
	}
}

// P10.1 and P10.4: the limits of grammars.
func TestLimits(t *testing.T) {
	var rules []rule
	for i := range api.MaxRules {
		rules = append(rules, rule{fmt.Sprintf("r%d", i), call((i * 7) % api.MaxRules)})
	}
	g, _ := grammarOf(rules...)
	if text := Print(g); strings.Count(text, "\n") != api.MaxRules || !strings.HasSuffix(text, "\nr999 <- r993\n") {
		t.Errorf("rules: %.200q", text)
	}
	checkText(t, g, Print(g))
	if text := Rule(g, 999); text != "r999 <- r993" {
		t.Errorf("%q", text)
	}
	wide := tree{op: api.Choice}
	for len(wide.kids) < api.MaxNodes-1 {
		wide.kids = append(wide.kids, a)
	}
	g, _ = grammarOf(rule{"S", wide})
	checkText(t, g, "S <- 'a'"+strings.Repeat(" / 'a'", api.MaxNodes-2)+"\n")
	// The deepest expressions: with as many parentheses as there may be, and with none.
	for _, deep := range []struct {
		op            int
		before, after string
	}{
		{api.Not, "!(", ")"}, {api.And, "&(", ")"}, {api.Star, "(", ")*"}, {api.Seq, "(", ") ''"}, {api.Choice, "(", ") / ''"},
	} {
		x := a
		for depth := 1; depth < api.MaxDepth; depth++ {
			if deep.op == api.Seq || deep.op == api.Choice {
				x = with(deep.op, x, empty)
			} else {
				x = with(deep.op, x)
			}
		}
		g, _ := grammarOf(rule{"S", x})
		// The node of 'a' itself has no parentheses.
		inner := strings.NewReplacer("(", "", ")", "").Replace(deep.before + "'a'" + deep.after)
		checkText(t, g, "S <- "+nest(deep.before, inner, deep.after, api.MaxDepth-2)+"\n")
	}
}

// P10.1: long names, deep in an expression, end soon.
func TestLongNames(t *testing.T) {
	name := strings.Repeat("long_", 2000)
	x := tree{op: api.Seq}
	for range 2000 {
		x.kids = append(x.kids, call(0))
	}
	for range 90 {
		x = not(star(x))
	}
	g, _ := grammarOf(rule{name, x})
	inner := "(" + name + strings.Repeat(" "+name, 1999) + ")"
	if want := name + " <- " + nest("!(", "!"+inner+"*", ")*", 89) + "\n"; Print(g) != want {
		t.Errorf("%d bytes, and not %d", len(Print(g)), len(want))
	}
}

// spare returns a list with unused capacity, which holds one more element.
func spare[T any](l []T, more T) []T {
	return append(slices.Clone(l), more)[:len(l)]
}

// spareGrammar returns a grammar whose lists have unused capacity.
func spareGrammar(g api.Grammar) api.Grammar {
	s := api.Grammar{
		Rules: spare(g.Rules, api.Rule{Name: "more", Root: 7}),
		Nodes: spare(g.Nodes, api.Node{Op: api.Call, Rule: 7}),
	}
	for i, n := range s.Nodes {
		s.Nodes[i].Kids = spare(n.Kids, 7)
	}
	return s
}

// whole returns a grammar with its unused capacity.
func whole(g api.Grammar) api.Grammar {
	s := api.Grammar{
		Rules: g.Rules[:cap(g.Rules)],
		Nodes: slices.Clone(g.Nodes[:cap(g.Nodes)]),
	}
	for i, n := range s.Nodes {
		s.Nodes[i].Kids = n.Kids[:cap(n.Kids)]
	}
	return s
}

// results returns what all functions return for a grammar, one by one.
func results(g api.Grammar) []string {
	l := []string{Print(g)}
	for r := range g.Rules {
		l = append(l, Rule(g, r))
	}
	for i, n := range g.Nodes {
		l = append(l, Node(g, i), Class(n.Set))
	}
	return l
}

// Rules 4, 5 and 7: arguments and their unused capacity stay, a second call returns the same, and nil and empty lists are equivalent.
func TestArgumentsStay(t *testing.T) {
	for _, c := range grammars {
		g, _ := grammarOf(c.rules...)
		want := results(g)
		s := spareGrammar(g)
		before := fmt.Sprintf("%+v", whole(s))
		for range 2 {
			if got := results(s); !slices.Equal(got, want) {
				t.Errorf("%q, and not %q", got, want)
			}
		}
		if fmt.Sprintf("%+v", whole(s)) != before {
			t.Errorf("%q: the grammar has changed", c.want)
		}
	}
	for _, c := range canonical {
		text, err := Canonical(c.s)
		if again, errAgain := Canonical(c.s); again != text || fmt.Sprint(errAgain) != fmt.Sprint(err) {
			t.Errorf("%q: %q, %v, and then %q, %v", c.s, text, err, again, errAgain)
		}
	}
	for _, c := range wrong {
		_, err := Canonical(c.s)
		if again, errAgain := Canonical(c.s); again != "" || fmt.Sprint(errAgain) != fmt.Sprint(err) {
			t.Errorf("%s: %v, and then %q, %v", c.name, err, again, errAgain)
		}
	}
}

// Rule 5: texts are new memory, also those that are no more than a name.
func TestTextsAreNew(t *testing.T) {
	text := "namesecond"
	g, _ := grammarOf(rule{text[:4], call(0)}, rule{text[4:], call(0)})
	from := uintptr(unsafe.Pointer(unsafe.StringData(text)))
	for _, s := range results(g) {
		if at := uintptr(unsafe.Pointer(unsafe.StringData(s))); from <= at && at < from+uintptr(len(text)) {
			t.Errorf("%q is a part of the grammar", s)
		}
	}
	file := "A <- 'a'\n"
	got, err := Canonical(file)
	if err != nil || got != file || unsafe.StringData(got) == unsafe.StringData(file) {
		t.Errorf("%q is the file itself, %v", got, err)
	}
}

// What is unspecified ends without a panic: indices of no nodes and rules, and grammars that are not valid.
func TestUnspecified(t *testing.T) {
	g, _ := grammarOf(rule{"S", choice(a, call(0))})
	for _, i := range []int{math.MinInt, -1, 3, 4, math.MaxInt} {
		Node(g, i)
		Rule(g, i)
	}
	results(api.Grammar{})
	for op := -1; op <= api.Not+1; op++ {
		for _, n := range []int{math.MinInt, -1, 0, 1, 2, math.MaxInt} {
			// Kids that are no nodes or the node itself, a Rule or a Root that there is not, and no kids.
			results(api.Grammar{
				Rules: []api.Rule{{Name: "", Root: n}, {Name: "S", Root: 1}},
				Nodes: []api.Node{{Op: op, Rule: n}, {Op: op, Kids: []int{n, n, 1}, Rule: n}, {Op: op, Kids: []int{n, 0, 1}}},
			})
		}
	}
	// Kids that are those of two nodes each, which would be written too often.
	var shared api.Grammar
	for i := range 100 {
		shared.Nodes = append(shared.Nodes, api.Node{Op: api.Seq, Kids: []int{i - 1, i - 1}})
	}
	Node(shared, 99)
	// An expression that is much too deep.
	deep := api.Grammar{Nodes: make([]api.Node, 1, 200000)}
	for i := range 199999 {
		deep.Nodes = append(deep.Nodes, api.Node{Op: api.Not, Kids: []int{i}})
	}
	Node(deep, len(deep.Nodes)-1)
}
