package wf

import (
	"errors"
	"fmt"
	"math"
	"math/rand/v2"
	"slices"
	"strconv"
	"strings"
	"testing"
	"unsafe"

	"vetch/api"
	"vetch/build"
	"vetch/fault"
	"vetch/flow"
	"vetch/gram"
	"vetch/resolve"
)

// Grammars by hand are files. Those for the models are words: the expressions of all rules in prefix order, with a letter for each node, which tells its kind and the number of its kids.

// read returns the grammar of a file.
func read(t *testing.T, file string) api.Grammar {
	t.Helper()
	g, err := resolve.Grammar(file)
	if err != nil {
		t.Fatalf("%.200q: %v", file, err)
	}
	return g
}

// item returns the item of a letter: a class that takes any byte is b, and one that takes none is f.
func item(letter byte) build.Item {
	switch letter {
	case 'e':
		return build.Item{Op: api.Empty}
	case 'b':
		return build.Item{Op: api.Class, Set: api.Set{math.MaxUint64, math.MaxUint64, math.MaxUint64, math.MaxUint64}}
	case 'f':
		return build.Item{Op: api.Class}
	case '*':
		return build.Item{Op: api.Star, Kids: 1}
	case '+':
		return build.Item{Op: api.Plus, Kids: 1}
	case '?':
		return build.Item{Op: api.Opt, Kids: 1}
	case '&':
		return build.Item{Op: api.And, Kids: 1}
	case '!':
		return build.Item{Op: api.Not, Kids: 1}
	case 's', 't', 'u':
		return build.Item{Op: api.Seq, Kids: 2 + int(letter-'s')}
	case 'x', 'y', 'z':
		return build.Item{Op: api.Choice, Kids: 2 + int(letter-'x')}
	}
	return build.Item{Op: api.Call, Rule: int(letter - '0')}
}

// items returns the items of a word.
func items(word string) []build.Item {
	var l []build.Item
	for i := range len(word) {
		l = append(l, item(word[i]))
	}
	return l
}

// built returns the grammar whose rules have the expressions of which some items consist. It has to be valid.
func built(t *testing.T, l []build.Item) api.Grammar {
	t.Helper()
	var rules []build.Rule
	open, from := 1, 0 // how many expressions are to come until the rule ends, and where it begins
	for i, x := range l {
		open += x.Kids - 1
		if open == 0 {
			rules = append(rules, build.Rule{Name: fmt.Sprint("r", len(rules)), Items: l[from : i+1]})
			open, from = 1, i+1
		}
	}
	g, ok := build.Of(rules)
	if err := gram.Check(g); !ok || err != nil || from < len(l) {
		t.Fatalf("%v, %v: the grammar of %d items is not valid", ok, err, len(l))
	}
	return g
}

// grammar returns the grammar of a word.
func grammar(t *testing.T, word string) api.Grammar {
	t.Helper()
	return built(t, items(word))
}

// The models.

// holds reports whether a node is well-formed by the definition, if in tells which nodes are.
func holds(g api.Grammar, facts []flow.Facts, in []bool, i int) bool {
	n := g.Nodes[i]
	switch n.Op {
	case api.Empty, api.Class:
		return true
	case api.Call:
		return in[g.Rules[n.Rule].Root]
	case api.Star, api.Plus:
		return in[n.Kids[0]] && !facts[n.Kids[0]].Null
	}
	for k, kid := range n.Kids {
		behind := n.Op == api.Seq && slices.ContainsFunc(n.Kids[:k], func(before int) bool { return !facts[before].Null })
		if !in[kid] && !behind {
			return false
		}
	}
	return true
}

// inAll returns the nodes of a grammar with few nodes that are in all sets of nodes for which the definition holds.
func inAll(g api.Grammar, facts []flow.Facts) []bool {
	all := slices.Repeat([]bool{true}, len(g.Nodes))
	for code := range 1 << len(g.Nodes) {
		in := make([]bool, len(g.Nodes))
		for i := range in {
			in[i] = code>>i&1 == 1
		}
		closed := true
		for i := range in {
			closed = closed && (in[i] || !holds(g, facts, in, i))
		}
		for i := range in {
			all[i] = all[i] && (in[i] || !closed)
		}
	}
	return all
}

// inRounds returns the nodes that become well-formed in rounds, of which each adds all for which the definition holds then.
func inRounds(g api.Grammar, facts []flow.Facts) []bool {
	in := make([]bool, len(g.Nodes))
	for {
		next := make([]bool, len(g.Nodes))
		for i := range next {
			next[i] = holds(g, facts, in, i)
		}
		if slices.Equal(next, in) {
			return in
		}
		in = next
	}
}

// loopsOf is the model of Loops.
func loopsOf(g api.Grammar, facts []flow.Facts) []int {
	var l []int
	for i, n := range g.Nodes {
		if op := n.Op; (op == api.Star || op == api.Plus) && facts[n.Kids[0]].Null {
			l = append(l, i)
		}
	}
	return l
}

// needsOf is the model of Needs.
func needsOf(g api.Grammar, facts []flow.Facts, i int) []int {
	n := g.Nodes[i]
	if n.Op == api.Call {
		return []int{g.Rules[n.Rule].Root}
	}
	var l []int
	allNull := true
	for _, kid := range n.Kids {
		if n.Op != api.Seq || allNull {
			l = append(l, kid)
		}
		allNull = allNull && facts[kid].Null
	}
	return l
}

// ends tells for each node whether all paths of needs from it end, and none meets a node of loops: it follows them, and a node that is met again on its own path is on a cycle.
func ends(needs [][]int, loops []int) []bool {
	const unknown, open, good, bad = 0, 1, 2, 3
	state := make([]int, len(needs))
	for _, i := range loops {
		state[i] = bad
	}
	var follow func(i int) int
	follow = func(i int) int {
		switch state[i] {
		case open:
			return bad
		case unknown:
			state[i] = open
			result := good
			for _, need := range needs[i] {
				if follow(need) == bad {
					result = bad
				}
			}
			state[i] = result
		}
		return state[i]
	}
	var l []bool
	for i := range needs {
		l = append(l, follow(i) == good)
	}
	return l
}

// checkError compares what Check returns with the first node that is not well-formed, or -1 if all are.
func checkError(t *testing.T, g api.Grammar, first int) {
	t.Helper()
	err := Check(g)
	if first < 0 {
		if err != nil {
			t.Errorf("%+v: Check returns %v", g, err)
		}
		return
	}
	name := ""
	for _, rule := range slices.Backward(g.Rules) {
		if first <= rule.Root {
			name = rule.Name
		}
	}
	if err == nil || err.Error() != "rule "+name+": error 6" {
		t.Errorf("%+v: Check returns %v, and not an error of rule %s", g, err, name)
		return
	}
	code, _ := fault.Code(err)
	rule, _ := fault.Rule(err)
	if at, ok := fault.At(err); code != api.NotWellFormed || rule != name || at != first || !ok {
		t.Errorf("%+v: Check returns the code %d, the offset %d and the rule %s, and not %d in %s", g, code, at, rule, first, name)
	}
	if of := errors.Unwrap(err); of == nil || of != (api.Fault{Code: api.NotWellFormed, At: first}) {
		t.Errorf("%+v: Check wraps %#v", g, of)
	}
}

// marks returns a sign for each node: a plus if it is well-formed, and a minus if it is not.
func marks(l []bool) string {
	text := ""
	for _, ok := range l {
		if ok {
			text += "+"
		} else {
			text += "-"
		}
	}
	return text
}

// checkMarks compares what Of, Count and Check return with signs, between which there may be spaces.
func checkMarks(t *testing.T, g api.Grammar, want string) {
	t.Helper()
	want = strings.ReplaceAll(want, " ", "")
	if got := marks(Of(g)); got != want {
		t.Errorf("%+v: well-formed are %s, and not %s", g, got, want)
	}
	if got := Count(g); got != strings.Count(want, "-") {
		t.Errorf("%+v: %d nodes are counted, and not those of %s", g, got, want)
	}
	checkError(t, g, strings.Index(want, "-"))
}

// check compares what the functions return for a grammar with the models, and with each other (P12.5).
func check(t *testing.T, g api.Grammar) {
	t.Helper()
	facts := flow.Of(g)
	want := inRounds(g, facts)
	checkMarks(t, g, marks(want))
	if again := Of(g); !slices.Equal(again, want) {
		t.Errorf("%+v: well-formed are at last %v, and not %v", g, again, want)
	}
	loops := Loops(g)
	if want := loopsOf(g, facts); !slices.Equal(loops, want) {
		t.Errorf("%+v: the loops are %v, and not %v", g, loops, want)
	}
	var needs [][]int
	for i := range g.Nodes {
		l := Needs(g, i)
		if want := needsOf(g, facts, i); !slices.Equal(l, want) {
			t.Errorf("%+v: the node %d needs %v, and not %v", g, i, l, want)
		}
		needs = append(needs, l)
	}
	if by := ends(needs, loops); !slices.Equal(by, want) {
		t.Errorf("%+v: by paths of needs, %v are well-formed, and not %v", g, by, want)
	}
}

// P12.1 to P12.4: the examples of the chapter and of the document.
func TestExamples(t *testing.T) {
	g := read(t, "A <- A 'x' / 'y'")
	if got := Of(g); !slices.Equal(got, []bool{false, true, false, true, false}) {
		t.Errorf("well-formed are %v", got)
	}
	if err := Check(g); Count(g) != 3 || err == nil || err.Error() != "rule A: error 6" {
		t.Errorf("%d nodes are counted, and Check returns %v", Count(g), err)
	}
	if at, ok := fault.At(Check(g)); at != 0 || !ok {
		t.Errorf("the offset is %d", at)
	}
	g = read(t, "A <- ('a'?)*")
	if got := Of(g); !slices.Equal(got, []bool{true, true, false}) || !slices.Equal(Loops(g), []int{2}) {
		t.Errorf("well-formed are %v, and the loops are %v", got, Loops(g))
	}
	if err := Check(g); Count(g) != 1 || !errors.Is(err, api.NotWellFormed) || errors.Is(err, api.Wrong) {
		t.Errorf("%d nodes are counted, and Check returns %v", Count(g), err)
	}
	for _, file := range []string{
		"A <- 'a' A / ''", "A <- 'a' / 'ab'", "A <- 'ab'",
		"S <- &(A 'c') 'a'+ B !.\nA <- 'a' A? 'b'\nB <- 'b' B? 'c'",
	} {
		if g := read(t, file); Check(g) != nil || Count(g) != 0 || slices.Contains(Of(g), false) {
			t.Errorf("%q: %d nodes are counted, and Check returns %v", file, Count(g), Check(g))
		}
	}
}

// kinds are rules that are well-formed or not, and have the fact Null or not: N and B are well-formed, and N and L have it.
const kinds = "\nN <- ''\nB <- 'b'\nL <- '' / X\nX <- X"

// kindMarks are the signs of the nodes of kinds.
const kindMarks = " + + +-- -"

// checkKids checks an expression whose kids are calls of kinds.
func checkKids(t *testing.T, expression, want string) {
	t.Helper()
	calls := ""
	for _, c := range expression {
		switch c {
		case 'N', 'B':
			calls += "+"
		case 'L', 'X':
			calls += "-"
		}
	}
	g := read(t, "S <- "+expression+kinds)
	checkMarks(t, g, calls+want+kindMarks)
	check(t, g)
}

// P12.1: nodes with one kid and calls, for each kind of kid, by hand.
func TestOneKid(t *testing.T) {
	for form, wants := range map[string]string{
		"%s*": "- + - -",
		"%s+": "- + - -",
		"%s?": "+ + - -",
		"&%s": "+ + - -",
		"!%s": "+ + - -",
	} {
		for k, want := range strings.Fields(wants) {
			checkKids(t, strings.ReplaceAll(form, "%s", "NBLX"[k:k+1]), want)
		}
	}
	for _, rule := range []string{"N", "B", "L", "X"} {
		checkKids(t, rule, "")
	}
}

// P12.1: sequences and choices of two kids, for each kind of both, by hand: a line for the first kid, and a column for the second one.
func TestTwoKids(t *testing.T) {
	for separator, lines := range map[string][]string{
		" ":   {"++--", "++++", "----", "----"},
		" / ": {"++--", "++--", "----", "----"},
	} {
		for first, line := range lines {
			for second := range line {
				checkKids(t, "NBLX"[first:first+1]+separator+"NBLX"[second:second+1], line[second:second+1])
			}
		}
	}
}

// P12.1: sequences and choices of more kids, by hand.
func TestMoreKids(t *testing.T) {
	for kids, wants := range map[string]string{
		"NNN": "++", "BBB": "++", "NBN": "++", "BNB": "++", "NNB": "++", "BNN": "++",
		// In a sequence, a kid that is not well-formed may follow the first one without the fact Null, and be nowhere before it.
		"BXN": "+-", "BLB": "+-", "BNX": "+-", "BNL": "+-", "BXX": "+-", "BLX": "+-", "NBX": "+-", "NBL": "+-",
		"XBB": "--", "LBB": "--", "XNN": "--", "LNN": "--", "NXB": "--", "NLB": "--", "NLN": "--", "NNX": "--", "NNL": "--", "LBX": "--", "XXX": "--",
		"NNNN": "++", "NBNB": "++", "NNBX": "+-", "NBNX": "+-", "NBXL": "+-", "BNNL": "+-", "NNXB": "--", "NLBB": "--", "NNNL": "--", "NNNX": "--", "LNNN": "--",
		"NNNNN": "++", "NNBXL": "+-", "NNNBX": "+-", "NNNNX": "--", "NNLBN": "--", "BNNNX": "+-",
	} {
		l := strings.Split(kids, "")
		checkKids(t, strings.Join(l, " "), wants[:1])
		checkKids(t, strings.Join(l, " / "), wants[1:])
	}
}

// P12.1, P12.4 and P12.5: sequences and choices of three and of four kids, for each kind of all of them.
func TestAllKids(t *testing.T) {
	for code := range 4*4*4 + 4*4*4*4 {
		n := 3
		if code >= 4*4*4 {
			n, code = 4, code-4*4*4
		}
		var l []string
		for k := range n {
			l = append(l, []string{"N", "B", "L", "X"}[code>>(2*k)&3])
		}
		check(t, read(t, "S <- "+strings.Join(l, " ")+kinds))
		check(t, read(t, "S <- "+strings.Join(l, " / ")+kinds))
	}
}

// byHand are files, the signs of all nodes, and the nodes of Loops.
var byHand = []struct{ file, want, loops string }{
	{"A <- ''", "+", ""}, {"A <- 'a'", "+", ""}, {"A <- []", "+", ""}, {"A <- .", "+", ""},
	// Nodes that repeat a kid which may take no byte, and such that do not.
	{"A <- ''*", "+-", "1"}, {"A <- ''+", "+-", "1"}, {"A <- ''?", "++", ""}, {"A <- &''", "++", ""}, {"A <- !''", "++", ""},
	{"A <- 'a'*", "++", ""}, {"A <- 'a'+", "++", ""}, {"A <- []*", "++", ""}, {"A <- []+", "++", ""},
	{"A <- ('a'?)*", "++-", "2"}, {"A <- ('a'?)+", "++-", "2"}, {"A <- ('a'*)*", "++-", "2"}, {"A <- ('a'*)+", "++-", "2"}, {"A <- ('a'*)?", "+++", ""},
	{"A <- ('a'+)*", "+++", ""}, {"A <- ('a'+)+", "+++", ""}, {"A <- (!'a')*", "++-", "2"}, {"A <- (&'a')+", "++-", "2"}, {"A <- (!'a' .)*", "+++++", ""},
	{"A <- ('a' / '')*", "+++-", "3"}, {"A <- ('a' '')*", "++++", ""}, {"A <- ('a'? 'b'?)+", "+++++-", "5"}, {"A <- ('a'? 'b')+", "+++++", ""},
	// A node whose kid is a loop has no facts, and is none; several loops; loops behind a byte, and before it.
	{"A <- ((''*)*)+", "+---", "1"}, {"A <- ''* ('a'?)+ / B\nB <- ('b'?)*", "+-++---- ++-", "1 4 10"},
	{"A <- 'a' ''*", "++-+", "2"}, {"A <- ''* 'a'", "+-+-", "1"}, {"A <- 'a'? ''*", "+++--", "3"}, {"A <- 'a' / ''*", "++--", "2"},
	{"A <- !(''*)", "+--", "1"}, {"A <- ('a'?)* ('b'+)* ('c'*)*", "++-+++++--", "2 8"},
	// A rule that calls itself at once.
	{"A <- A", "-", ""}, {"A <- A*", "--", ""}, {"A <- A+", "--", ""}, {"A <- A?", "--", ""}, {"A <- &A", "--", ""}, {"A <- !A", "--", ""},
	{"A <- A A", "---", ""}, {"A <- A / A", "---", ""}, {"A <- !(!A)", "---", ""}, {"A <- ('' / A)*", "+---", "3"},
	// On the left, and as one of several ways.
	{"A <- A 'x'", "-+-", ""}, {"A <- A 'x' / 'y'", "-+-+-", ""}, {"A <- A 'x' 'y'", "-++-", ""}, {"A <- A / 'a'", "-+-", ""}, {"A <- 'a' / A", "+--", ""},
	{"A <- '' / A", "+--", ""}, {"A <- [] / A", "+--", ""}, {"A <- 'a' / A / 'b'", "+-+-", ""}, {"A <- 'y' / A 'x'", "+-+--", ""},
	{"A <- A* 'b'", "--+-", ""}, {"A <- A+ 'b'", "--+-", ""}, {"A <- A? 'b'", "--+-", ""}, {"A <- &A 'b'", "--+-", ""}, {"A <- !A 'b'", "--+-", ""},
	{"A <- 'a' / A*", "+---", ""}, {"A <- 'a' / A+", "+---", ""}, {"A <- 'a' / A?", "+---", ""}, {"A <- 'a' / &A", "+---", ""}, {"A <- 'a' / !A", "+---", ""},
	// On the right.
	{"A <- 'a' A", "+++", ""}, {"A <- 'a' A / ''", "+++++", ""}, {"A <- 'a' A 'b' / ''", "++++++", ""}, {"A <- [] A", "+++", ""}, {"A <- 'a' (A 'x')", "+++++", ""},
	{"A <- 'a' A*", "++++", ""}, {"A <- 'a' A+", "++++", ""}, {"A <- 'a' A?", "++++", ""}, {"A <- 'a' &A", "++++", ""}, {"A <- 'a' !A", "++++", ""},
	{"A <- ('a' A)*", "++++", ""}, {"A <- ('a' A)+", "++++", ""}, {"A <- ('a' A)?", "++++", ""}, {"A <- &('a' A)", "++++", ""}, {"A <- !('a' A)", "++++", ""},
	{"A <- 'a'+ A", "++++", ""}, {"A <- 'a' A A", "++++", ""}, {"A <- '' 'a' A", "++++", ""}, {"A <- 'a' '' A", "++++", ""}, {"A <- 'a'? 'b' A", "+++++", ""},
	// Behind kids that may take no byte.
	{"A <- '' A", "+--", ""}, {"A <- 'a'? A 'b'", "++-+-", ""}, {"A <- 'a'* A", "++--", ""}, {"A <- !'a' A", "++--", ""}, {"A <- &'a' A", "++--", ""},
	{"A <- ![] A", "++--", ""}, {"A <- 'a'? 'b'* '' A", "+++++--", ""}, {"A <- ('a' / '') A", "+++--", ""}, {"A <- '' A? 'b'", "+--+-", ""}, {"A <- '' !A 'b'", "+--+-", ""},
	{"A <- B A\nB <- 'b'?", "+-- ++", ""}, {"A <- B A\nB <- 'b'", "+++ +", ""}, {"A <- B 'a' A\nB <- ''", "++++ +", ""},
	// Through other rules.
	{"A <- B\nB <- 'b'", "+ +", ""}, {"A <- B\nB <- A", "- -", ""}, {"A <- B\nB <- C\nC <- A", "- - -", ""}, {"A <- B\nB <- C 'x'\nC <- 'c'", "+ +++ +", ""},
	{"A <- B 'a' / ''\nB <- A 'b' / 'c'", "-+-+- -+-+-", ""}, {"A <- 'a' B / 'c'\nB <- 'b' A / ''", "+++++ +++++", ""},
	{"A <- B 'a'\nB <- C / ''\nC <- 'c' A", "+++ +++ +++", ""}, {"A <- B 'a'\nB <- C / ''\nC <- 'c'? A", "-+- -+- ++--", ""},
	{"A <- !B\nB <- 'b' A", "++ +++", ""}, {"A <- !B\nB <- !A", "-- --", ""}, {"A <- B*\nB <- A+ 'b'", "-- --+-", ""}, {"A <- B*\nB <- 'b' A*", "++ ++-+", "4"},
	{"A <- &B 'a'\nB <- 'b'? C\nC <- !A", "--+- ++-- --", ""}, {"A <- 'a' B\nB <- C?\nC <- A", "+++ ++ +", ""},
	// Nodes of several rules that hang on one another.
	{"A <- B\nB <- C 'x'\nC <- ''*", "- -+- +-", "5"}, {"A <- 'a' B\nB <- ''*", "+-+ +-", "4"}, {"A <- 'a' B\nB <- C\nC <- C", "+-+ - -", ""},
	{"A <- B / C\nB <- 'b'\nC <- D\nD <- 'd' C", "+++ + + +++", ""}, {"A <- B / C\nB <- 'b'\nC <- D\nD <- 'd'? C", "+-- + - ++--", ""},
	{"A <- 'a'\nB <- A\nC <- B", "+ + +", ""}, {"A <- A\nB <- A\nC <- B 'c'", "- - -+-", ""}, {"A <- 'a' C\nB <- A B / ''\nC <- B A", "+++ +++++ +++", ""},
	// Rules that are not reached.
	{"A <- 'a'\nB <- B", "+ -", ""}, {"A <- 'a'\nB <- 'b' C\nC <- 'c'?", "+ +++ ++", ""}, {"A <- 'a'\nB <- ('b'?)*", "+ ++-", "3"}, {"A <- A\nB <- 'b'", "- +", ""},
	{"A <- ''\nB <- 'b' C\nC <- C", "+ +-+ -", ""}, {"A <- 'a'+\nB <- A C\nC <- B?", "++ +++ ++", ""},
}

// numbers reads numbers with spaces between them.
func numbers(t *testing.T, text string) []int {
	t.Helper()
	var l []int
	for _, word := range strings.Fields(text) {
		n, err := strconv.Atoi(word)
		if err != nil {
			t.Fatal(err)
		}
		l = append(l, n)
	}
	return l
}

// P12.1 to P12.3, and P12.5: grammars by hand.
func TestByHand(t *testing.T) {
	for _, c := range byHand {
		g := read(t, c.file)
		checkMarks(t, g, c.want)
		if got, want := Loops(g), numbers(t, c.loops); !slices.Equal(got, want) {
			t.Errorf("%q: the loops are %v, and not %v", c.file, got, want)
		}
		check(t, g)
	}
}

// P12.2: the rule and the index of the first node that is not well-formed, by hand.
func TestCheck(t *testing.T) {
	for _, c := range []struct {
		file, rule string
		at         int
	}{
		{"A <- 'a' A / ''\nB <- 'b'", "", -1}, {"A <- 'a' B*\nB <- 'b' / A", "", -1},
		{"A <- A", "A", 0}, {"first <- first 'x' / 'y'", "first", 0}, {"A <- 'a' / A 'x'", "A", 1}, {"A <- 'a' 'b' ''*", "A", 3}, {"A <- ('a'?)*", "A", 2},
		{"A <- 'a' B\nB <- 'b'\nC <- ''+", "C", 5}, {"A <- 'a' 'b'\nother_1 <- 'b' / other_1\nC <- 'c'", "other_1", 4}, {"A <- 'a'\nB <- B", "B", 1},
		{"A <- 'a'\nB <- 'b' 'c' C\nC <- D\nD <- 'd' ('e'*)+ D", "D", 9},
		// Where several nodes and rules are wrong, the first node counts, not what makes it wrong.
		{"A <- ''* ''*", "A", 1}, {"A <- A\nB <- B", "A", 0}, {"A <- B\nB <- C\nC <- C", "A", 0}, {"A <- 'a' B\nB <- B", "A", 1},
		{"A <- 'a' 'b'\nB <- ''* / B\nC <- C", "B", 4}, {"A <- 'a'\nB <- 'b' D\nC <- ''*\nD <- C", "B", 2}, {"A <- 'a' / 'b'\nB <- 'c'\nC <- B / D\nD <- C", "C", 5},
	} {
		g := read(t, c.file)
		err := Check(g)
		rule, _ := fault.Rule(err)
		if at, ok := fault.At(err); rule != c.rule || ok != (err != nil) || ok != (c.at >= 0) || ok && at != c.at {
			t.Errorf("%q: Check returns the rule %q and the offset %d, and not %q and %d", c.file, rule, at, c.rule, c.at)
		}
		checkError(t, g, c.at)
	}
}

// P12.4: the nodes that all nodes need, by hand: nothing (a hyphen), or their numbers with commas between them.
func TestNeeds(t *testing.T) {
	for file, want := range map[string]string{
		"A <- ''": "-", "A <- 'a'": "-", "A <- []": "-", "A <- A": "0", "A <- B\nB <- 'b' 'c'": "3 - - 1", "A <- 'a' 'b'\nB <- A": "- - 0 2",
		"A <- 'a'*": "- 0", "A <- 'a'+": "- 0", "A <- 'a'?": "- 0", "A <- &'a'": "- 0", "A <- !'a'": "- 0",
		"A <- ''*": "- 0", "A <- ''+": "- 0", "A <- ''?": "- 0", "A <- &''": "- 0", "A <- !''": "- 0",
		"A <- 'a' / 'b'": "- - 0,1", "A <- 'a' / '' / 'c'": "- - - 0,1,2", "A <- '' / 'b' / '' / 'd'": "- - - - 0,1,2,3",
		"A <- 'a' 'b'": "- - 0", "A <- '' 'b'": "- - 0,1", "A <- 'a' ''": "- - 0", "A <- '' ''": "- - 0,1", "A <- [] 'b'": "- - 0",
		// Kids with the fact Null: none, at the beginning, in the middle, at the end, all.
		"A <- 'a' 'b' 'c'": "- - - 0", "A <- '' 'b' 'c'": "- - - 0,1", "A <- 'a' '' 'c'": "- - - 0", "A <- 'a' 'b' ''": "- - - 0",
		"A <- '' '' 'c'": "- - - 0,1,2", "A <- '' 'b' ''": "- - - 0,1", "A <- 'a' '' ''": "- - - 0", "A <- '' '' ''": "- - - 0,1,2",
		"A <- '' '' 'c' 'd' '' 'f'": "- - - - - - 0,1,2", "A <- '' 'b' '' '' 'e'": "- - - - - 0,1", "A <- 'a' '' '' '' 'e'": "- - - - - 0",
		"A <- '' '' '' '' 'e'": "- - - - - 0,1,2,3,4", "A <- 'a'? 'b'* !'c' 'd' 'e'": "- 0 - 2 - 4 - - 1,3,5,6",
		// The facts come from other rules, and from rules that call themselves; what fails always, or does nothing, does not have Null.
		"A <- B C 'a'\nB <- ''\nC <- 'c'": "4 5 - 0,1 - -", "A <- B A\nB <- '' / B": "5 2 0,1 - 5 3,4", "A <- A 'x'": "2 - 0", "A <- ''* 'x'": "- 0 - 1",
		"A <- 'a' A / ''": "- 4 0 - 2,3", "A <- B 'a'\nB <- B B": "5 - 0 5 5 3", "A <- !'' 'a'": "- 0 - 1", "A <- ![] 'a'": "- 0 - 1,2",
	} {
		g := read(t, file)
		for i, text := range strings.Fields(want) {
			l := numbers(t, strings.ReplaceAll(strings.ReplaceAll(text, "-", ""), ",", " "))
			if got := Needs(g, i); !slices.Equal(got, l) {
				t.Errorf("%q: the node %d needs %v, and not %v", file, i, got, l)
			}
		}
		if n := len(strings.Fields(want)); n != len(g.Nodes) {
			t.Errorf("%q: there are %d nodes, and not %d", file, len(g.Nodes), n)
		}
		check(t, g)
	}
}

// words calls do with all words of n letters that consist of so many expressions, behind what they begin with.
func words(letters string, expressions, n int, begin string, do func(word string)) {
	if n == 0 && expressions == 0 {
		do(begin)
	}
	// Each expression has at least one letter.
	if n < expressions || expressions == 0 {
		return
	}
	for i := range len(letters) {
		words(letters, expressions-1+item(letters[i]).Kids, n-1, begin+letters[i:i+1], do)
	}
}

// small calls do with all grammars of few nodes, and returns how many there are.
func small(t *testing.T, do func(g api.Grammar)) int {
	t.Helper()
	number := 0
	for _, c := range []struct {
		letters     string
		rules, most int
	}{
		{"ebf0*+?&!stxy", 1, 5},
		{"ebf01*+?&!stxy", 2, 4},
		{"eb012*+?!sx", 3, 4},
	} {
		for n := range c.most + 1 {
			words(c.letters, c.rules, n, "", func(word string) {
				number++
				if !t.Failed() {
					do(grammar(t, word))
				}
			})
		}
	}
	return number
}

// P12.1 to P12.5: all grammars of few nodes.
func TestSmall(t *testing.T) {
	// 11636 of one rule, 2650 of two, and 1625 of three.
	if number := small(t, func(g api.Grammar) { check(t, g) }); number != 15911 {
		t.Errorf("%d grammars", number)
	}
}

// P12.1: the well-formed nodes of small grammars are the fewest ones for which the definition holds, which are those in all sets for which it does.
func TestFewest(t *testing.T) {
	small(t, func(g api.Grammar) {
		if got, want := Of(g), inAll(g, flow.Of(g)); !slices.Equal(got, want) {
			t.Errorf("%+v: well-formed are %v, and the fewest ones %v", g, got, want)
		}
	})
}

// randomWord returns an expression at random of at most some depth, for a grammar of some number of rules.
func randomWord(r *rand.Rand, rules, depth int) string {
	letters := "eebbbbbf"
	if r.IntN(2) == 0 {
		letters = "0123456"[:rules]
	}
	if depth > 1 && r.IntN(6) > 0 {
		letters = "*+?&!sstuxyz"
	}
	k := r.IntN(len(letters))
	word := letters[k : k+1]
	for range item(word[0]).Kids {
		word += randomWord(r, rules, depth-1)
	}
	return word
}

// randomGrammar returns a grammar at random.
func randomGrammar(t *testing.T, r *rand.Rand) api.Grammar {
	t.Helper()
	rules := 1 + r.IntN(7)
	word := ""
	for range rules {
		word += randomWord(r, rules, 1+r.IntN(4))
	}
	return grammar(t, word)
}

// P12.1 to P12.5: grammars at random, of which many are well-formed, and many have nodes that are and nodes that are not.
func TestRandom(t *testing.T) {
	r := rand.New(rand.NewPCG(12, 1))
	var seen [6]int // how many grammars there are that are well-formed with calls, wrong without loops, wrong in nothing else, and wrong in both; some with many nodes of which about half are wrong; and some whose first rule is not wrong, but another one is
	for range 6000 {
		g := randomGrammar(t, r)
		check(t, g)
		if t.Failed() {
			return
		}
		calls := slices.ContainsFunc(g.Nodes, func(n api.Node) bool { return n.Op == api.Call })
		count, loops := Count(g), len(Loops(g))
		for k, is := range []bool{
			count == 0 && calls,
			count > 0 && loops == 0,
			count > 0 && loops == count,
			count > loops && loops > 0,
			len(g.Nodes) > 10 && count > len(g.Nodes)/3 && count < len(g.Nodes)*2/3,
			count > 0 && slices.Index(Of(g), false) > g.Rules[0].Root,
		} {
			if is {
				seen[k]++
			}
		}
	}
	if slices.Min(seen[:]) < 100 {
		t.Errorf("there are only %v grammars of each kind", seen)
	}
}

// P12.1, P12.4 and P12.5: as many kids as there may be.
func TestManyKids(t *testing.T) {
	const kids = api.MaxNodes - 1
	for _, c := range []struct {
		op           int
		begin, again string
		end          string
		wrong, needs int
	}{
		{api.Seq, "", "e", "", 0, kids},
		{api.Seq, "", "b", "", 0, 1},
		{api.Seq, "", "0", "", kids + 1, 1},
		{api.Seq, "", "e", "0", 2, kids},
		{api.Seq, "", "e", "b0", 0, kids - 1},
		{api.Seq, "b", "0", "", 0, 1},
		{api.Seq, "eeeeb", "0", "", 0, 5},
		{api.Seq, "0", "b", "", 2, 1},
		{api.Choice, "", "b", "", 0, kids},
		{api.Choice, "", "e", "0", 2, kids},
		{api.Choice, "", "0", "", kids + 1, kids},
	} {
		l := items(c.begin + strings.Repeat(c.again, kids-len(c.begin+c.end)) + c.end)
		g := built(t, append([]build.Item{{Op: c.op, Kids: kids}}, l...))
		if count := Count(g); count != c.wrong || len(Needs(g, kids)) != c.needs {
			t.Errorf("%+v: %d nodes are wrong, and the root needs %d", c, count, len(Needs(g, kids)))
		}
		check(t, g)
	}
}

// P12.1, P12.2 and P12.5: as many rules as there may be, which call each other one after another.
func TestManyRules(t *testing.T) {
	const most = api.MaxRules
	for _, c := range []struct {
		name  string
		next  func(r int) int // the rule that is called, or none (-1) for a byte
		first int             // the first node that is wrong
		wrong int
	}{
		{"to the end", func(r int) int {
			if r == most-1 {
				return -1
			}
			return r + 1
		}, -1, 0},
		{"to the start", func(r int) int { return r - 1 }, -1, 0},
		{"to itself at the end", func(r int) int { return min(r+1, most-1) }, 0, most},
		{"to itself at the start", func(r int) int { return max(r-1, 0) }, 0, most},
		{"in a circle", func(r int) int { return (r + 387) % most }, 0, most},
		{"to the start, and in a circle from 300 on", func(r int) int {
			if r < 300 {
				return r - 1
			}
			return max((r+1)%most, 300)
		}, 300, most - 300},
	} {
		var l []build.Item
		for r := range most {
			x := build.Item{Op: api.Call, Rule: c.next(r)}
			if x.Rule < 0 {
				x = item('b')
			}
			l = append(l, x)
		}
		g := built(t, l)
		if first := slices.Index(Of(g), false); first != c.first || Count(g) != c.wrong {
			t.Errorf("%s: %d nodes are wrong, and the first one is %d", c.name, Count(g), first)
		}
		check(t, g)
	}
}

// P12.1, P12.3 and P12.5: as many levels as there may be.
func TestManyLevels(t *testing.T) {
	const ups = api.MaxDepth - 1
	for _, c := range []struct {
		up, leaf, down string
		wrong          int
		loops          []int
	}{
		{"?", "b", "", 0, nil}, {"&", "b", "", 0, nil}, {"!", "e", "", 0, nil}, {"+", "b", "", 0, nil},
		{"*", "b", "", ups - 1, []int{2}}, {"*", "e", "", ups, []int{1}}, {"+", "e", "", ups, []int{1}},
		{"?", "0", "", ups + 1, nil}, {"&", "0", "", ups + 1, nil}, {"!", "0", "", ups + 1, nil}, {"*", "0", "", ups + 1, nil}, {"+", "0", "", ups + 1, nil},
		{"s", "b", "0", 0, nil}, {"s", "e", "b", 0, nil}, {"s", "0", "b", ups + 1, nil}, {"s", "e", "0", 2 * ups, nil},
		{"se", "0", "", ups + 1, nil}, {"sb", "0", "", 0, nil}, {"xb", "0", "", ups + 1, nil}, {"x", "b", "0", 2 * ups, nil}, {"x", "0", "e", ups + 1, nil},
	} {
		g := grammar(t, strings.Repeat(c.up, ups)+c.leaf+strings.Repeat(c.down, ups))
		if Count(g) != c.wrong || !slices.Equal(Loops(g), c.loops) {
			t.Errorf("%+v: %d nodes are wrong, and the loops are %v", c, Count(g), Loops(g))
		}
		check(t, g)
	}
}

// spare returns a copy of a list with one more element in its unused capacity.
func spare[T any](l []T, more T) []T { return append(slices.Clone(l), more)[:len(l)] }

// spareGrammar returns a copy of a grammar whose lists have unused capacity.
func spareGrammar(g api.Grammar) api.Grammar {
	s := api.Grammar{Rules: spare(g.Rules, api.Rule{Name: "more", Root: 7}), Nodes: spare(g.Nodes, api.Node{Op: api.Star, Kids: []int{0}})}
	for i, n := range s.Nodes {
		s.Nodes[i].Kids = spare(n.Kids, 7)
	}
	return s
}

// whole returns a copy of a grammar with its unused capacity.
func whole(g api.Grammar) api.Grammar {
	w := gram.Clone(api.Grammar{Rules: g.Rules[:cap(g.Rules)], Nodes: g.Nodes[:cap(g.Nodes)]})
	for i, n := range g.Nodes {
		w.Nodes[i].Kids = slices.Clone(n.Kids[:cap(n.Kids)])
	}
	return w
}

// results returns all that the functions return for a grammar, as a text.
func results(g api.Grammar) string {
	err := Check(g)
	at, ok := fault.At(err)
	text := fmt.Sprint(Of(g), Count(g), Loops(g), err, at, ok)
	for i := range g.Nodes {
		text += fmt.Sprint(" ", Needs(g, i))
	}
	return text
}

// Rules 4, 5 and 7: arguments and their unused capacity stay and are not read, a second call returns the same, and nil and empty lists are equivalent.
func TestArgumentsStay(t *testing.T) {
	r := rand.New(rand.NewPCG(12, 2))
	for range 600 {
		g := randomGrammar(t, r)
		want := results(g)
		s := spareGrammar(g)
		for i, n := range s.Nodes {
			if len(n.Kids) == 0 && r.IntN(2) == 0 {
				s.Nodes[i].Kids = []int{}
			}
		}
		before := whole(s)
		for range 2 {
			if got := results(s); got != want {
				t.Fatalf("%+v: the results are %s, and not %s", g, got, want)
			}
		}
		if !gram.Same(whole(s), before) {
			t.Fatalf("%+v: an argument has changed", g)
		}
	}
}

// Rule 5: results are new memory: neither arguments nor later results change with them.
func TestResultsAreNew(t *testing.T) {
	r := rand.New(rand.NewPCG(12, 3))
	for range 600 {
		g := spareGrammar(randomGrammar(t, r))
		before, want := whole(g), results(g)
		clear(Of(g))
		for _, l := range [][]int{Loops(g), Loops(g)} {
			for k := range l[:cap(l)] {
				l[:cap(l)][k] = -9
			}
		}
		for i := range g.Nodes {
			l := Needs(g, i)
			for k := range l[:cap(l)] {
				l[:cap(l)][k] = -9
			}
		}
		if !gram.Same(whole(g), before) || results(g) != want {
			t.Fatalf("%+v: an argument or a result has changed with a result", g)
		}
	}
	g := read(t, "name <- name")
	if name, ok := fault.Rule(Check(g)); !ok || unsafe.StringData(name) == unsafe.StringData(g.Rules[0].Name) {
		t.Errorf("the name %q is that of the argument", name)
	}
	g = api.Grammar{Rules: []api.Rule{{Name: "A"}}, Nodes: []api.Node{{Kids: make([]int, 0, 1)}}}
	if l := Needs(g, 0); cap(l) > 0 {
		t.Errorf("the list has a capacity of %d", cap(l))
	}
}

// damage changes a grammar in one place at random.
func damage(r *rand.Rand, g *api.Grammar) {
	wrong := []int{math.MinInt, -1, 0, 1, 2, len(g.Rules), len(g.Nodes) - 1, len(g.Nodes), len(g.Nodes) + 1, api.MaxNodes, math.MaxInt}
	x := wrong[r.IntN(len(wrong))]
	if len(g.Nodes) == 0 || len(g.Rules) == 0 {
		return
	}
	n := &g.Nodes[r.IntN(len(g.Nodes))]
	switch r.IntN(8) {
	case 0:
		n.Op = r.IntN(12) - 1
	case 1:
		n.Op, n.Rule = api.Call, x
	case 2:
		n.Kids = nil
	case 3:
		n.Kids = append(n.Kids, x)
	case 4:
		n.Kids = []int{x, r.IntN(len(g.Nodes)), x}
	case 5:
		g.Rules[r.IntN(len(g.Rules))].Root = x
	case 6:
		g.Rules = g.Rules[:len(g.Rules)-1]
	case 7:
		g.Nodes = g.Nodes[:len(g.Nodes)-1]
	}
}

// P1: all functions end and do not panic where they are not specified: grammars that are not valid, and indices of no nodes.
func TestUnspecified(t *testing.T) {
	r := rand.New(rand.NewPCG(12, 4))
	grammars := []api.Grammar{{}, {Rules: make([]api.Rule, 3)}, {Nodes: make([]api.Node, 3)}}
	for _, n := range []int{api.MaxNodes + 1, 2 * api.MaxNodes} {
		g := api.Grammar{Rules: []api.Rule{{Name: "A", Root: n - 1}}, Nodes: make([]api.Node, n)}
		g.Nodes[0] = api.Node{Op: api.Opt, Kids: []int{n - 1}}
		g.Nodes[n-1] = api.Node{Op: api.Seq, Kids: []int{1, 2, n - 2}}
		grammars = append(grammars, g)
	}
	for range 6000 {
		g := gram.Clone(randomGrammar(t, r))
		for range 1 + r.IntN(3) {
			damage(r, &g)
		}
		grammars = append(grammars, g)
	}
	for _, g := range grammars {
		if got := Of(g); len(got) != len(g.Nodes) || Count(g) != strings.Count(marks(got), "-") {
			t.Errorf("%+v: there are %d nodes, and %d of them are wrong", g, len(got), Count(g))
		}
		if err := Check(g); (err == nil) != (Count(g) == 0) {
			t.Errorf("%+v: %d nodes are wrong, and Check returns %v", g, Count(g), err)
		}
		Loops(g)
		for i := -1; i <= min(len(g.Nodes), 100); i++ {
			if got := Needs(g, i); i < 0 && len(got) > 0 {
				t.Errorf("%+v: the node %d, which there is not, needs %v", g, i, got)
			}
		}
		for _, i := range []int{math.MinInt, len(g.Nodes) - 1, len(g.Nodes), len(g.Nodes) + 1, math.MaxInt} {
			if got := Needs(g, i); i != len(g.Nodes)-1 && len(got) > 0 {
				t.Errorf("%+v: the node %d, which there is not, needs %v", g, i, got)
			}
		}
	}
}
