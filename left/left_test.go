package left

import (
	"fmt"
	"math"
	"math/rand/v2"
	"slices"
	"strings"
	"testing"
	"unsafe"

	"vetch/api"
	"vetch/build"
	"vetch/flow"
	"vetch/gram"
	"vetch/resolve"
	"vetch/wf"
)

// Grammars by hand are files, or say for each rule which rules it calls at the left: the rules are A, B and so on, and a rule that calls none is a hyphen. Those for the models are words: the expressions of all rules in prefix order, with a letter for each node, which tells its kind and the number of its kids.

// read returns the grammar of a file.
func read(t *testing.T, file string) api.Grammar {
	t.Helper()
	g, err := resolve.Grammar(file)
	if err != nil {
		t.Fatalf("%.200q: %v", file, err)
	}
	return g
}

// letters returns the letters of rules, or a hyphen for no rules.
func letters(rules []int) string {
	if len(rules) == 0 {
		return "-"
	}
	text := ""
	for _, r := range rules {
		text += string(rune('A' + r))
	}
	return text
}

// calling returns the grammar whose rules call those of some lists of letters at the left.
func calling(t *testing.T, text string) api.Grammar {
	t.Helper()
	file := ""
	for r, list := range strings.Fields(text) {
		file += string(rune('A'+r)) + " <- "
		if list == "-" {
			file += "'x'\n"
		} else {
			file += strings.Join(strings.Split(list, ""), " / ") + "\n"
		}
	}
	g := read(t, file)
	if got := callLists(g); got != text {
		t.Errorf("the left calls are %s, and not %s", got, text)
	}
	return g
}

// callLists returns the letters of the rules that each rule calls at the left.
func callLists(g api.Grammar) string {
	var l []string
	for r := range g.Rules {
		l = append(l, letters(Calls(g, r)))
	}
	return strings.Join(l, " ")
}

// cycleLists returns the letters of the cycles of all rules.
func cycleLists(g api.Grammar) string {
	var l []string
	for r := range g.Rules {
		l = append(l, letters(Cycle(g, r)))
	}
	return strings.Join(l, " ")
}

// item returns the item of a letter: a class that takes any byte is b, and one that takes none is f.
func item(letter byte) build.Item {
	switch letter {
	case 'e':
		return build.Item{Op: api.Empty}
	case 'b':
		return build.Item{Op: api.Class, Set: api.Set{math.MaxUint64, math.MaxUint64, math.MaxUint64, math.MaxUint64}}
	case 'f':
		return build.Item{Op: api.Class}
	case '*':
		return build.Item{Op: api.Star, Kids: 1}
	case '+':
		return build.Item{Op: api.Plus, Kids: 1}
	case '?':
		return build.Item{Op: api.Opt, Kids: 1}
	case '&':
		return build.Item{Op: api.And, Kids: 1}
	case '!':
		return build.Item{Op: api.Not, Kids: 1}
	case 's', 't', 'u':
		return build.Item{Op: api.Seq, Kids: 2 + int(letter-'s')}
	case 'x', 'y', 'z':
		return build.Item{Op: api.Choice, Kids: 2 + int(letter-'x')}
	}
	return build.Item{Op: api.Call, Rule: int(letter - '0')}
}

// items returns the items of a word.
func items(word string) []build.Item {
	var l []build.Item
	for i := range len(word) {
		l = append(l, item(word[i]))
	}
	return l
}

// built returns the grammar whose rules have the expressions of which some items consist. It has to be valid.
func built(t *testing.T, l []build.Item) api.Grammar {
	t.Helper()
	var rules []build.Rule
	open, from := 1, 0 // how many expressions are to come until the rule ends, and where it begins
	for i, x := range l {
		open += x.Kids - 1
		if open == 0 {
			rules = append(rules, build.Rule{Name: fmt.Sprint("r", len(rules)), Items: l[from : i+1]})
			open, from = 1, i+1
		}
	}
	g, ok := build.Of(rules)
	if err := gram.Check(g); !ok || err != nil || from < len(l) {
		t.Fatalf("%v, %v: the grammar of %d items is not valid", ok, err, len(l))
	}
	return g
}

// grammar returns the grammar of a word.
func grammar(t *testing.T, word string) api.Grammar {
	t.Helper()
	return built(t, items(word))
}

// The models.

// needsOf is the model of Needs.
func needsOf(g api.Grammar, facts []flow.Facts, i int) []int {
	n := g.Nodes[i]
	if n.Op == api.Call {
		return []int{g.Rules[n.Rule].Root}
	}
	var l []int
	allNull := true
	for _, kid := range n.Kids {
		if n.Op != api.Seq || allNull {
			l = append(l, kid)
		}
		allNull = allNull && facts[kid].Null
	}
	return l
}

// calledFrom is the model of Calls: it adds what nodes need that are no Calls, from the root on, until there is nothing to add.
func calledFrom(g api.Grammar, facts []flow.Facts, r int) []bool {
	in := make([]bool, len(g.Nodes))
	in[g.Rules[r].Root] = true
	for size := 0; size < count(in); {
		size = count(in)
		for i, n := range g.Nodes {
			if in[i] && n.Op != api.Call {
				for _, need := range needsOf(g, facts, i) {
					in[need] = true
				}
			}
		}
	}
	called := make([]bool, len(g.Rules))
	for i, n := range g.Nodes {
		if in[i] && n.Op == api.Call {
			called[n.Rule] = true
		}
	}
	return called
}

// count returns how many elements are true.
func count(l []bool) int { return len(indices(l)) }

// indices returns the indices of the elements that are true.
func indices(l []bool) []int {
	var is []int
	for i, ok := range l {
		if ok {
			is = append(is, i)
		}
	}
	return is
}

// matrix returns for each rule and each other one whether it calls it at the left.
func matrix(g api.Grammar) [][]bool {
	facts := flow.Of(g)
	var m [][]bool
	for r := range g.Rules {
		m = append(m, calledFrom(g, facts, r))
	}
	return m
}

// recursiveOf is the model of Recursive: it makes paths of left calls longer by rules, one after another.
func recursiveOf(m [][]bool) []int {
	var paths [][]bool
	for _, calls := range m {
		paths = append(paths, slices.Clone(calls))
	}
	for by := range m {
		for from := range m {
			for to := range m {
				paths[from][to] = paths[from][to] || paths[from][by] && paths[by][to]
			}
		}
	}
	var l []int
	for r := range m {
		if paths[r][r] {
			l = append(l, r)
		}
	}
	return l
}

// cycleFrom returns the first list of n rules in the order of lists that goes on with begin, in which each rule calls the next one, and the last one the first; or nothing.
func cycleFrom(m [][]bool, begin []int, n int) []int {
	last := begin[len(begin)-1]
	if len(begin) == n {
		if m[last][begin[0]] {
			return begin
		}
		return nil
	}
	for next := range m {
		if m[last][next] {
			if l := cycleFrom(m, append(slices.Clone(begin), next), n); l != nil {
				return l
			}
		}
	}
	return nil
}

// cycleOf is the model of Cycle for few rules: it looks for lists of one rule, of two, and so on.
func cycleOf(m [][]bool, r int) []int {
	for n := range len(m) {
		if l := cycleFrom(m, []int{r}, n+1); l != nil {
			return l
		}
	}
	return nil
}

// orderOf is the model of Order: it looks at all rules for each place.
func orderOf(m [][]bool) []int {
	var order []int
	for range m {
		for r, calls := range m {
			late := slices.ContainsFunc(indices(calls), func(c int) bool { return !slices.Contains(order, c) })
			if !late && !slices.Contains(order, r) {
				order = append(order, r)
				break
			}
		}
	}
	if len(order) < len(m) {
		return nil
	}
	return order
}

// firstOrder is a model of Order for very few rules: it looks at all lists of rules in the order of lists, and returns the first one in which each rule comes after those that it calls.
func firstOrder(m [][]bool, begin []int) []int {
	if len(begin) == len(m) {
		return begin
	}
	for r := range m {
		late := slices.ContainsFunc(indices(m[r]), func(c int) bool { return !slices.Contains(begin, c) })
		if !late && !slices.Contains(begin, r) {
			if l := firstOrder(m, append(slices.Clone(begin), r)); l != nil {
				return l
			}
		}
	}
	return nil
}

// explanation is the model of Explain.
func explanation(g api.Grammar, m [][]bool) string {
	text := ""
	if l := recursiveOf(m); len(l) > 0 {
		for _, r := range cycleOf(m, l[0]) {
			text += g.Rules[r].Name + " <- "
		}
		text += g.Rules[l[0]].Name
	}
	return text
}

// check compares what the functions return for a grammar of few rules with the models, and with package wf (P13.5).
func check(t *testing.T, g api.Grammar) {
	t.Helper()
	m := matrix(g)
	for r := range g.Rules {
		if got, want := Calls(g, r), indices(m[r]); !slices.Equal(got, want) {
			t.Errorf("%+v: the rule %d calls %v, and not %v", g, r, got, want)
		}
		if got, want := Cycle(g, r), cycleOf(m, r); !slices.Equal(got, want) {
			t.Errorf("%+v: the cycle of the rule %d is %v, and not %v", g, r, got, want)
		}
	}
	recursive := Recursive(g)
	if want := recursiveOf(m); !slices.Equal(recursive, want) {
		t.Errorf("%+v: left-recursive are %v, and not %v", g, recursive, want)
	}
	order, ok := Order(g)
	if want := orderOf(m); !slices.Equal(order, want) || ok != (len(recursive) == 0) {
		t.Errorf("%+v: the order is %v, %v, and not %v", g, order, ok, want)
	}
	if got, want := Explain(g), explanation(g, m); got != want {
		t.Errorf("%+v: the explanation is %q, and not %q", g, got, want)
	}
	wellFormed := len(recursive) == 0 && len(wf.Loops(g)) == 0
	if err := wf.Check(g); (err == nil) != wellFormed {
		t.Errorf("%+v: left-recursive are %v, the loops are %v, and wf.Check returns %v", g, recursive, wf.Loops(g), err)
	}
}

// P13.1 to P13.5: the examples of the chapter and of the document.
func TestExamples(t *testing.T) {
	g := read(t, "A <- B 'x'\nB <- 'y'? A / C\nC <- 'c'")
	for r, want := range [][]int{{1}, {0, 2}, nil} {
		if got := Calls(g, r); !slices.Equal(got, want) {
			t.Errorf("the rule %d calls %v, and not %v", r, got, want)
		}
	}
	if got := Explain(g); got != "A <- B <- A" || !slices.Equal(Recursive(g), []int{0, 1}) {
		t.Errorf("left-recursive are %v, and the explanation is %q", Recursive(g), got)
	}
	if got := Explain(read(t, "A <- B 'x'\nB <- A")); got != "A <- B <- A" {
		t.Errorf("the explanation is %q", got)
	}
	if got := Explain(read(t, "A <- A 'x' / 'y'")); got != "A <- A" {
		t.Errorf("the explanation is %q", got)
	}
	for _, file := range []string{
		"A <- 'a' A / ''", "A <- 'a' / 'ab'", "A <- 'ab'", "A <- ('a'?)*",
		"S <- &(A 'c') 'a'+ B !.\nA <- 'a' A? 'b'\nB <- 'b' B? 'c'",
	} {
		g := read(t, file)
		if _, ok := Order(g); !ok || Explain(g) != "" || len(Recursive(g)) > 0 {
			t.Errorf("%q: left-recursive are %v, and the explanation is %q", file, Recursive(g), Explain(g))
		}
	}
}

// kinds are rules that take a byte, and one that does not.
const kinds = "\nB <- 'b'\nC <- 'c'\nD <- 'd'\nE <- ''"

// P13.1: what the rule A calls, by hand.
func TestKids(t *testing.T) {
	for want, expressions := range map[string][]string{
		// No calls, or only behind what takes a byte.
		"-": {
			"'x'", "''", "[]", ".", "'x' 'y'", "('x' / 'y')*", "'x' B", "'x' A", "'x' B C", "'x' '' B", "'x'+ B", "('x' 'y')+ B", "('x' / 'y') B", "'x' (B / C)",
			"('x' B)*", "('x' B)+", "('x' B)?", "&('x' B)", "!('x' B)", "'x' B / 'y' C", "('x'? 'y') B", "('x' 'y'?) B", "('' 'x') B", "'x' B*", "'x' !B",
		},
		// The kid of each kind of node, and first kids.
		"B": {
			"B", "B*", "B+", "B?", "&B", "!B", "B / 'x'", "B / ''", "B 'x'", "B ''", "B 'x' 'y'", "((B))", "(B?)*", "!(!B)", "&(!B)?", "(B 'x')*", "(B / 'x')+", "((B 'x') 'y' / 'z')?",
			// Each kid of a choice, also where it is never reached.
			"'x' / B", "'' / B", "'x' / 'y' / B", "'' / '' / B / 'x'", "'x' C / B", "'x'* / B", "B / 'x' C",
			// Kids of a sequence behind those that may take no byte, with and without others behind them.
			"'' B", "'' '' B", "'x'? B", "'x'* B", "'x'? 'y'* '' B", "&'x' B", "!'x' B", "&'' B", "![] B", "('x' / '') B", "('' / 'x') B", "('x'? 'y'*) B", "(!'x')+ B", "('x'*)? B", "'' B 'x'", "'x'? B 'y'",
			"'' ('' ('' B))", "(('' B) 'x')", "'' (B / 'x')", "'' B*", "'x'? !B 'y'", "!('x' C) B", "('x' C)? B", "('x' C / '') B", "('x' C)* B 'y'",
			// Kids behind those that may not.
			"B C", "B 'x' C", "B+ C", "'' B C", "'x'? B C", "B '' C", "B C?", "'' B '' C", "('x' / B) C", "('' B) C", "('x'? B) C", "B (C / D)", "!B 'x' C", "(B / 'x') (C / D)",
			// The same rule several times.
			"B / B", "B B", "B? B", "B 'x' / B 'y'", "B? B? B", "B / B / B / B", "(B / 'x')* B", "!B B", "B* 'x' / &B",
		},
		// What does not succeed without a byte, although it looks like that: it goes on for ever, or always fails.
		"C":    {"C / [] B", "!'' B / C", "&[] B / C", "''* B / C", "''+ B / C", "('x'?)* B / C", "('x'?)+ B / C", "!('x' / '') B / C", "!'x'? B / C", "(''* / '') B / C"},
		"A":    {"A", "A 'x'", "A 'x' / 'y'", "A?", "A*", "!A", "'' A", "'x'? A 'y'", "A A", "A / A", "A B", "'x' / 'y' A / A", "A B / ''", "A? B? C? D", "'' A? B"},
		"AB":   {"A / B", "B / A", "'' / A / B", "B / 'x' / A", "B? A", "A / B 'x'", "&B A", "B* A C", "B 'x' / A 'y'"},
		"BC":   {"B / C", "C / B", "C / B / C", "B? C", "C? B", "!C B", "&C B", "C* B", "(B / '') C", "(C / 'x')? B", "(C / 'x' / B)", "C 'x' / B", "!(B 'x') C", "('x' C)? B / C", "'' (C? B)", "('' C)? B D", "'x'* C* !B 'y' D"},
		"BCD":  {"B / C / D", "D / C / B", "C / D / B", "D? C? B", "D* !C (B / 'x')", "(D / C 'x')? B", "!D &C B", "C / 'x'? D / !B", "B? (C / D)", "(C? D)* B 'x'", "D / B D / C B"},
		"E":    {"E", "E E", "E*", "E+", "E+ B", "E 'x' B", "E* B / E", "!E B"},
		"BE":   {"E B", "E B C", "E E B", "B / E", "E? B", "&E B", "E B E", "E B*", "E (B / 'x')", "(E B) C", "E B / E"},
		"BCE":  {"E B? C", "B? E C", "E (B / C)", "!B E C", "E B* C D", "(B / E) C", "(B / '') E C", "C / E B"},
		"BDE":  {"E D? B", "B / E D", "E B* (D / E)"},
		"ABCD": {"D / C / B / A", "D? C? B? A", "D? (C / !B A)", "B? D? C? A 'x'"},
	} {
		for _, expression := range expressions {
			g := read(t, "A <- "+expression+kinds)
			if got := letters(Calls(g, 0)); got != want {
				t.Errorf("%s: the calls are %s, and not %s", expression, got, want)
			}
			check(t, g)
		}
	}
}

// P13.1: what all rules call, by hand: what is behind a Call is not called at the left, but facts come from other rules.
func TestCalls(t *testing.T) {
	for file, want := range map[string]string{
		"A <- B\nB <- C\nC <- 'c'":                      "B C -",
		"A <- B 'x'\nB <- C\nC <- A":                    "B C A",
		"A <- B*\nB <- '' C D\nC <- D\nD <- 'd'":        "B C D -",
		"A <- C\nB <- A\nC <- B":                        "C A B",
		"A <- B C\nB <- 'b'\nC <- 'c'":                  "B - -",
		"A <- B C\nB <- 'b'?\nC <- 'c'":                 "BC - -",
		"A <- B C\nB <- C\nC <- ''":                     "BC C -",
		"A <- B C\nB <- C\nC <- 'c'":                    "B C -",
		"A <- B C D\nB <- C*\nC <- D\nD <- 'd'":         "BC C D -",
		"A <- B C\nB <- D\nC <- 'c'\nD <- !E\nE <- 'e'": "BC D - E -",
		"A <- B C\nB <- D\nC <- 'c'\nD <- !E\nE <- ''":  "B D - E -",
		// Rules that call themselves: their facts are the least ones.
		"A <- A B / ''\nB <- 'b'":                    "A -",
		"A <- B A / ''\nB <- 'b'":                    "B -",
		"A <- B A / ''\nB <- 'b'?":                   "AB -",
		"A <- B C\nB <- B / ''\nC <- 'c'":            "B B -",
		"A <- B C\nB <- '' / B\nC <- 'c'":            "BC B -",
		"A <- B C\nB <- 'b' B / ''\nC <- 'c'":        "BC - -",
		"A <- B C\nB <- C\nC <- B":                   "B C B",
		"A <- 'a' A / B\nB <- 'b' C?\nC <- A+ / B B": "B - AB",
		// Many rules, of which not all are reached.
		"A <- 'a'\nB <- A A\nC <- D 'x' / !B\nD <- 'd'? E F\nE <- 'e'*\nF <- C*":                              "- A BD EF - C",
		"A <- H / G / F / E / D / C / B\nB <- 'b'\nC <- B? A\nD <- ''\nE <- D C\nF <- 'f' A\nG <- G\nH <- D*": "BCDEFGH - AB - CD - G D",
	} {
		g := read(t, file)
		if got := callLists(g); got != want {
			t.Errorf("%q: the left calls are %s, and not %s", file, got, want)
		}
		check(t, g)
	}
}

// P13.1 to P13.4: what is left-recursive, the cycles of all rules, the order (or a hyphen) and the explanation, by hand.
func TestByHand(t *testing.T) {
	for calls, want := range map[string]struct{ recursive, cycles, order, explanation string }{
		// No left recursion.
		"-":          {"-", "-", "A", ""},
		"- - - -":    {"-", "- - - -", "ABCD", ""},
		"B -":        {"-", "- -", "BA", ""},
		"- A":        {"-", "- -", "AB", ""},
		"B C -":      {"-", "- - -", "CBA", ""},
		"- A B":      {"-", "- - -", "ABC", ""},
		"C - B":      {"-", "- - -", "BCA", ""},
		"BC C -":     {"-", "- - -", "CBA", ""},
		"BC D D -":   {"-", "- - - -", "DBCA", ""},
		"BCD CD D -": {"-", "- - - -", "DCBA", ""},
		"- A AB ABC": {"-", "- - - -", "ABCD", ""},
		// The least rule that can be next is taken, not the one that could be so first or last.
		"B - -":              {"-", "- - -", "BAC", ""},
		"D - - B":            {"-", "- - - -", "BCDA", ""},
		"- D - -":            {"-", "- - - -", "ACDB", ""},
		"- C - B":            {"-", "- - - -", "ACBD", ""},
		"E - A - -":          {"-", "- - - - -", "BDEAC", ""},
		"F F - - F -":        {"-", "- - - - - -", "CDFABE", ""},
		"- - - C B A":        {"-", "- - - - - -", "ABCDEF", ""},
		"D C - -":            {"-", "- - - -", "CBDA", ""},
		"C E - C - -":        {"-", "- - - - - -", "CADEBF", ""},
		"CE - - A B":         {"-", "- - - - -", "BCEAD", ""},
		"BCDEFG - - - - - -": {"-", "- - - - - - -", "BCDEFGA", ""},
		"G G G G G G -":      {"-", "- - - - - - -", "GABCDEF", ""},
		// One rule that calls itself.
		"A":        {"A", "A", "-", "A <- A"},
		"A -":      {"A", "A -", "-", "A <- A"},
		"- B":      {"B", "- B", "-", "B <- B"},
		"B B":      {"B", "- B", "-", "B <- B"},
		"AB -":     {"A", "A -", "-", "A <- A"},
		"- BC A -": {"B", "- B - -", "-", "B <- B"},
		"A B C":    {"ABC", "A B C", "-", "A <- A"},
		// One cycle.
		"B A":         {"AB", "AB BA", "-", "A <- B <- A"},
		"C - A":       {"AC", "AC - CA", "-", "A <- C <- A"},
		"B C A":       {"ABC", "ABC BCA CAB", "-", "A <- B <- C <- A"},
		"C A B":       {"ABC", "ACB BAC CBA", "-", "A <- C <- B <- A"},
		"B C D A":     {"ABCD", "ABCD BCDA CDAB DABC", "-", "A <- B <- C <- D <- A"},
		"D A B C":     {"ABCD", "ADCB BADC CBAD DCBA", "-", "A <- D <- C <- B <- A"},
		"- D B C -":   {"BCD", "- BDC CBD DCB -", "-", "B <- D <- C <- B"},
		"C D E B A":   {"ABCDE", "ACE BD CEA DB EAC", "-", "A <- C <- E <- A"},
		"F A B C D E": {"ABCDEF", "AFEDCB BAFEDC CBAFED DCBAFE EDCBAF FEDCBA", "-", "A <- F <- E <- D <- C <- B <- A"},
		// Two cycles apart: also where one calls the other.
		"B A D C":     {"ABCD", "AB BA CD DC", "-", "A <- B <- A"},
		"- C B E D":   {"BCDE", "- BC CB DE ED", "-", "B <- C <- B"},
		"C D A B":     {"ABCD", "AC BD CA DB", "-", "A <- C <- A"},
		"B AC D C":    {"ABCD", "AB BA CD DC", "-", "A <- B <- A"},
		"BD A C CE -": {"ABC", "AB BA C - -", "-", "A <- B <- A"},
		// Two with a common rule.
		"B AC B":     {"ABC", "AB BA CB", "-", "A <- B <- A"},
		"B AC A":     {"ABC", "AB BA CAB", "-", "A <- B <- A"},
		"BC A A":     {"ABC", "AB BA CA", "-", "A <- B <- A"},
		"BD C A A":   {"ABCD", "AD BCA CAB DA", "-", "A <- D <- A"},
		"CD - A E A": {"ACDE", "AC - CA DEA EAD", "-", "A <- C <- A"},
		// Rules that call left-recursive ones, or are called by them, without being so.
		"- AC D C":     {"CD", "- - CD DC", "-", "C <- D <- C"},
		"B C B":        {"BC", "- BC CB", "-", "B <- C <- B"},
		"B C C":        {"C", "- - C", "-", "C <- C"},
		"BC - A":       {"AC", "AC - CA", "-", "A <- C <- A"},
		"D A AE BC -":  {"ABCD", "ADB BAD CAD DBA -", "-", "A <- D <- B <- A"},
		"D E AE C F -": {"ACD", "ADC - CAD DCA - -", "-", "A <- D <- C <- A"},
		// As few rules as possible, where a longer cycle exists too.
		"AB A":              {"AB", "A BA", "-", "A <- A"},
		"B AB":              {"AB", "AB B", "-", "A <- B <- A"},
		"BC C A":            {"ABC", "AC BCA CA", "-", "A <- C <- A"},
		"BE C D A F A":      {"ABCDEF", "AEF BCDA CDAB DABC EFA FAE", "-", "A <- E <- F <- A"},
		"B CD DE A A":       {"ABCDE", "ABD BDA CDAB DAB EABC", "-", "A <- B <- D <- A"},
		"BCD ABCD ABCD ABC": {"ABCD", "AB B C DA", "-", "A <- B <- A"},
		// The least of several lists.
		"BC D D A":        {"ABCD", "ABD BDA CDA DAB", "-", "A <- B <- D <- A"},
		"B CD A A":        {"ABCD", "ABC BCA CAB DAB", "-", "A <- B <- C <- A"},
		"BC E D A A":      {"ABCDE", "ABE BEA CDA DAC EAB", "-", "A <- B <- E <- A"},
		"BCD ACD ABD ABC": {"ABCD", "AB BA CA DA", "-", "A <- B <- A"},
		"CD - E E AB":     {"ACDE", "ACE - CEA DEA EAC", "-", "A <- C <- E <- A"},
		"BC DE D F F A":   {"ABCDEF", "ABDF BDFA CDFA DFAB EFAB FABD", "-", "A <- B <- D <- F <- A"},
		"BC F DE G G D A": {"ABCDEFG", "ACDG BFDGA CDGA DGAC EGAC FDGAB GACD", "-", "A <- C <- D <- G <- A"},
	} {
		g := calling(t, calls)
		if got := letters(Recursive(g)); got != want.recursive {
			t.Errorf("%s: left-recursive are %s, and not %s", calls, got, want.recursive)
		}
		if got := cycleLists(g); got != want.cycles {
			t.Errorf("%s: the cycles are %s, and not %s", calls, got, want.cycles)
		}
		order, ok := Order(g)
		if got := letters(order); got != want.order || ok != (want.order != "-") {
			t.Errorf("%s: the order is %s, %v, and not %s", calls, got, ok, want.order)
		}
		if got := Explain(g); got != want.explanation {
			t.Errorf("%s: the explanation is %q, and not %q", calls, got, want.explanation)
		}
		check(t, g)
	}
}

// P13.4: names of more letters, in the order of the cycle, and not of the names; and what is not the first cycle is not told.
func TestExplain(t *testing.T) {
	for file, want := range map[string]string{
		"zero <- zero":                          "zero <- zero",
		"zero <- One\nOne <- zero / 'x'":        "zero <- One <- zero",
		"x_1 <- 'x'? b*\nb <- !_ 'b'\n_ <- x_1": "x_1 <- b <- _ <- x_1",
		"Start <- Expr !.\nExpr <- Expr '+' Term / Term\nTerm <- 'x' / '(' Expr ')'":            "Expr <- Expr",
		"Start <- Expr !.\nExpr <- Sum / 'x'\nSum <- Space Expr '+' Expr\nSpace <- ' '*":        "Expr <- Sum <- Expr",
		"Start <- Last First\nFirst <- 'x' First\nLast <- Then\nThen <- Last? Then\nEnd <- End": "Last <- Then <- Last",
		"Start <- Expr !.\nExpr <- Term ('+' Term)*\nTerm <- 'x' / '(' Expr ')'":                "",
		"Start <- 'x' Start": "", "Loop <- (Other*)*\nOther <- ''": "",
	} {
		g := read(t, file)
		if got := Explain(g); got != want {
			t.Errorf("%q: the explanation is %q, and not %q", file, got, want)
		}
		check(t, g)
	}
}

// P13.5: grammars that are not well-formed by left recursion, by a loop, by both, and by neither.
func TestWellFormed(t *testing.T) {
	for file, want := range map[string]struct{ recursive, loops int }{
		"A <- 'a' A / ''": {0, 0}, "A <- A": {1, 0}, "A <- ''*": {0, 1}, "A <- A*": {1, 0}, "A <- ''* A": {0, 1}, "A <- A ''*": {1, 1}, "A <- ''* / A": {1, 1},
		"A <- B* C\nB <- 'b'?\nC <- 'c' C": {0, 1}, "A <- B* C\nB <- 'b'\nC <- C": {1, 0}, "A <- (B 'x')*\nB <- A / ''": {2, 0}, "A <- 'a'\nB <- (A*)+\nC <- B": {0, 1}, "A <- 'a'\nB <- ((!A)+)+ C\nC <- 'c'\nD <- D": {1, 2},
	} {
		g := read(t, file)
		if recursive, loops := len(Recursive(g)), len(wf.Loops(g)); recursive != want.recursive || loops != want.loops {
			t.Errorf("%q: %d rules are left-recursive, and there are %d loops", file, recursive, loops)
		}
		if err := wf.Check(g); (err != nil) != (want.recursive+want.loops > 0) {
			t.Errorf("%q: wf.Check returns %v", file, err)
		}
		check(t, g)
	}
}

// words calls do with all words of n letters that consist of so many expressions, behind what they begin with.
func words(letters string, expressions, n int, begin string, do func(word string)) {
	if n == 0 && expressions == 0 {
		do(begin)
	}
	// Each expression has at least one letter.
	if n < expressions || expressions == 0 {
		return
	}
	for i := range len(letters) {
		words(letters, expressions-1+item(letters[i]).Kids, n-1, begin+letters[i:i+1], do)
	}
}

// small calls do with all grammars of few nodes, and returns how many there are.
func small(t *testing.T, do func(g api.Grammar)) int {
	t.Helper()
	number := 0
	for _, c := range []struct {
		letters     string
		rules, most int
	}{
		{"ebf0*+?&!stxy", 1, 5},
		{"ebf01*+?&!stxy", 2, 4},
		{"eb012*+?!sx", 3, 4},
	} {
		for n := range c.most + 1 {
			words(c.letters, c.rules, n, "", func(word string) {
				number++
				if !t.Failed() {
					do(grammar(t, word))
				}
			})
		}
	}
	return number
}

// P13.1 to P13.5: all grammars of few nodes.
func TestSmall(t *testing.T) {
	// 11636 of one rule, 2650 of two, and 1625 of three.
	if number := small(t, func(g api.Grammar) { check(t, g) }); number != 15911 {
		t.Errorf("%d grammars", number)
	}
}

// callGrammar returns a grammar whose rules call at the left those of which the bits are set, one row of bits a rule.
func callGrammar(t *testing.T, rules, bits int) api.Grammar {
	t.Helper()
	word := ""
	for r := range rules {
		called := ""
		for c := range rules {
			if bits>>(r*rules+c)&1 == 1 {
				called += string(rune('0' + c))
			}
		}
		word += [...]string{"b", "", "x", "y", "z"}[len(called)] + called
	}
	return grammar(t, word)
}

// P13.1 to P13.5: all graphs of left calls of up to three rules, and many of four. The order is the first one of all that are possible.
func TestGraphs(t *testing.T) {
	for _, c := range []struct{ rules, step int }{{1, 1}, {2, 1}, {3, 1}, {4, 7}} {
		orders := 0
		for bits := 0; bits < 1<<(c.rules*c.rules); bits += c.step {
			g := callGrammar(t, c.rules, bits)
			check(t, g)
			order, ok := Order(g)
			if want := firstOrder(matrix(g), nil); !slices.Equal(order, want) {
				t.Errorf("%+v: the order is %v, and not %v", g, order, want)
			}
			if ok {
				orders++
			}
			if t.Failed() {
				return
			}
		}
		// The numbers of graphs without cycles.
		if want := []int{1, 3, 25}; c.step == 1 && orders != want[c.rules-1] {
			t.Errorf("%d grammars of %d rules have an order", orders, c.rules)
		}
	}
}

// randomWord returns an expression at random of at most some depth, for a grammar of some number of rules.
func randomWord(r *rand.Rand, rules, depth int) string {
	letters := "eebbbbbf"
	if r.IntN(2) == 0 {
		letters = "0123456"[:rules]
	}
	if depth > 1 && r.IntN(6) > 0 {
		letters = "*+?&!sstuxyz"
	}
	k := r.IntN(len(letters))
	word := letters[k : k+1]
	for range item(word[0]).Kids {
		word += randomWord(r, rules, depth-1)
	}
	return word
}

// randomGrammar returns a grammar at random.
func randomGrammar(t *testing.T, r *rand.Rand) api.Grammar {
	t.Helper()
	rules := 1 + r.IntN(7)
	word := ""
	for range rules {
		word += randomWord(r, rules, 1+r.IntN(4))
	}
	return grammar(t, word)
}

// P13.1 to P13.5: grammars at random, of which many have left-recursive rules and others, longer cycles, and orders other than that of the rules.
func TestRandom(t *testing.T) {
	r := rand.New(rand.NewPCG(13, 1))
	var seen [6]int // how many grammars there are with left-recursive rules and others; whose first left-recursive rule is not the first one; with a cycle of two, and of more rules; with an order that is not ascending; and with left calls of three and more rules
	for range 6000 {
		g := randomGrammar(t, r)
		check(t, g)
		if t.Failed() {
			return
		}
		recursive := Recursive(g)
		order, ok := Order(g)
		most, long := 0, 0
		for rule := range g.Rules {
			most = max(most, len(Calls(g, rule)))
			long = max(long, len(Cycle(g, rule)))
		}
		for k, is := range []bool{
			len(recursive) > 0 && len(recursive) < len(g.Rules),
			len(recursive) > 0 && recursive[0] > 0,
			long == 2,
			long > 2,
			ok && !slices.IsSorted(order),
			most > 2,
		} {
			if is {
				seen[k]++
			}
		}
	}
	if slices.Min(seen[:]) < 100 {
		t.Errorf("there are only %v grammars of each kind", seen)
	}
}

// P13.1 to P13.5: graphs of left calls of seven rules at random, from those with few left calls to those with many.
func TestRandomGraphs(t *testing.T) {
	r := rand.New(rand.NewPCG(13, 2))
	for n := range 4000 {
		var l []string
		for range 7 {
			called := ""
			for c := range 7 {
				if r.IntN(40) < 1+n%16 {
					called += string(rune('A' + c))
				}
			}
			l = append(l, called)
			if called == "" {
				l[len(l)-1] = "-"
			}
		}
		check(t, calling(t, strings.Join(l, " ")))
		if t.Failed() {
			return
		}
	}
}

// linked returns a grammar of many rules, each of which is a choice of Calls of rules, or a class that takes a byte.
func linked(t *testing.T, rules int, called func(r int) []int) api.Grammar {
	t.Helper()
	var l []build.Item
	for r := range rules {
		calls := called(r)
		if len(calls) == 0 {
			l = append(l, item('b'))
		}
		if len(calls) > 1 {
			l = append(l, build.Item{Op: api.Choice, Kids: len(calls)})
		}
		for _, c := range calls {
			l = append(l, build.Item{Op: api.Call, Rule: c})
		}
	}
	return built(t, l)
}

// upTo returns the numbers from a first one to before a last one.
func upTo(first, last int) []int {
	var l []int
	for n := first; n < last; n++ {
		l = append(l, n)
	}
	return l
}

// backwards returns a list from its end to its beginning.
func backwards(l []int) []int {
	l = slices.Clone(l)
	slices.Reverse(l)
	return l
}

// P13.1 to P13.5: as many rules as there may be: chains and circles of them.
func TestManyRules(t *testing.T) {
	const most = api.MaxRules
	all := upTo(0, most)
	for _, c := range []struct {
		name      string
		called    func(r int) []int
		recursive []int
		cycle     func(r int) []int
		order     []int
	}{
		{"to the end", func(r int) []int { return upTo(r+1, min(r+2, most)) }, nil, nil, backwards(all)},
		{"to the start", func(r int) []int { return upTo(max(r-1, 0), r) }, nil, nil, all},
		{"in a circle", func(r int) []int { return []int{(r + 1) % most} }, all, func(r int) []int { return append(upTo(r, most), upTo(0, r)...) }, nil},
		{"backwards in a circle", func(r int) []int { return []int{(r + most - 1) % most} }, all, func(r int) []int { return backwards(append(upTo(r+1, most), upTo(0, r+1)...)) }, nil},
		{"to itself at the end", func(r int) []int { return []int{min(r+1, most-1)} }, []int{most - 1}, func(r int) []int { return []int{r} }, nil},
		{"to itself", func(r int) []int { return []int{r} }, all, func(r int) []int { return []int{r} }, nil},
		{"by pairs", func(r int) []int { return []int{r ^ 1} }, all, func(r int) []int { return []int{r, r ^ 1} }, nil},
		{"to none", func(r int) []int { return nil }, nil, nil, all},
	} {
		g := linked(t, most, c.called)
		for _, r := range []int{0, 1, 2, most / 2, most - 2, most - 1} {
			if got := Calls(g, r); !slices.Equal(got, c.called(r)) {
				t.Errorf("%s: the rule %d calls %v", c.name, r, got)
			}
			got := Cycle(g, r)
			if is := slices.Contains(c.recursive, r); is && !slices.Equal(got, c.cycle(r)) || !is && len(got) > 0 {
				t.Errorf("%s: the cycle of the rule %d is %v", c.name, r, got)
			}
		}
		if got := Recursive(g); !slices.Equal(got, c.recursive) {
			t.Errorf("%s: left-recursive are %v", c.name, got)
		}
		if got, ok := Order(g); !slices.Equal(got, c.order) || ok != (len(c.recursive) == 0) || ok != (wf.Check(g) == nil) {
			t.Errorf("%s: the order is %v, %v", c.name, got, ok)
		}
		want := ""
		if len(c.recursive) > 0 {
			for _, r := range c.cycle(c.recursive[0]) {
				want += g.Rules[r].Name + " <- "
			}
			want += g.Rules[c.recursive[0]].Name
		}
		if got := Explain(g); got != want {
			t.Errorf("%s: the explanation is %q, and not %q", c.name, got, want)
		}
	}
}

// P13.1 to P13.5: very many paths of left calls, of which each rule of a level calls all of the next level.
func TestManyPaths(t *testing.T) {
	const levels, rules = 200, 3
	for _, round := range []bool{false, true} {
		g := linked(t, levels*rules, func(r int) []int {
			next := (r/rules + 1) * rules
			if next < levels*rules {
				return []int{next + 2, next, next + 1}
			}
			if round {
				return []int{2, 1}
			}
			return nil
		})
		var recursive, order, cycle []int
		for level := range levels {
			if round {
				recursive = append(recursive, upTo(level*rules, level*rules+rules)...)
				cycle = append(cycle, level*rules)
				continue
			}
			first := (levels - 1 - level) * rules
			order = append(order, first, first+1, first+2)
		}
		if round {
			// No rule calls the first one.
			recursive, cycle[0] = recursive[1:], 1
		}
		if got := Recursive(g); !slices.Equal(got, recursive) {
			t.Errorf("left-recursive are %v, and not %v", got, recursive)
		}
		if got := Cycle(g, 1); !slices.Equal(got, cycle) || len(Cycle(g, 0)) > 0 {
			t.Errorf("the cycles are %v and %v, and not %v and nothing", got, Cycle(g, 0), cycle)
		}
		if got, ok := Order(g); !slices.Equal(got, order) || ok == round {
			t.Errorf("the order is %v, %v, and not %v", got, ok, order)
		}
		if got := Explain(g); strings.Count(got, " <- ") != len(cycle) || round && !strings.HasPrefix(got, "r1 <- r3 <- r6 <- ") {
			t.Errorf("the explanation is %q", got)
		}
	}
}

// P13.1 to P13.5: as many kids as there may be, and as many left calls.
func TestManyKids(t *testing.T) {
	for _, c := range []struct {
		op   int
		kids string
		want []int
	}{
		{api.Choice, strings.Repeat("1", 9000) + "0", []int{0, 1}},
		{api.Choice, strings.Repeat("b", 9000) + "1", []int{1}},
		{api.Seq, strings.Repeat("e", 9000) + "1", []int{1}},
		{api.Seq, strings.Repeat("e", 9000) + "b1", nil},
		{api.Seq, strings.Repeat("2", 9000) + "1b0", []int{1, 2}},
		{api.Seq, strings.Repeat("1", 9000) + "0", []int{1}},
	} {
		g := built(t, append([]build.Item{{Op: c.op, Kids: len(c.kids)}}, items(c.kids+"be")...))
		if got := Calls(g, 0); !slices.Equal(got, c.want) {
			t.Errorf("%+.20v: the calls are %v", c, got)
		}
		check(t, g)
	}
	// All rules call all others.
	const rules = 98
	g := linked(t, rules, func(r int) []int {
		return slices.DeleteFunc(backwards(upTo(0, rules)), func(c int) bool { return c == r })
	})
	for r := range rules {
		if got, want := Calls(g, r), append(upTo(0, r), upTo(r+1, rules)...); !slices.Equal(got, want) {
			t.Errorf("the rule %d calls %v", r, got)
		}
		if got, want := Cycle(g, r), []int{r, 0}; r > 0 && !slices.Equal(got, want) {
			t.Errorf("the cycle of the rule %d is %v", r, got)
		}
	}
	if got := Recursive(g); !slices.Equal(got, upTo(0, rules)) || Explain(g) != "r0 <- r1 <- r0" {
		t.Errorf("left-recursive are %v, and the explanation is %q", got, Explain(g))
	}
}

// P13.1 to P13.5: as many levels as there may be.
func TestManyLevels(t *testing.T) {
	const ups = api.MaxDepth - 1
	for _, c := range []struct {
		up, leaf, down string
		want           []int
	}{
		{"?", "0", "", []int{0}}, {"&", "1", "", []int{1}}, {"!", "0", "", []int{0}}, {"*", "1", "", []int{1}}, {"+", "1", "", []int{1}}, {"?", "b", "", nil},
		{"s", "1", "0", []int{1}}, {"s", "b", "0", nil}, {"s", "e", "1", []int{1}}, {"s", "2", "1", []int{1, 2}}, {"s", "e", "2", []int{2}},
		{"se", "1", "", []int{1}}, {"sb", "0", "", nil}, {"s2", "1", "", []int{1, 2}}, {"s1", "0", "", []int{1}}, {"x2", "0", "", []int{0, 2}}, {"x", "b", "1", []int{1}}, {"x", "0", "1", []int{0, 1}},
	} {
		g := grammar(t, strings.Repeat(c.up, ups)+c.leaf+strings.Repeat(c.down, ups)+"be")
		if got := Calls(g, 0); !slices.Equal(got, c.want) {
			t.Errorf("%+v: the calls are %v", c, got)
		}
		check(t, g)
	}
}

// spare returns a copy of a list with one more element in its unused capacity.
func spare[T any](l []T, more T) []T { return append(slices.Clone(l), more)[:len(l)] }

// spareGrammar returns a copy of a grammar whose lists have unused capacity.
func spareGrammar(g api.Grammar) api.Grammar {
	s := api.Grammar{Rules: spare(g.Rules, api.Rule{Name: "more", Root: 7}), Nodes: spare(g.Nodes, api.Node{Op: api.Star, Kids: []int{0}})}
	for i, n := range s.Nodes {
		s.Nodes[i].Kids = spare(n.Kids, 7)
	}
	return s
}

// whole returns a copy of a grammar with its unused capacity.
func whole(g api.Grammar) api.Grammar {
	w := gram.Clone(api.Grammar{Rules: g.Rules[:cap(g.Rules)], Nodes: g.Nodes[:cap(g.Nodes)]})
	for i, n := range g.Nodes {
		w.Nodes[i].Kids = slices.Clone(n.Kids[:cap(n.Kids)])
	}
	return w
}

// results returns all that the functions return for a grammar, as a text.
func results(g api.Grammar) string {
	order, ok := Order(g)
	text := fmt.Sprint(Recursive(g), order, ok, Explain(g))
	for r := range g.Rules {
		text += fmt.Sprint(" ", Calls(g, r), Cycle(g, r))
	}
	return text
}

// Rules 3, 4, 5 and 7: arguments and their unused capacity stay and are not read, a second call returns the same, and nil and empty lists are equivalent.
func TestArgumentsStay(t *testing.T) {
	r := rand.New(rand.NewPCG(13, 3))
	for range 600 {
		g := randomGrammar(t, r)
		want := results(g)
		s := spareGrammar(g)
		for i, n := range s.Nodes {
			if len(n.Kids) == 0 && r.IntN(2) == 0 {
				s.Nodes[i].Kids = []int{}
			}
		}
		before := whole(s)
		for range 2 {
			if got := results(s); got != want {
				t.Fatalf("%+v: the results are %s, and not %s", g, got, want)
			}
		}
		if !gram.Same(whole(s), before) {
			t.Fatalf("%+v: an argument has changed", g)
		}
		if order, ok := Order(s); !ok && order != nil {
			t.Fatalf("%+v: the order is %v together with false", g, order)
		}
	}
}

// Rule 5: results are new memory: neither arguments nor later results change with them.
func TestResultsAreNew(t *testing.T) {
	r := rand.New(rand.NewPCG(13, 4))
	for range 600 {
		g := spareGrammar(randomGrammar(t, r))
		before, want := whole(g), results(g)
		order, _ := Order(g)
		lists := [][]int{Recursive(g), order}
		for rule := range g.Rules {
			lists = append(lists, Calls(g, rule), Cycle(g, rule))
		}
		for _, l := range lists {
			for k := range l[:cap(l)] {
				l[:cap(l)][k] = -9
			}
		}
		if !gram.Same(whole(g), before) || results(g) != want {
			t.Fatalf("%+v: an argument or a result has changed with a result", g)
		}
	}
	g := read(t, "name <- name")
	if text := Explain(g); unsafe.StringData(text) == unsafe.StringData(g.Rules[0].Name) {
		t.Errorf("the text %q is that of the argument", text)
	}
}

// damage changes a grammar in one place at random.
func damage(r *rand.Rand, g *api.Grammar) {
	wrong := []int{math.MinInt, -1, 0, 1, 2, len(g.Rules), len(g.Nodes) - 1, len(g.Nodes), len(g.Nodes) + 1, api.MaxNodes, math.MaxInt}
	x := wrong[r.IntN(len(wrong))]
	if len(g.Nodes) == 0 || len(g.Rules) == 0 {
		return
	}
	n := &g.Nodes[r.IntN(len(g.Nodes))]
	switch r.IntN(8) {
	case 0:
		n.Op = r.IntN(12) - 1
	case 1:
		n.Op, n.Rule = api.Call, x
	case 2:
		n.Kids = nil
	case 3:
		n.Kids = append(n.Kids, x)
	case 4:
		n.Kids = []int{x, r.IntN(len(g.Nodes)), x}
	case 5:
		g.Rules[r.IntN(len(g.Rules))].Root = x
	case 6:
		g.Rules = g.Rules[:len(g.Rules)-1]
	case 7:
		g.Nodes = g.Nodes[:len(g.Nodes)-1]
	}
}

// P1: all functions end and do not panic where they are not specified: grammars that are not valid, and indices of no rules.
func TestUnspecified(t *testing.T) {
	r := rand.New(rand.NewPCG(13, 5))
	grammars := []api.Grammar{{}, {Rules: make([]api.Rule, 3)}, {Nodes: make([]api.Node, 3)}}
	// Nodes that are their own kids, and kids that are shared so often that there are very many paths.
	loop := api.Grammar{Rules: []api.Rule{{Name: "A", Root: 299}}, Nodes: make([]api.Node, 300)}
	for i := range loop.Nodes {
		loop.Nodes[i] = api.Node{Op: api.Choice, Kids: []int{i, max(i-1, 0), max(i-2, 0), (i + 1) % 300}}
	}
	grammars = append(grammars, loop)
	for range 6000 {
		g := gram.Clone(randomGrammar(t, r))
		for range 1 + r.IntN(3) {
			damage(r, &g)
		}
		grammars = append(grammars, g)
	}
	for _, g := range grammars {
		results(g)
		for _, r := range []int{math.MinInt, -1, len(g.Rules), len(g.Rules) + 1, math.MaxInt} {
			if len(Calls(g, r)) > 0 || len(Cycle(g, r)) > 0 {
				t.Errorf("%+v: the rule %d, which there is not, calls %v, and its cycle is %v", g, r, Calls(g, r), Cycle(g, r))
			}
		}
	}
}
