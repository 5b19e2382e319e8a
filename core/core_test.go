package core

import (
	"errors"
	"fmt"
	"math"
	"math/rand/v2"
	"slices"
	"strconv"
	"strings"
	"testing"

	"vetch/api"
	"vetch/fault"
)

// Core grammars by hand are words, one for each rule: e is Empty, f the Class of no byte, a that of the letter a, and b that of all bytes; and c, n, s and x are Call, Not, Seq and Choice, with A, or with A, a comma and B.

// letterA is the set of the letter a, and all is that of all bytes.
var (
	letterA = api.Set{1: 1 << ('a' - 64)}
	all     = api.Set{math.MaxUint64, math.MaxUint64, math.MaxUint64, math.MaxUint64}
)

// rule returns the rule of a word.
func rule(word string) api.CoreRule {
	switch word[0] {
	case 'e':
		return api.CoreRule{Op: api.Empty}
	case 'f':
		return api.CoreRule{Op: api.Class}
	case 'a':
		return api.CoreRule{Op: api.Class, Set: letterA}
	case 'b':
		return api.CoreRule{Op: api.Class, Set: all}
	}
	a, b, _ := strings.Cut(word[1:], ",")
	x := api.CoreRule{Op: map[byte]int{'c': api.Call, 'n': api.Not, 's': api.Seq, 'x': api.Choice}[word[0]]}
	x.A, _ = strconv.Atoi(a)
	x.B, _ = strconv.Atoi(b)
	return x
}

// core returns the core grammar of some words, whose start is the rule 0.
func core(words string) api.Core {
	var c api.Core
	for _, word := range strings.Fields(words) {
		c.Rules = append(c.Rules, rule(word))
	}
	return c
}

// factsOf reads facts that are written as the letters n, e and f, or as a hyphen.
func factsOf(s string) Facts {
	return Facts{Null: strings.Contains(s, "n"), Eat: strings.Contains(s, "e"), Fail: strings.Contains(s, "f")}
}

// listOf reads the facts of several rules.
func listOf(s string) []Facts {
	var l []Facts
	for _, word := range strings.Fields(s) {
		l = append(l, factsOf(word))
	}
	return l
}

// text writes facts as factsOf reads them.
func text(f Facts) string {
	s := ""
	for k, is := range []bool{f.Null, f.Eat, f.Fail} {
		if is {
			s += "nef"[k : k+1]
		}
	}
	if s == "" {
		return "-"
	}
	return s
}

// texts writes the facts of several rules.
func texts(l []Facts) string {
	var words []string
	for _, f := range l {
		words = append(words, text(f))
	}
	return strings.Join(words, " ")
}

// The models.

// takes returns how many rules a rule with an Op is made of, or -1 for operators that are none.
func takes(op int) int {
	at := strings.IndexByte("EKCTXN", "EKCTX????N"[min(max(op, 0), 9)])
	if op < 0 || op > 9 || at < 0 {
		return -1
	}
	return []int{0, 0, 1, 2, 2, 1}[at]
}

// wrong is the model of Check: it returns the first rule that is wrong, or -1 if there is none, and whether there are a rule and a start.
func wrong(c api.Core) (first int, start bool) {
	if len(c.Rules) == 0 || c.Start < 0 || c.Start > len(c.Rules)-1 {
		return -1, false
	}
	for i, r := range c.Rules {
		bad := takes(r.Op) < 0
		for k, operand := range [2]int{r.A, r.B} {
			if k < takes(r.Op) {
				bad = bad || operand < 0 || operand > len(c.Rules)-1
			} else {
				bad = bad || operand != 0
			}
		}
		for _, w := range r.Set {
			bad = bad || w != 0 && r.Op != 1
		}
		if bad {
			return i, true
		}
	}
	return -1, true
}

// outcomes returns what a rule may do, as letters, if its rules may do what a and b say: each way of A is combined with each way of B.
func outcomes(r api.CoreRule, a, b string) string {
	s := ""
	switch r.Op {
	case api.Empty:
		return "n"
	case api.Class:
		for _, w := range r.Set {
			if w != 0 {
				return "ef"
			}
		}
		return "f"
	case api.Call:
		return a
	case api.Seq:
		for _, first := range a {
			if first == 'f' {
				s += "f"
				continue
			}
			for _, second := range b {
				if second == 'n' {
					second = first
				}
				s += string(second)
			}
		}
	case api.Choice:
		s = strings.ReplaceAll(a, "f", b)
	case api.Not:
		for _, way := range a {
			s += string(map[rune]rune{'n': 'f', 'e': 'f', 'f': 'n'}[way])
		}
	}
	return s
}

// inRounds is the model of Of: what rules may do is added, round by round, from nothing on until there is nothing to add.
func inRounds(c api.Core) []Facts {
	ways := make([]string, len(c.Rules))
	for more := true; more; {
		more = false
		for i, r := range c.Rules {
			a, b := "", ""
			if takes(r.Op) > 0 {
				a = ways[r.A]
			}
			if takes(r.Op) > 1 {
				b = ways[r.B]
			}
			for _, way := range outcomes(r, a, b) {
				if !strings.ContainsRune(ways[i], way) {
					ways[i] += string(way)
					more = true
				}
			}
		}
	}
	var l []Facts
	for _, s := range ways {
		l = append(l, factsOf(s))
	}
	return l
}

// holds reports whether the table holds for the facts of a rule, row by row as the chapter has them.
func holds(c api.Core, l []Facts, i int) bool {
	r := c.Rules[i]
	a, b := l[r.A], l[r.B]
	mayA, mayB := a.Null || a.Eat, b.Null || b.Eat
	var null, eat, fail bool
	switch r.Op {
	case 0:
		null = true
	case 1:
		eat, fail = r.Set[0]|r.Set[1]|r.Set[2]|r.Set[3] > 0, true
	case 2:
		null, eat, fail = a.Null, a.Eat, a.Fail
	case 3:
		null = a.Null && b.Null
		eat = mayA && mayB && (a.Eat || b.Eat)
		fail = a.Fail || (mayA && b.Fail)
	case 4:
		null = a.Null || (a.Fail && b.Null)
		eat = a.Eat || (a.Fail && b.Eat)
		fail = a.Fail && b.Fail
	case 9:
		null, fail = a.Fail, mayA
	}
	return l[i].Null == null && l[i].Eat == eat && l[i].Fail == fail
}

// common returns the facts that are common to all facts for which the table holds, for core grammars of very few rules.
func common(c api.Core) []Facts {
	n := len(c.Rules)
	l := make([]Facts, n)
	both := make([]Facts, n)
	for i := range both {
		both[i] = Facts{true, true, true}
	}
	for bits := range 1 << (3 * n) {
		for i := range l {
			l[i] = Facts{bits>>(3*i)&1 == 1, bits>>(3*i+1)&1 == 1, bits>>(3*i+2)&1 == 1}
		}
		all := true
		for i := 0; i < n && all; i++ {
			all = holds(c, l, i)
		}
		for i := 0; i < n && all; i++ {
			both[i] = Facts{both[i].Null && l[i].Null, both[i].Eat && l[i].Eat, both[i].Fail && l[i].Fail}
		}
	}
	return both
}

// needed is the model of Needs: it asks for each rule whether it is needed.
func needed(c api.Core, l []Facts, r int) []bool {
	x := c.Rules[r]
	is := make([]bool, len(c.Rules))
	for i := range is {
		one := i == x.A && slices.Contains([]int{api.Call, api.Seq, api.Choice, api.Not}, x.Op)
		other := i == x.B && (x.Op == api.Choice || x.Op == api.Seq && l[x.A].Null)
		is[i] = one || other
	}
	return is
}

// closed is the model of Safe: it makes paths longer by rules, one after another.
func closed(c api.Core, l []Facts) bool {
	var paths [][]bool
	for r := range c.Rules {
		paths = append(paths, needed(c, l, r))
	}
	for by := range paths {
		for from := range paths {
			if paths[from][by] {
				for to := range paths {
					paths[from][to] = paths[from][to] || paths[by][to]
				}
			}
		}
	}
	for r := range paths {
		if paths[r][r] {
			return false
		}
	}
	return true
}

// written is the model of Text.
func written(c api.Core) string {
	s := ""
	for i, r := range c.Rules {
		s += fmt.Sprintf("%d: %s", i, []string{"empty", "class", "call", "seq", "choice", "", "", "", "", "not"}[r.Op])
		in := func(c int) bool { return c >= 0 && c < 256 && r.Set[c>>6]&(1<<(c&63)) != 0 }
		for first := range 256 {
			for last := first; in(first) && !in(first-1) && in(last); last++ {
				if !in(last + 1) {
					s += fmt.Sprintf(" %d-%d", first, last)
				}
			}
		}
		switch takes(r.Op) {
		case 1:
			s += fmt.Sprintf(" %d", r.A)
		case 2:
			s += fmt.Sprintf(" %d %d", r.A, r.B)
		}
		s += "\n"
	}
	return s + fmt.Sprintf("start %d\n", c.Start)
}

// parsed reads a text again.
func parsed(t *testing.T, s string) api.Core {
	t.Helper()
	var c api.Core
	number := func(s string) int {
		n, err := strconv.Atoi(s)
		if err != nil {
			t.Fatalf("%q is not a number", s)
		}
		return n
	}
	for line := range strings.Lines(s) {
		words := strings.Split(strings.TrimSuffix(line, "\n"), " ")
		if words[0] == "start" {
			c.Start = number(words[1])
			continue
		}
		r := api.CoreRule{Op: slices.Index([]string{"empty", "class", "call", "seq", "choice", "", "", "", "", "not"}, words[1])}
		for k, word := range words[2:] {
			if lo, hi, ok := strings.Cut(word, "-"); ok {
				for b := number(lo); b <= number(hi); b++ {
					r.Set[b/64] |= 1 << (b % 64)
				}
			} else if k == 0 {
				r.A = number(word)
			} else {
				r.B = number(word)
			}
		}
		c.Rules = append(c.Rules, r)
	}
	return c
}

// equal is the model of Same.
func equal(a, b api.Core) bool {
	if len(a.Rules) != len(b.Rules) || a.Start != b.Start {
		return false
	}
	for i := range a.Rules {
		if a.Rules[i] != b.Rules[i] {
			return false
		}
	}
	return true
}

// checkCheck compares Check with the model.
func checkCheck(t *testing.T, c api.Core) {
	t.Helper()
	first, start := wrong(c)
	err := Check(c)
	switch {
	case !start:
		if err != error(api.Wrong) {
			t.Errorf("%+v: the error is %#v, and not Wrong", c, err)
		}
	case first < 0:
		if err != nil {
			t.Errorf("%+v: the error is %#v", c, err)
		}
	default:
		if want := (api.Fault{Code: api.Wrong, At: first}); err != error(want) {
			t.Errorf("%+v: the error is %#v, and not %#v", c, err, want)
		}
	}
}

// check compares what the functions return for a valid core grammar with the models.
func check(t *testing.T, c api.Core) {
	t.Helper()
	if err := Check(c); err != nil {
		t.Errorf("%+v: %v", c, err)
	}
	l := inRounds(c)
	if got := Of(c); !slices.Equal(got, l) {
		t.Errorf("%s the facts are %s, and not %s", Text(c), texts(got), texts(l))
	}
	for r := range c.Rules {
		var want []int
		for i, is := range needed(c, l, r) {
			if is {
				want = append(want, i)
			}
		}
		if got := Needs(c, r); !slices.Equal(got, want) {
			t.Errorf("%s the rule %d needs %v, and not %v", Text(c), r, got, want)
		}
	}
	if got, want := Safe(c), closed(c, l); got != want {
		t.Errorf("%s safe: %v, and not %v", Text(c), got, want)
	}
	if got, want := Text(c), written(c); got != want {
		t.Errorf("the text is %q, and not %q", got, want)
	}
	if again := parsed(t, Text(c)); !equal(again, c) || !Same(again, c) {
		t.Errorf("the text of %+v is that of %+v", c, again)
	}
}

// P14.1 to P14.4: the examples of this chapter and of that of layer 15.
func TestExamples(t *testing.T) {
	c := core("a e x0,1")
	c.Start = 2
	if err := Check(c); err != nil || !Safe(c) {
		t.Errorf("the error is %v, safe: %v", err, Safe(c))
	}
	if got := Of(c); len(got) != 3 || got[2] != (Facts{Null: true, Eat: true}) {
		t.Errorf("the facts are %s", texts(got))
	}
	if got := Text(c); got != "0: class 97-97\n1: empty\n2: choice 0 1\nstart 2\n" {
		t.Errorf("the text is %q", got)
	}
	check(t, c)
	// A <- 'a' A / ''
	c = core("e a c4 s1,2 x3,0")
	c.Start = 4
	if got := Text(c); got != "0: empty\n1: class 97-97\n2: call 4\n3: seq 1 2\n4: choice 3 0\nstart 4\n" {
		t.Errorf("the text is %q", got)
	}
	if got := texts(Of(c)); got != "n ef ne ef ne" || !Safe(c) {
		t.Errorf("the facts are %s, safe: %v", got, Safe(c))
	}
	check(t, c)
}

// P14.1: every kind of rule that is right.
func TestRight(t *testing.T) {
	for _, words := range []string{
		"e", "f", "a", "b", "c0", "n0", "s0,0", "x0,0",
		"c1 e", "c0 e", "e c0", "e c1", "n1 e", "e n1", "e s1,0", "e s0,1", "e s1,1", "s1,0 e", "x0,1 e", "e x1,0", "x1,1 f", "e e", "a f b", "s1,2 x2,0 n0", "e s2,0 c2",
	} {
		c := core(words)
		for c.Start = range c.Rules {
			if err := Check(c); err != nil {
				t.Errorf("%q from %d: %v", words, c.Start, err)
			}
			checkCheck(t, c)
		}
	}
	for _, set := range []api.Set{{}, {1}, {0, 1}, {0, 0, 1}, {0, 0, 0, 1 << 63}, letterA, all} {
		if err := Check(api.Core{Rules: []api.CoreRule{{Op: api.Class, Set: set}}}); err != nil {
			t.Errorf("%v: %v", set, err)
		}
	}
}

// none is the model of an error without an offset.
const none = -1

// P14.1: core grammars that are wrong, by hand.
func TestWrong(t *testing.T) {
	e, n := api.CoreRule{}, api.CoreRule{Op: api.Not, A: 1}
	full := api.CoreRule{Op: api.Class, Set: all}
	for _, x := range []struct {
		rules []api.CoreRule
		start int
		at    int // the first wrong rule
	}{
		// No rule, and no start.
		{nil, 0, none}, {nil, -1, none}, {nil, 1, none}, {[]api.CoreRule{}, 0, none},
		{[]api.CoreRule{e}, -1, none}, {[]api.CoreRule{e}, 1, none}, {[]api.CoreRule{e}, 2, none}, {[]api.CoreRule{e}, math.MinInt, none}, {[]api.CoreRule{e}, math.MaxInt, none},
		{[]api.CoreRule{e, e, e}, 3, none}, {[]api.CoreRule{e, e, e}, -1, none},
		// Operators that are none.
		{[]api.CoreRule{{Op: -1}}, 0, 0}, {[]api.CoreRule{{Op: 5}}, 0, 0}, {[]api.CoreRule{{Op: 6}}, 0, 0}, {[]api.CoreRule{{Op: 7}}, 0, 0}, {[]api.CoreRule{{Op: 8}}, 0, 0}, {[]api.CoreRule{{Op: 10}}, 0, 0},
		{[]api.CoreRule{{Op: math.MinInt}}, 0, 0}, {[]api.CoreRule{{Op: math.MaxInt}}, 0, 0}, {[]api.CoreRule{{Op: 256 + 9}}, 0, 0}, {[]api.CoreRule{e, {Op: 5}}, 0, 1}, {[]api.CoreRule{e, {Op: api.Star, A: 0}}, 1, 1}, {[]api.CoreRule{e, {Op: api.And, A: 1}}, 1, 1},
		// A and B of each operator.
		{[]api.CoreRule{e, {Op: api.Empty, A: 1}}, 0, 1}, {[]api.CoreRule{e, {Op: api.Empty, A: -1}}, 0, 1}, {[]api.CoreRule{e, {Op: api.Empty, A: 2}}, 0, 1},
		{[]api.CoreRule{e, {Op: api.Empty, B: 1}}, 0, 1}, {[]api.CoreRule{e, {Op: api.Empty, B: -1}}, 0, 1}, {[]api.CoreRule{e, {Op: api.Empty, B: 2}}, 0, 1},
		{[]api.CoreRule{e, {Op: api.Class, A: 1}}, 0, 1}, {[]api.CoreRule{e, {Op: api.Class, A: -1, Set: all}}, 0, 1}, {[]api.CoreRule{e, {Op: api.Class, A: 2}}, 0, 1},
		{[]api.CoreRule{e, {Op: api.Class, B: 1}}, 0, 1}, {[]api.CoreRule{e, {Op: api.Class, B: -1, Set: all}}, 0, 1}, {[]api.CoreRule{e, {Op: api.Class, B: 2}}, 0, 1},
		{[]api.CoreRule{e, {Op: api.Call, A: 2}}, 0, 1}, {[]api.CoreRule{e, {Op: api.Call, A: -1}}, 0, 1}, {[]api.CoreRule{e, {Op: api.Call, A: 0, B: 1}}, 0, 1}, {[]api.CoreRule{e, {Op: api.Call, A: 1, B: -1}}, 0, 1}, {[]api.CoreRule{e, {Op: api.Call, A: 1, B: 2}}, 0, 1},
		{[]api.CoreRule{e, {Op: api.Not, A: 2}}, 0, 1}, {[]api.CoreRule{e, {Op: api.Not, A: -1}}, 0, 1}, {[]api.CoreRule{e, {Op: api.Not, A: 0, B: 1}}, 0, 1}, {[]api.CoreRule{e, {Op: api.Not, A: 1, B: -1}}, 0, 1}, {[]api.CoreRule{e, {Op: api.Not, A: 1, B: 2}}, 0, 1},
		{[]api.CoreRule{e, {Op: api.Seq, A: 2}}, 0, 1}, {[]api.CoreRule{e, {Op: api.Seq, A: -1}}, 0, 1}, {[]api.CoreRule{e, {Op: api.Seq, B: 2}}, 0, 1}, {[]api.CoreRule{e, {Op: api.Seq, B: -1}}, 0, 1},
		{[]api.CoreRule{e, {Op: api.Choice, A: 2}}, 0, 1}, {[]api.CoreRule{e, {Op: api.Choice, A: -1}}, 0, 1}, {[]api.CoreRule{e, {Op: api.Choice, B: 2}}, 0, 1}, {[]api.CoreRule{e, {Op: api.Choice, B: -1}}, 0, 1},
		// A set of what is not a class, with each of its elements.
		{[]api.CoreRule{full, {Op: api.Empty, Set: api.Set{1}}}, 0, 1}, {[]api.CoreRule{full, {Op: api.Call, Set: api.Set{0, 1}}}, 0, 1}, {[]api.CoreRule{full, {Op: api.Seq, Set: api.Set{0, 0, 1}}}, 0, 1}, {[]api.CoreRule{full, {Op: api.Choice, Set: api.Set{0, 0, 0, 1 << 63}}}, 0, 1}, {[]api.CoreRule{full, {Op: api.Not, Set: all}}, 0, 1},
		// The first of several wrong rules, and a wrong rule beside a wrong start.
		{[]api.CoreRule{{Op: 5}, {Op: 6}}, 0, 0}, {[]api.CoreRule{e, {A: 1}, {Op: 6}}, 0, 1}, {[]api.CoreRule{e, e, {Op: api.Call, A: 5}, {Op: 6}, {B: 1}}, 4, 2}, {[]api.CoreRule{n, {Op: api.Choice, A: 1, B: 3}, {Op: -1}}, 2, 1},
		{[]api.CoreRule{{Op: 5}}, 1, none}, {[]api.CoreRule{{Op: 5}}, -1, none}, {[]api.CoreRule{e, {A: 1}}, 2, none}, {[]api.CoreRule{e, {A: 1}, e}, -2, none},
	} {
		c := api.Core{Rules: x.rules, Start: x.start}
		err := Check(c)
		if code, ok := fault.Code(err); code != api.Wrong || !ok || !errors.Is(err, api.Wrong) {
			t.Errorf("%+v: the error is %#v", c, err)
		}
		if at, ok := fault.At(err); ok != (x.at != none) || ok && at != x.at {
			t.Errorf("%+v: the offset is %d, %v", c, at, ok)
		}
		if _, ok := err.(api.Code); ok != (x.at == none) {
			t.Errorf("%+v: the error is %#v", c, err)
		}
		checkCheck(t, c)
	}
}

// P14.1: every Op with every A and B in question, and with some sets, at each place of the list.
func TestAllRules(t *testing.T) {
	sets := []api.Set{{}, {1}, {0, 1 << 40}, {0, 0, 1}, {0, 0, 0, 1 << 63}, all}
	right := 0
	for op := -1; op <= 10; op++ {
		for _, a := range []int{math.MinInt, -3, -1, 0, 1, 2, 3, 4, math.MaxInt} {
			for _, b := range []int{math.MinInt, -3, -1, 0, 1, 2, 3, 4, math.MaxInt} {
				for _, set := range sets {
					for at := range 3 {
						c := core("e a c1")
						c.Rules[at] = api.CoreRule{Op: op, A: a, B: b, Set: set}
						checkCheck(t, c)
						if Check(c) == nil {
							right++
						}
					}
				}
			}
		}
	}
	// Empty, the sets of Class, Call and Not of a rule, and Seq and Choice of two.
	if want := 3 * (1 + len(sets) + 3 + 3 + 9 + 9); right != want {
		t.Errorf("%d core grammars are right, and not %d", right, want)
	}
}

// eight are rules that have all the facts that there can be: none, n, e, f, ne, nf, ef and nef.
const eight = "c0 e x6,2 f x6,1 n6 a s4,5"

// names are these facts.
var names = []string{"-", "n", "e", "f", "ne", "nf", "ef", "nef"}

// moved returns the rules of a core grammar in front of which others are put.
func moved(c api.Core, by int) []api.CoreRule {
	l := slices.Clone(c.Rules)
	for i := range l {
		for k, operand := range []*int{&l[i].A, &l[i].B} {
			if k < takes(l[i].Op) {
				*operand += by
			}
		}
	}
	return l
}

// checkRow checks the facts of a rule with some A and B, behind the rules that have all facts, and in front of them.
func checkRow(t *testing.T, op, a, b int, want string) {
	t.Helper()
	c := core(eight)
	c.Rules = append(c.Rules, api.CoreRule{Op: op, A: a, B: b})
	front := api.Core{Rules: append([]api.CoreRule{{Op: op}}, moved(core(eight), 1)...)}
	if takes(op) > 0 {
		front.Rules[0].A = a + 1
	}
	if takes(op) > 1 {
		front.Rules[0].B = b + 1
	}
	if got := Of(c); texts(got[:8]) != strings.Join(names, " ") || text(got[8]) != want {
		t.Errorf("%d of %s and %s: the facts are %s, and not %s", op, names[a], names[b], texts(got), want)
	}
	if got := Of(front); texts(got[1:]) != strings.Join(names, " ") || text(got[0]) != want {
		t.Errorf("%d of %s and %s in front: the facts are %s, and not %s", op, names[a], names[b], texts(got), want)
	}
	check(t, c)
	check(t, front)
}

// P14.2: each row of the table, with all the facts of A and B.
func TestTable(t *testing.T) {
	for words, want := range map[string]string{"e": "n", "f": "f", "a": "ef", "b": "ef"} {
		if got := texts(Of(core(words))); got != want {
			t.Errorf("%s: the facts are %s, and not %s", words, got, want)
		}
	}
	for k := range 256 {
		c := api.Core{Rules: []api.CoreRule{{Op: api.Class, Set: api.Set{}}}}
		c.Rules[0].Set[k/64] = 1 << (k % 64)
		if got := texts(Of(c)); got != "ef" {
			t.Errorf("the class of %d: the facts are %s", k, got)
		}
	}
	for a, want := range strings.Fields("- f f n f nf nf nf") {
		checkRow(t, api.Not, a, 0, want)
		checkRow(t, api.Call, a, 0, names[a])
	}
	// A row for each A, and a column for each B.
	for op, rows := range map[int][]string{
		api.Seq: {
			"-   -   -   -   -   -   -   -",
			"-   n   e   f   ne  nf  ef  nef",
			"-   e   e   f   e   ef  ef  ef",
			"f   f   f   f   f   f   f   f",
			"-   ne  e   f   ne  nef ef  nef",
			"f   nf  ef  f   nef nf  ef  nef",
			"f   ef  ef  f   ef  ef  ef  ef",
			"f   nef ef  f   nef nef ef  nef",
		},
		api.Choice: {
			"-   -   -   -   -   -   -   -",
			"n   n   n   n   n   n   n   n",
			"e   e   e   e   e   e   e   e",
			"-   n   e   f   ne  nf  ef  nef",
			"ne  ne  ne  ne  ne  ne  ne  ne",
			"n   n   ne  nf  ne  nf  nef nef",
			"e   ne  e   ef  ne  nef ef  nef",
			"ne  ne  ne  nef ne  nef nef nef",
		},
	} {
		for a, row := range rows {
			for b, want := range strings.Fields(row) {
				checkRow(t, op, a, b, want)
			}
		}
	}
}

// P14.2: the facts of rules that call themselves or each other, and of rules that are called before they stand in the list, by hand.
func TestLeast(t *testing.T) {
	for words, want := range map[string]string{
		// Rules that call themselves never end if there is nothing else that they may do.
		"c0": "-", "n0": "-", "s0,0": "-", "x0,0": "-", "c1 c0": "- -", "n1 n0": "- -", "n1 c0": "- -", "c1 c2 c0": "- - -", "s1,1 x0,0": "- -", "x0,1 e": "- n", "s0,1 a": "- ef", "s0,1 f": "- f",
		"x1,0 e": "n n", "x1,0 a": "e ef", "x1,0 f": "- f", "s1,0 e": "- n", "s1,0 a": "f ef", "s1,0 f": "f f", "s1,0 n2 a": "f nf ef", "x1,0 n2 a": "n nf ef",
		// A <- 'a' A / '', A <- 'a' A / 'a', A <- 'a' A, and A <- 'a' A 'a' / 'a'.
		"x1,2 s3,0 e a": "ne ef n ef", "x1,2 s2,0 a": "ef ef ef", "c1 s2,0 a": "f f ef", "x1,2 s2,3 a s0,2": "ef ef ef ef",
		// Repetitions: of what takes a byte, of what takes none, and of what may take one.
		"x1,2 s3,0 e e": "- - n n", "x1,2 s3,0 e f": "n f n f", "x1,2 s3,0 e n4 a": "n nf n nf ef", "x1,2 s3,0 e x4,2 a": "- - n ne ef", "s2,1 x0,3 a e": "ef ne ef n", "s2,1 x0,3 e e": "- - n n",
		// Two rules, each of which may do something by the other one.
		"x2,1 x3,0 a f": "e e ef f", "x2,1 x2,0 f": "- - f", "x2,1 x2,3 f e": "n n f n", "x2,1 s3,0 a e": "e e ef n", "n1 s2,0 a": "nf ef ef", "n1 x2,0 a": "nf nef ef", "n1 x2,0 f": "- - f", "x2,1 n0 e": "n f n", "x2,1 n0 f": "- - f", "x2,1 n0 a": "nef nf ef",
		// Called before they stand in the list, one after another.
		"c1 c2 c3 c4 a": "ef ef ef ef ef", "n1 n2 n3 n4 e": "n f n f n", "s1,1 s2,2 s3,3 e": "n n n n", "x1,1 x2,2 x3,3 f": "f f f f", "s1,2 x2,3 n3 a": "nef nef nf ef",
		// And behind them.
		"a c0 c1 c2 c3": "ef ef ef ef ef", "e n0 n1 n2 n3": "n f n f n", "e s0,0 s1,1 s2,2": "n n n n", "a n0 x0,1 s1,2": "ef nf nef nef",
	} {
		if got := texts(Of(core(words))); got != want {
			t.Errorf("%s: the facts are %s, and not %s", words, got, want)
		}
		check(t, core(words))
	}
}

// P14.2: needs by hand.
func TestNeeds(t *testing.T) {
	for _, x := range []struct {
		words string
		rule  int
		want  []int
	}{
		// Rules without needs.
		{"e", 0, nil}, {"f", 0, nil}, {"a", 0, nil}, {"b", 0, nil}, {"c1 e", 1, nil}, {"e a f", 1, nil},
		// Each operator.
		{"c1 e", 0, []int{1}}, {"e c0", 1, []int{0}}, {"n1 e", 0, []int{1}}, {"e n0", 1, []int{0}}, {"c0", 0, []int{0}}, {"n0", 0, []int{0}},
		{"x1,2 e e", 0, []int{1, 2}}, {"x1,2 a e", 0, []int{1, 2}}, {"x1,2 f f", 0, []int{1, 2}}, {"e f x0,1", 2, []int{0, 1}},
		// Sequences behind what may take no byte, and behind what may not.
		{"s1,2 e a", 0, []int{1, 2}}, {"s1,2 a e", 0, []int{1}}, {"s1,2 f e", 0, []int{1}}, {"s1,2 n2 a", 0, []int{1, 2}}, {"s1,2 n3 a e", 0, []int{1}}, {"s1,2 x2,3 a e", 0, []int{1, 2}}, {"s1,2 x2,2 a", 0, []int{1}}, {"a e s0,1", 2, []int{0}}, {"a e s1,0", 2, []int{0, 1}},
		{"s1,0 e", 0, []int{0, 1}}, {"s1,0 a", 0, []int{1}}, {"s0,1 e", 0, []int{0}}, {"s0,1 a", 0, []int{0}}, {"s0,0", 0, []int{0}}, {"s1,2 c1 e", 0, []int{1}}, {"s1,2 n1 e", 0, []int{1}}, {"s1,2 x2,1 e", 0, []int{1, 2}},
		// A and B the same.
		{"s1,1 e", 0, []int{1}}, {"s1,1 a", 0, []int{1}}, {"x1,1 e", 0, []int{1}}, {"x1,1 a", 0, []int{1}}, {"x0,0", 0, []int{0}}, {"e s0,0", 1, []int{0}}, {"e x0,0", 1, []int{0}},
		// B below A.
		{"x2,1 e a", 0, []int{1, 2}}, {"e a x1,0", 2, []int{0, 1}}, {"s2,1 a e", 0, []int{1, 2}}, {"s2,1 e a", 0, []int{2}}, {"e s1,0", 1, []int{1}}, {"x1,0 e", 0, []int{0, 1}}, {"a e s3,0 e", 2, []int{0, 3}}, {"a e s0,1 e", 2, []int{0}},
	} {
		if got := Needs(core(x.words), x.rule); !slices.Equal(got, x.want) {
			t.Errorf("%s: the rule %d needs %v, and not %v", x.words, x.rule, got, x.want)
		}
		check(t, core(x.words))
	}
	// Sequences behind each of the facts.
	for a, name := range names {
		c := core(eight)
		c.Rules = append(c.Rules, api.CoreRule{Op: api.Seq, A: a, B: 8})
		want := []int{a}
		if strings.Contains(name, "n") {
			want = append(want, 8)
		}
		if got := Needs(c, 8); !slices.Equal(got, want) || Safe(c) {
			t.Errorf("behind %s: a sequence needs %v, and not %v", name, got, want)
		}
		check(t, c)
	}
}

// P14.2: which core grammars are safe, by hand.
func TestSafe(t *testing.T) {
	for words, want := range map[string]bool{
		"e": true, "f": true, "a": true, "b": true, "c1 e": true, "n1 a": true, "x1,2 a e": true, "s1,2 a e": true, "e x0,0 s1,1 x2,2": true, "x1,1 s2,2 x3,3 e": true, "a e x0,1 c2 c2 x3,4 s5,5": true,
		// Rules that need themselves.
		"c0": false, "n0": false, "x0,0": false, "s0,0": false, "x0,1 e": false, "x1,0 e": false, "x1,0 a": false, "x1,0 f": false, "s0,1 a": false, "e c1": false, "e n1": false, "e x0,1": false, "e a x2,0": false,
		// Sequences that call themselves behind what may take no byte, and behind what may not.
		"s1,0 e": false, "s1,0 a": true, "s1,0 f": true, "s1,0 n2 a": false, "s1,0 x2,3 a e": false, "s1,0 s2,2 a": true, "s1,0 c2 a": true, "s1,0 c2 e": false, "s1,0 n2 f": false, "a s0,1": true, "e s0,1": false, "a s0,1 s1,2": true,
		"a s0,2 c1": true, "e s0,2 c1": false, "a s0,2 s1,1": true, "x1,2 s3,0 e a": true, "x1,2 s3,0 e e": false, "x1,2 s3,0 e x4,2 a": false, "s2,1 x0,3 a e": true, "s2,1 x0,3 e e": false,
		// Paths of two and of more needs.
		"c1 c0": false, "n1 c0": false, "n1 n0": false, "x1,2 c0 e": false, "x2,1 c0 e": false, "s1,2 x0,2 a": false, "s2,1 n0 e": false, "s2,1 n0 a": true, "c1 c2 c0": false, "c1 x2,3 n0 e": false, "c1 x3,2 n0 e": false, "x1,1 s3,2 n0 e": false, "x1,1 s3,2 n0 a": true, "c1 c2 c3 c4 c0": false, "c4 c0 c1 c2 c3": false, "c1 c2 c3 c4 c2": false, "c1 c2 c3 c4 e": true, "n1 n2 n3 n4 a": true,
		// Paths in rules that the start does not reach, or reaches behind a byte.
		"e c1 e": false, "a c2 c1": false, "x1,2 a e c4 c5 c3": false, "e x3,2 e s0,1": false, "s1,2 a c3 c2": false, "s1,2 a s1,2": true,
		// Several paths to the same rule.
		"x1,2 c3 c3 a": true, "x1,2 x3,4 x3,4 x5,5 x5,5 e": true, "x1,2 c3 c4 a c3": true, "x2,1 c3 c4 c4 e": true, "x1,2 c3 c1 n4 a": true, "x1,2 c3 c1 n4 c2": false,
	} {
		if got := Safe(core(words)); got != want {
			t.Errorf("%s: safe: %v", words, got)
		}
		check(t, core(words))
	}
}

// P14.3: texts by hand.
func TestText(t *testing.T) {
	one := func(set api.Set) api.Core { return api.Core{Rules: []api.CoreRule{{Op: api.Class, Set: set}}} }
	var odd api.Set
	odds := ""
	for k := 1; k < 256; k += 2 {
		odd[k/64] |= 1 << (k % 64)
		odds += fmt.Sprintf(" %d-%d", k, k)
	}
	last := core("a e c0 n1 s0,1 x1,0 e e e e e x10,11 s11,10 n10 c11")
	last.Start = 14
	for _, x := range []struct {
		c    api.Core
		want string
	}{
		// Each kind of rule.
		{core("e"), "0: empty\nstart 0\n"},
		{core("a"), "0: class 97-97\nstart 0\n"},
		{core("c0"), "0: call 0\nstart 0\n"},
		{core("n0"), "0: not 0\nstart 0\n"},
		{core("s0,0"), "0: seq 0 0\nstart 0\n"},
		{core("x0,0"), "0: choice 0 0\nstart 0\n"},
		{core("e c0 n1 s2,1 x1,2"), "0: empty\n1: call 0\n2: not 1\n3: seq 2 1\n4: choice 1 2\nstart 0\n"},
		// Sets with no run, with one and with several; bytes with one, two and three digits.
		{one(api.Set{}), "0: class\nstart 0\n"},
		{one(all), "0: class 0-255\nstart 0\n"},
		{one(api.Set{1}), "0: class 0-0\nstart 0\n"},
		{one(api.Set{0, 0, 0, 1 << 63}), "0: class 255-255\nstart 0\n"},
		{one(api.Set{1 << 9}), "0: class 9-9\nstart 0\n"},
		{one(api.Set{1<<9 | 1<<10}), "0: class 9-10\nstart 0\n"},
		{one(api.Set{1 << 10}), "0: class 10-10\nstart 0\n"},
		{one(api.Set{0, 1 << (99 - 64)}), "0: class 99-99\nstart 0\n"},
		{one(api.Set{0, 1<<(99-64) | 1<<(100-64)}), "0: class 99-100\nstart 0\n"},
		{one(api.Set{0, 1 << (100 - 64)}), "0: class 100-100\nstart 0\n"},
		{one(api.Set{1 << 63, 1}), "0: class 63-64\nstart 0\n"},
		{one(api.Set{1 << 62, 1}), "0: class 62-62 64-64\nstart 0\n"},
		{one(api.Set{1, 0, 0, 1 << 63}), "0: class 0-0 255-255\nstart 0\n"},
		{one(api.Set{0x3ff << 48, 0x7fffffe << 32, 0, 1}), "0: class 48-57 97-122 192-192\nstart 0\n"},
		{one(api.Set{math.MaxUint64, 0, math.MaxUint64, 1}), "0: class 0-63 128-192\nstart 0\n"},
		{one(api.Set{0b10111}), "0: class 0-2 4-4\nstart 0\n"},
		{one(odd), "0: class" + odds + "\nstart 0\n"},
		// Indices with two digits, and other starts.
		{last, "0: class 97-97\n1: empty\n2: call 0\n3: not 1\n4: seq 0 1\n5: choice 1 0\n6: empty\n7: empty\n8: empty\n9: empty\n10: empty\n11: choice 10 11\n12: seq 11 10\n13: not 10\n14: call 11\nstart 14\n"},
		{api.Core{Rules: core("e f").Rules, Start: 1}, "0: empty\n1: class\nstart 1\n"},
	} {
		if got := Text(x.c); got != x.want {
			t.Errorf("the text is %q, and not %q", got, x.want)
		}
		check(t, x.c)
	}
}

// P14.4: core grammars that differ in one place, valid or not.
func TestSame(t *testing.T) {
	wrong := api.Core{Rules: []api.CoreRule{{Op: 7, A: -1, B: 9, Set: letterA}, {Op: api.Empty, A: 3, Set: all}}, Start: -5}
	for _, c := range []api.Core{{}, core("e"), core("a e x0,1"), core("c1 n0 s1,0 x2,1 f b"), wrong, {Start: 4}} {
		again := api.Core{Rules: slices.Clone(c.Rules), Start: c.Start}
		if !Same(c, c) || !Same(c, again) {
			t.Errorf("%+v is not the same as itself", c)
		}
		differs := func(d api.Core) {
			t.Helper()
			if Same(c, d) || Same(d, c) || !Same(d, d) {
				t.Errorf("%+v and %+v are the same", c, d)
			}
		}
		for i := range c.Rules {
			for k := range 3 + 4*64 {
				d := api.Core{Rules: slices.Clone(c.Rules), Start: c.Start}
				r := &d.Rules[i]
				switch k {
				case 0:
					r.Op++
				case 1:
					r.A++
				case 2:
					r.B++
				default:
					r.Set[(k-3)/64] ^= 1 << ((k - 3) % 64)
				}
				differs(d)
			}
			d := api.Core{Rules: slices.Delete(slices.Clone(c.Rules), i, i+1), Start: c.Start}
			differs(d)
		}
		for _, start := range []int{c.Start + 1, c.Start - 1, math.MinInt, math.MaxInt} {
			differs(api.Core{Rules: c.Rules, Start: start})
		}
		differs(api.Core{Rules: append(slices.Clone(c.Rules), api.CoreRule{}), Start: c.Start})
	}
	// The order of rules, and their number.
	for _, words := range [][2]string{{"a e", "e a"}, {"s0,1 e", "s1,0 e"}, {"e", "e e"}, {"e e", "e"}, {"", "e"}, {"f", "e"}, {"c0", "n0"}, {"s0,0", "x0,0"}, {"a a", "a b"}} {
		if Same(core(words[0]), core(words[1])) {
			t.Errorf("%q and %q are the same", words[0], words[1])
		}
	}
	if !Same(api.Core{}, api.Core{Rules: []api.CoreRule{}}) || !Same(api.Core{Rules: []api.CoreRule{}, Start: 3}, api.Core{Start: 3}) {
		t.Error("no rules differ from an empty list")
	}
}

// ofRules returns all rules of a core grammar with n rules, with three sets for classes.
func ofRules(n int) []api.CoreRule {
	l := []api.CoreRule{rule("e"), rule("f"), rule("a"), rule("b")}
	for a := range n {
		l = append(l, api.CoreRule{Op: api.Call, A: a}, api.CoreRule{Op: api.Not, A: a})
		for b := range n {
			l = append(l, api.CoreRule{Op: api.Seq, A: a, B: b}, api.CoreRule{Op: api.Choice, A: a, B: b})
		}
	}
	return l
}

// small calls do for all core grammars with n rules that start with the rule 0, and returns how many there are.
func small(n int, do func(c api.Core)) int {
	rules := ofRules(n)
	c := api.Core{Rules: make([]api.CoreRule, n)}
	count := 0
	var put func(i int)
	put = func(i int) {
		if i == n {
			do(c)
			count++
			return
		}
		for _, r := range rules {
			c.Rules[i] = r
			put(i + 1)
		}
	}
	put(0)
	return count
}

// extend checks that a safe core grammar stays safe with a rule more, if this needs only rules that are there.
func extend(t *testing.T, c api.Core, more api.CoreRule) {
	t.Helper()
	if more.A == len(c.Rules) || more.B == len(c.Rules) && (more.Op != api.Seq || Of(c)[more.A].Null) {
		return
	}
	d := api.Core{Rules: append(slices.Clone(c.Rules), more), Start: c.Start}
	if Safe(d) != Safe(c) {
		t.Errorf("%s safe: %v, with a rule more: %v\n%s", Text(c), Safe(c), Safe(d), Text(d))
	}
}

// P14.1 to P14.4: all core grammars of one, two and three rules, with all starts; their texts, each of which is that of no other one; and those of one and two rules with a rule more.
func TestSmall(t *testing.T) {
	for k, want := range []int{8, 16 * 16, 28 * 28 * 28} {
		n, safe := k+1, 0
		found := map[string]api.Core{}
		more := ofRules(n + 1)
		count := small(n, func(c api.Core) {
			if t.Failed() {
				return
			}
			for c.Start = range c.Rules {
				text := Text(c)
				if before, ok := found[text]; ok {
					t.Errorf("%+v and %+v have the same text %q", before, c, text)
				}
				found[text] = api.Core{Rules: slices.Clone(c.Rules), Start: c.Start}
				if Safe(c) != Safe(api.Core{Rules: c.Rules}) {
					t.Errorf("%s whether it is safe depends on the start", text)
				}
			}
			c.Start = 0
			check(t, c)
			if got, want := Of(c), common(c); !slices.Equal(got, want) {
				t.Errorf("%s the facts are %s, and not %s", Text(c), texts(got), texts(want))
			}
			if Safe(c) {
				safe++
			}
			for i, r := range c.Rules {
				if r.Op == api.Call && r.A == i && Safe(c) {
					t.Errorf("%s the rule %d calls itself, and it is safe", Text(c), i)
				}
			}
			for _, r := range more {
				if n < 3 {
					extend(t, c, r)
				}
			}
		})
		if count != want || len(found) != n*count || safe == 0 || safe > count*2/3 {
			t.Errorf("%d rules: there are %d core grammars, %d are safe, and there are %d texts", n, count, safe, len(found))
		}
	}
}

// P14.3 and P14.4: the text of two core grammars is the same exactly if they are the same, for all pairs of those with up to two rules, with all starts.
func TestPairs(t *testing.T) {
	var l []api.Core
	for n := 1; n <= 2; n++ {
		small(n, func(c api.Core) {
			for c.Start = range c.Rules {
				l = append(l, api.Core{Rules: slices.Clone(c.Rules), Start: c.Start})
			}
		})
	}
	var lines []string
	for _, c := range l {
		lines = append(lines, Text(c))
	}
	for i, a := range l {
		for k, b := range l {
			if same := Same(a, b); same != (lines[i] == lines[k]) || same != (i == k) || same != equal(a, b) {
				t.Fatalf("%q and %q: the same: %v", lines[i], lines[k], same)
			}
		}
	}
}

// randomSet returns a set at random: often none, one or all bytes, or else many runs.
func randomSet(r *rand.Rand) api.Set {
	switch r.IntN(6) {
	case 0:
		return api.Set{}
	case 1:
		return all
	case 2:
		return letterA
	}
	var s api.Set
	for range 1 + r.IntN(5) {
		lo := r.IntN(256)
		for c := lo; c <= min(lo+r.IntN(60), 255); c++ {
			s[c/64] |= 1 << (c % 64)
		}
	}
	return s
}

// randomCore returns a valid core grammar with n rules at random. Most rules are made of rules before them, or of ones behind them, so that many core grammars are safe.
func randomCore(r *rand.Rand, n int) api.Core {
	c := api.Core{Start: r.IntN(n)}
	up, stray := r.IntN(2) == 0, 1+r.IntN(15)
	operand := func(i int) int {
		switch {
		case r.IntN(stray) == 0 || i == 0 && !up || i == n-1 && up:
			return r.IntN(n)
		case up:
			return i + 1 + r.IntN(min(n-i-1, 9))
		}
		return i - 1 - r.IntN(min(i, 9))
	}
	for i := range n {
		x := api.CoreRule{Op: []int{api.Empty, api.Class, api.Class, api.Call, api.Seq, api.Seq, api.Choice, api.Choice, api.Not}[r.IntN(9)]}
		if x.Op == api.Class {
			x.Set = randomSet(r)
		}
		// The first rules, or the last ones, would need others that there are not.
		if up && i == n-1 || !up && i == 0 {
			x = api.CoreRule{Op: api.Class, Set: randomSet(r)}
		}
		if takes(x.Op) > 0 {
			x.A = operand(i)
		}
		if takes(x.Op) > 1 {
			x.B = operand(i)
		}
		c.Rules = append(c.Rules, x)
	}
	return c
}

// P14.1 to P14.4: core grammars at random, of which many are safe and many are not; with a rule more; with a rule that calls itself; and with one field changed.
func TestRandom(t *testing.T) {
	r := rand.New(rand.NewPCG(14, 1))
	safe, wrongs := [2]int{}, [2]int{}
	facts := map[Facts]int{}
	for range 6000 {
		c := randomCore(r, 1+r.IntN(30))
		check(t, c)
		for _, f := range Of(c) {
			facts[f]++
		}
		if Safe(c) {
			safe[1]++
		} else {
			safe[0]++
		}
		more := randomCore(r, len(c.Rules)+1).Rules[r.IntN(len(c.Rules)+1)]
		extend(t, c, more)
		d := api.Core{Rules: slices.Clone(c.Rules), Start: c.Start}
		at := r.IntN(len(d.Rules))
		d.Rules[at] = api.CoreRule{Op: api.Call, A: at}
		if Safe(d) {
			t.Errorf("%s the rule %d calls itself, and it is safe", Text(d), at)
		}
		d = api.Core{Rules: slices.Clone(c.Rules), Start: c.Start}
		damage(r, &d)
		checkCheck(t, d)
		if Check(d) == nil {
			wrongs[0]++
			if same := Same(c, d); same != (Text(c) == Text(d)) || same != equal(c, d) {
				t.Errorf("%q and %q: the same: %v", Text(c), Text(d), same)
			}
		} else {
			wrongs[1]++
		}
		if t.Failed() {
			return
		}
	}
	if slices.Min(safe[:]) < 1000 || slices.Min(wrongs[:]) < 500 || len(facts) != 8 {
		t.Errorf("there are only %v core grammars that are not safe and safe, %v changed ones that are valid and not, and the facts %v", safe, wrongs, facts)
	}
}

// damage changes a core grammar in one place at random. It may stay valid.
func damage(r *rand.Rand, c *api.Core) {
	n := len(c.Rules)
	values := []int{math.MinInt, -1, 0, 1, n - 1, n, n + 1, math.MaxInt}
	value := values[r.IntN(len(values))]
	if r.IntN(8) == 0 || n == 0 {
		c.Start = value
		return
	}
	x := &c.Rules[r.IntN(n)]
	switch r.IntN(6) {
	case 0:
		x.Op = r.IntN(12) - 1
	case 1:
		x.A = value
	case 2:
		x.B = value
	case 3:
		x.Set[r.IntN(4)] ^= 1 << r.IntN(64)
	case 4:
		x.A, x.B = x.B, x.A
	case 5:
		x.Op, x.A, x.B = []int{api.Call, api.Seq, api.Choice, api.Not}[r.IntN(4)], value, r.IntN(n)
	}
}

// P14.1 to P14.4: many rules, which call each other one after another in both directions and in circles.
func TestMany(t *testing.T) {
	const most = 300000
	for _, x := range []struct {
		name string
		next func(i int) int // the rule that is called, or none (-1) for a class
		safe bool
	}{
		{"to the end", func(i int) int {
			if i == most-1 {
				return -1
			}
			return i + 1
		}, true},
		{"to the start", func(i int) int { return i - 1 }, true},
		{"to itself at the end", func(i int) int { return min(i+1, most-1) }, false},
		{"to itself at the start", func(i int) int { return max(i-1, 0) }, false},
		{"in a circle", func(i int) int { return (i + 77777) % most }, false},
	} {
		for _, op := range []int{api.Call, api.Seq, api.Choice} {
			c := api.Core{Rules: make([]api.CoreRule, most), Start: most - 1}
			for i := range c.Rules {
				next := x.next(i)
				switch {
				case next < 0:
					c.Rules[i] = rule("a")
				case op == api.Call:
					c.Rules[i] = api.CoreRule{Op: op, A: next}
				default:
					c.Rules[i] = api.CoreRule{Op: op, A: next, B: next}
				}
			}
			want := Facts{}
			if x.safe {
				want = Facts{Eat: true, Fail: true}
			}
			l := Of(c)
			if err := Check(c); err != nil || Safe(c) != x.safe || len(l) != most || slices.ContainsFunc(l, func(f Facts) bool { return f != want }) {
				t.Errorf("%s: %v, safe: %v, and the facts are %s", x.name, err, Safe(c), texts(l[:9]))
			}
			c.Rules[most-1].A = most
			if err := Check(c); err != error(api.Fault{Code: api.Wrong, At: most - 1}) {
				t.Errorf("%s: the error is %#v", x.name, err)
			}
		}
	}
}

// P14.2: a path of needs that has many ways, of which each rule has to be looked at once.
func TestManyPaths(t *testing.T) {
	c := core("a c0")
	for i := 2; i < 20000; i++ {
		c.Rules = append(c.Rules, api.CoreRule{Op: []int{api.Choice, api.Seq}[i/2%2], A: i - 1 - i%2, B: i - 2 - i%2})
	}
	if l := Of(c); !Safe(c) || len(l) != len(c.Rules) || l[19999] != (Facts{Eat: true, Fail: true}) {
		t.Errorf("safe: %v, and the last facts are %s", Safe(c), texts(l[19990:]))
	}
	c.Rules[1].A = 19999
	if Safe(c) {
		t.Error("a circle is safe")
	}
	if got := texts(Of(c)[:4]); got != "ef - - -" {
		t.Errorf("the facts are %s", got)
	}
	lines := strings.Split(Text(c), "\n")
	if len(lines) != 20002 || lines[1] != "1: call 19999" || lines[19999] != "19999: seq 19997 19996" || lines[20000] != "start 0" {
		t.Errorf("there are %d lines, and the last ones are %q", len(lines), lines[len(lines)-3:])
	}
}

// results returns all that the functions return for a core grammar, as a text.
func results(c api.Core) string {
	s := fmt.Sprintf("%#v %v %v %q %v", Check(c), Of(c), Safe(c), Text(c), Same(c, c))
	for i := range c.Rules {
		s += fmt.Sprint(" ", Needs(c, i))
	}
	return s
}

// Rules 4, 5 and 7: arguments and their unused capacity stay and are not read, and a second call returns the same.
func TestArgumentsStay(t *testing.T) {
	r := rand.New(rand.NewPCG(14, 2))
	for range 600 {
		c := randomCore(r, 1+r.IntN(12))
		if r.IntN(3) == 0 {
			damage(r, &c)
		}
		want := results(c)
		full := append(slices.Clone(c.Rules), rule("n0"), api.CoreRule{Op: 77, A: 1})
		s := api.Core{Rules: full[:len(c.Rules)], Start: c.Start}
		before := slices.Clone(full)
		for range 2 {
			if got := results(s); got != want {
				t.Fatalf("%+v: the results are %s, and not %s", c, got, want)
			}
		}
		if !slices.Equal(full, before) {
			t.Fatalf("%+v: an argument has changed", c)
		}
	}
}

// Rule 5: results are new memory: neither arguments nor later results change with them.
func TestResultsAreNew(t *testing.T) {
	r := rand.New(rand.NewPCG(14, 3))
	for range 600 {
		c := randomCore(r, 1+r.IntN(12))
		before, want := slices.Clone(c.Rules), results(c)
		clear(Of(c))
		for i := range c.Rules {
			l := Needs(c, i)
			l = l[:cap(l)]
			for k := range l {
				l[k] = -9
			}
		}
		if !slices.Equal(c.Rules, before) || results(c) != want {
			t.Fatalf("%+v: an argument or a result has changed with a result", c)
		}
	}
}

// P1: all functions end and do not panic where they are not specified: core grammars that are not valid, and indices of no rules.
func TestUnspecified(t *testing.T) {
	r := rand.New(rand.NewPCG(14, 4))
	cores := []api.Core{{}, {Start: 1}, {Rules: make([]api.CoreRule, 2), Start: -1}}
	for op := -1; op <= 10; op++ {
		for _, a := range []int{math.MinInt, -1, 0, 1, 2, math.MaxInt} {
			for _, b := range []int{math.MinInt, -1, 0, 1, 2, math.MaxInt} {
				cores = append(cores, api.Core{Rules: []api.CoreRule{{Op: op, A: a, B: b, Set: all}, {Op: api.Seq, A: 0, B: 0}}})
			}
		}
	}
	for range 6000 {
		c := randomCore(r, 1+r.IntN(12))
		for range 1 + r.IntN(4) {
			damage(r, &c)
		}
		cores = append(cores, c)
	}
	for _, c := range cores {
		checkCheck(t, c)
		if l := Of(c); len(l) != len(c.Rules) {
			t.Errorf("%+v: there are %d facts", c, len(l))
		}
		Safe(c)
		if lines := strings.Split(Text(c), "\n"); len(lines) != len(c.Rules)+2 {
			t.Errorf("%+v: there are %d lines", c, len(lines))
		}
		for i := range c.Rules {
			for _, need := range Needs(c, i) {
				if need < 0 || need >= len(c.Rules) {
					t.Errorf("%+v: the rule %d needs %d, which there is not", c, i, need)
				}
			}
		}
		for _, i := range []int{math.MinInt, -1, len(c.Rules), len(c.Rules) + 1, math.MaxInt} {
			if got := Needs(c, i); len(got) > 0 {
				t.Errorf("%+v: the rule %d, which there is not, needs %v", c, i, got)
			}
		}
	}
}
