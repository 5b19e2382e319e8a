package syntax

import (
	"errors"
	"fmt"
	"math"
	"math/rand/v2"
	"regexp"
	"slices"
	"strings"
	"testing"
	"unsafe"

	"vetch/api"
	"vetch/build"
	"vetch/gram"
	"vetch/lexer"
)

// Expressions are told here as items in prefix order (layer 6), which become nodes in post-order.

type items []build.Item

var (
	empty = items{{Op: api.Empty}}
	dot   = items{{Op: api.Class, Set: api.Set{math.MaxUint64, math.MaxUint64, math.MaxUint64, math.MaxUint64}}}
)

// class returns a class with the bytes of a string.
func class(bytes string) items {
	var s api.Set
	for _, c := range []byte(bytes) {
		s[c/64] |= 1 << (c % 64)
	}
	return items{{Op: api.Class, Set: s}}
}

// call returns the call of the name with an index in Calls.
func call(name int) items { return items{{Op: api.Call, Rule: name}} }

func with(op int, kids ...items) items {
	return append(items{{Op: op, Kids: len(kids)}}, slices.Concat(kids...)...)
}

// literal returns the sequence of the classes of the bytes of a string.
func literal(bytes string) items {
	var kids []items
	for i := range len(bytes) {
		kids = append(kids, class(bytes[i:i+1]))
	}
	return joined(api.Seq, kids)
}

// joined returns an expression with some kids, of which there may be none or one.
func joined(op int, kids []items) items {
	switch len(kids) {
	case 0:
		return empty
	case 1:
		return kids[0]
	}
	return with(op, kids...)
}

// rule is a rule of a file that is expected.
type rule struct {
	name string
	at   int
	root items
}

// file returns the file with some rules and calls.
func file(t *testing.T, rules []rule, calls ...Name) File {
	t.Helper()
	f := File{Calls: calls}
	var l []build.Rule
	for _, r := range rules {
		l = append(l, build.Rule{Items: r.root})
	}
	g, ok := build.Of(l)
	if !ok {
		t.Fatal("there are items of no expression")
	}
	f.Nodes = g.Nodes
	for i, r := range rules {
		f.Rules = append(f.Rules, Definition{Name: r.name, At: r.at, Root: g.Rules[i].Root})
	}
	return f
}

// equal compares two files in another way than Same.
func equal(a, b File) bool { return text(a) == text(b) }

func text(f File) string { return fmt.Sprintf("%+v\n%v\n%+v", f.Rules, f.Nodes, f.Calls) }

// zero reports whether a file is the zero value.
func zero(f File) bool { return f.Rules == nil && f.Nodes == nil && f.Calls == nil }

func checkFile(t *testing.T, s string, got File, err error, want File) {
	t.Helper()
	if err != nil || !equal(got, want) {
		t.Errorf("%.200q: %.2000s, %v, and not\n%.2000s", s, text(got), err, text(want))
	}
}

// checkFault checks that there is an error, which is an api.Fault itself, and a zero file.
func checkFault(t *testing.T, s string, got File, err error, code api.Code, at int) {
	t.Helper()
	if f, ok := err.(api.Fault); !ok || f != (api.Fault{Code: code, At: at}) || !zero(got) {
		t.Errorf("%.200q: %.200s, %#v, and not the code %d at %d", s, text(got), err, code, at)
	}
}

// An expression, and the items that it has if its calls are the first ones.
var expressions = []struct {
	s     string
	want  items
	calls []Name
}{
	// Sequences.
	{s: "", want: empty},
	{s: " \t", want: empty},
	{s: "# empty\n", want: empty},
	{s: "'a'", want: class("a")},
	{s: "'a' 'b'", want: with(api.Seq, class("a"), class("b"))},
	{s: "'a' [b] .", want: with(api.Seq, class("a"), class("b"), dot)},
	{s: "'ab' 'cd'", want: with(api.Seq, literal("ab"), literal("cd"))},
	// Choices.
	{s: "/", want: with(api.Choice, empty, empty)},
	{s: "/ 'a'", want: with(api.Choice, empty, class("a"))},
	{s: "'a' /", want: with(api.Choice, class("a"), empty)},
	{s: "//", want: with(api.Choice, empty, empty, empty)},
	{s: "'a' / 'b' 'c' / 'd'", want: with(api.Choice, class("a"), with(api.Seq, class("b"), class("c")), class("d"))},
	// Prefixes and suffixes.
	{s: "&'a'", want: with(api.And, class("a"))},
	{s: "!'a'", want: with(api.Not, class("a"))},
	{s: "'a'?", want: with(api.Opt, class("a"))},
	{s: "'a'*", want: with(api.Star, class("a"))},
	{s: "'a'+", want: with(api.Plus, class("a"))},
	{s: "&'a'?", want: with(api.And, with(api.Opt, class("a")))},
	{s: "&'a'*", want: with(api.And, with(api.Star, class("a")))},
	{s: "&'a'+", want: with(api.And, with(api.Plus, class("a")))},
	{s: "!'a'?", want: with(api.Not, with(api.Opt, class("a")))},
	{s: "!'a'*", want: with(api.Not, with(api.Star, class("a")))},
	{s: "!'a'+", want: with(api.Not, with(api.Plus, class("a")))},
	{s: "(&'a')*", want: with(api.Star, with(api.And, class("a")))},
	{s: "!(!'a')", want: with(api.Not, with(api.Not, class("a")))},
	{s: "('a'?)*", want: with(api.Star, with(api.Opt, class("a")))},
	{s: "&'a' !'b'", want: with(api.Seq, with(api.And, class("a")), with(api.Not, class("b")))},
	{s: "'a'? 'b'* 'c'+", want: with(api.Seq, with(api.Opt, class("a")), with(api.Star, class("b")), with(api.Plus, class("c")))},
	{s: "'ab'?", want: with(api.Opt, literal("ab"))},
	{s: "!''", want: with(api.Not, empty)},
	{s: "!.", want: with(api.Not, dot)},
	{s: ".*", want: with(api.Star, dot)},
	{s: "[]+", want: with(api.Plus, class(""))},
	// Parentheses.
	{s: "()", want: empty},
	{s: "('a')", want: class("a")},
	{s: "(('a'))", want: class("a")},
	{s: "()()", want: with(api.Seq, empty, empty)},
	{s: "()*", want: with(api.Star, empty)},
	{s: "&()", want: with(api.And, empty)},
	{s: "(/)", want: with(api.Choice, empty, empty)},
	{s: "('a' 'b') 'c'", want: with(api.Seq, with(api.Seq, class("a"), class("b")), class("c"))},
	{s: "'a' ('b' 'c')", want: with(api.Seq, class("a"), with(api.Seq, class("b"), class("c")))},
	{s: "('a' / 'b') / 'c'", want: with(api.Choice, with(api.Choice, class("a"), class("b")), class("c"))},
	{s: "'a' ('b' / 'c') 'd'", want: with(api.Seq, class("a"), with(api.Choice, class("b"), class("c")), class("d"))},
	{s: "('a' ('b' / ('c'))*)?", want: with(api.Opt, with(api.Seq, class("a"), with(api.Star, with(api.Choice, class("b"), class("c")))))},
	// Literals, classes and dots.
	{s: "''", want: empty},
	{s: `""`, want: empty},
	{s: `"a"`, want: class("a")},
	{s: "'ab'", want: with(api.Seq, class("a"), class("b"))},
	{s: `"abca"`, want: with(api.Seq, class("a"), class("b"), class("c"), class("a"))},
	{s: `'\n\000\277'`, want: with(api.Seq, class("\n"), class("\x00"), class("\xbf"))},
	{s: "'\xff\xc3\xa4'", want: with(api.Seq, class("\xff"), class("\xc3"), class("\xa4"))},
	{s: "'' ''", want: with(api.Seq, empty, empty)},
	{s: "[]", want: class("")},
	{s: "[a]", want: class("a")},
	{s: "[a-cx]", want: class("abcx")},
	{s: "[b-a]", want: class("")},
	{s: "[\\000-\xff]", want: dot},
	{s: ".", want: dot},
	{s: "...", want: with(api.Seq, dot, dot, dot)},
	// Calls.
	{s: "A", want: call(0), calls: []Name{{"A", 0}}},
	{s: " A1_", want: call(0), calls: []Name{{"A1_", 1}}},
	{s: "A A", want: with(api.Seq, call(0), call(1)), calls: []Name{{"A", 0}, {"A", 2}}},
	{s: "B / !A* (C A)", want: with(api.Choice, call(0), with(api.Seq, with(api.Not, with(api.Star, call(1))), with(api.Seq, call(2), call(3)))), calls: []Name{{"B", 0}, {"A", 5}, {"C", 9}, {"A", 11}}},
	{s: "(A)", want: call(0), calls: []Name{{"A", 1}}},
	{s: "&A B?", want: with(api.Seq, with(api.And, call(0)), with(api.Opt, call(1))), calls: []Name{{"A", 1}, {"B", 3}}},
}

// P8.2: an expression is a file with one rule, whose name is empty and whose At is 0.
func TestExpression(t *testing.T) {
	for _, x := range expressions {
		f, err := Expression(x.s)
		checkFile(t, x.s, f, err, file(t, []rule{{root: x.want}}, x.calls...))
	}
}

// moved returns names further on.
func moved(names []Name, by int) []Name {
	var l []Name
	for _, n := range names {
		l = append(l, Name{n.Text, n.At + by})
	}
	return l
}

// P8.1: a file of one definition has the nodes of its expression.
func TestParseOne(t *testing.T) {
	for _, x := range expressions {
		s := "a<-" + x.s
		f, err := Parse(s)
		checkFile(t, s, f, err, file(t, []rule{{"a", 0, x.want}}, moved(x.calls, 3)...))
	}
}

// P8.1: the nodes of several definitions follow each other, and so do their calls.
func TestParseSeveral(t *testing.T) {
	for i, x := range expressions {
		for j, y := range expressions {
			first := "\n x <- " + x.s
			middle := "\nx<-\n"
			s := first + middle + "Y_2 <- " + y.s
			f, err := Parse(s)
			second := items(nil)
			for _, item := range y.want {
				if item.Op == api.Call {
					item.Rule += len(x.calls)
				}
				second = append(second, item)
			}
			at := len(first) + len(middle)
			rules := []rule{{"x", 2, x.want}, {"x", len(first) + 1, empty}, {"Y_2", at, second}}
			calls := append(moved(x.calls, 7), moved(y.calls, at+7)...)
			checkFile(t, fmt.Sprint(i, j, s), f, err, file(t, rules, calls...))
			if t.Failed() {
				return
			}
		}
	}
}

// P8.1: an Ident before an Arrow is the name of the next definition, and no part.
func TestNextDefinition(t *testing.T) {
	for _, test := range []struct {
		s     string
		rules []rule
		calls []Name
	}{
		{"A <- B <-", []rule{{"A", 0, empty}, {"B", 5, empty}}, nil},
		{"A <- B C <- D", []rule{{"A", 0, call(0)}, {"C", 7, call(1)}}, []Name{{"B", 5}, {"D", 12}}},
		{"A <- 'b'? C <- 'd'", []rule{{"A", 0, with(api.Opt, class("b"))}, {"C", 10, class("d")}}, nil},
		{"A <- B / C <- D", []rule{{"A", 0, with(api.Choice, call(0), empty)}, {"C", 9, call(1)}}, []Name{{"B", 5}, {"D", 14}}},
		{"A <- (B) C <- D", []rule{{"A", 0, call(0)}, {"C", 9, call(1)}}, []Name{{"B", 6}, {"D", 14}}},
		{"A<-A A<-A A<-A", []rule{{"A", 0, call(0)}, {"A", 5, call(1)}, {"A", 10, call(2)}}, []Name{{"A", 3}, {"A", 8}, {"A", 13}}},
		{"A<-B#\n\t<-C", []rule{{"A", 0, empty}, {"B", 3, call(0)}}, []Name{{"C", 9}}},
	} {
		f, err := Parse(test.s)
		checkFile(t, test.s, f, err, file(t, test.rules, test.calls...))
	}
}

// P8.1: the order of nodes, by hand.
func TestNodes(t *testing.T) {
	set := func(c byte) (s api.Set) {
		s[c/64] = 1 << (c % 64)
		return s
	}
	s := "A <- !B* ('c' / ) / 'de'\nB <- &''"
	f, err := Parse(s)
	checkFile(t, s, f, err, File{
		Rules: []Definition{{"A", 0, 10}, {"B", 25, 12}},
		Nodes: []api.Node{
			{Op: api.Call, Rule: 0},
			{Op: api.Star, Kids: []int{0}},
			{Op: api.Not, Kids: []int{1}},
			{Op: api.Class, Set: set('c')},
			{Op: api.Empty},
			{Op: api.Choice, Kids: []int{3, 4}},
			{Op: api.Seq, Kids: []int{2, 5}},
			{Op: api.Class, Set: set('d')},
			{Op: api.Class, Set: set('e')},
			{Op: api.Seq, Kids: []int{7, 8}},
			{Op: api.Choice, Kids: []int{6, 9}},
			{Op: api.Empty},
			{Op: api.And, Kids: []int{11}},
		},
		Calls: []Name{{"B", 6}},
	})
}

// The examples of the chapter.
func TestExamples(t *testing.T) {
	f, err := Parse("A <- 'ab' A /")
	want := with(api.Choice, with(api.Seq, literal("ab"), call(0)), empty)
	checkFile(t, "A <- 'ab' A /", f, err, file(t, []rule{{"A", 0, want}}, Name{"A", 10}))
	f, err = Parse("A <- (B <- c")
	checkFault(t, "A <- (B <- c", f, err, api.Syntax, 8)
}

// checkMarked checks that the syntax is wrong behind the mark ~, which is not in the string.
func checkMarked(t *testing.T, parse func(string) (File, error), before, marked string) {
	t.Helper()
	s := before + strings.Replace(marked, "~", "", 1)
	f, err := parse(s)
	checkFault(t, s, f, err, api.Syntax, len(before)+strings.Index(marked, "~"))
}

// P8.1, P8.2: tokens at places where they are wrong.
func TestWrongTokens(t *testing.T) {
	both := []string{
		// Close, prefixes and suffixes.
		"~)", "'a' ~)", "() ~)", "(()) ~) (", "/ ~)",
		"(&~)", "& ~)", "&~/", "!~/ 'a'", "& ~& 'a'", "! ~! 'a'", "& ~! 'a'", "& ~<- a",
		"~*", "~?", "~+", "/ ~*", "& ~*", "! ~? 'a'", "(~+)", "'a' / ~+",
		"'a'? ~?", "'a'* ~*", "'a'+ ~+", "'a'* ~?", "A+ ~*", "()? ~+",
		// Arrow.
		"~<-", "'a' ~<-", "/ ~<-", "(~<-", "(A ~<- 'a')", "((A) ~<-", "(A) ~<-", "!A ~<- 'a'", "&A ~<-", "A* ~<-", "(B A ~<-", "(/ A ~<- A",
		// The end, which is too early.
		"(~", "(  ~", "((~", "(() ~", "('a' / ~", "(A~", "&~", "!  ~", "'a' / & ~", "(!~", "& #\n ~",
	}
	for _, marked := range both {
		checkMarked(t, Expression, "", marked)
		checkMarked(t, Parse, "X <- ", marked)
		checkMarked(t, Parse, "X <- A / B Y <- ", marked)
	}
	for _, marked := range []string{
		"~", "  ~", "#\n~", "~<-", "~'a'", "~[a]", "~.", "~/", "~&", "~!", "~?", "~*", "~+", "~(", "~)", "\n~<- A",
		"A~", "A #\n~", "A ~B", "A ~'a'", "A ~[a]", "A ~.", "A ~/", "A ~&", "A ~!", "A ~?", "A ~*", "A ~+", "A ~(", "A ~)", "A ~B <- C",
		"A <- ~<-", "A <- B <- ~<-", "A <- B <- C ~)", "A <- B <- C D <- ~* <-",
	} {
		checkMarked(t, Parse, "", marked)
	}
	for _, marked := range []string{"A ~<-", "A ~<- <-", "A ~<- 'a'", "'a' A ~<- 'a'", "A / B #\n ~<-"} {
		checkMarked(t, Expression, "", marked)
	}
}

// P8.1, P8.2: tokens that cannot be read, before and behind wrong tokens.
func TestUnreadable(t *testing.T) {
	for _, marked := range []string{
		"~'a", "~\"a'", "~[a", "~$", "~\x00", "~\xff", "~1", "~<", "~-", "~# no line end", `~'\8'`, "~]",
		" ~'a", "A ~'a", "A B ~$", "'a' ~[", "& ~$", "(~%", "(A ~%", "A* ~$", "A / ~$", "A ~# no line end", "() #\n~$ )", "A ~<", "~$ A <-", "A A A ~< - ) 'b", "!A ~$ <-",
		// Wrong tokens before, and behind.
		"~) 'a", "'a' ~) 'a", "& ~/ $", "A* ~* $", "( / ~* # no line end", "~* A $ <-", "A ~$ ) *", "& ~$ &",
	} {
		checkMarked(t, Expression, "", marked)
		checkMarked(t, Parse, "X <- ", marked)
		checkMarked(t, Parse, "X <- B / C\nY <- ", marked)
	}
	for _, marked := range []string{
		"~$", "A ~$", "A ~< -", "A ~'b", "~'a", "~# A <- 'a'", "A <- B <- C ~$ <- D", "A <- B ~$ <-", "A ~# \x00<- 'a'",
		"~( $", "A ~B $", "A ~B '", "A ~) $", "~) $", "~<- $",
	} {
		checkMarked(t, Parse, "", marked)
	}
}

// P8.1: the offset of an error is that of lexer.Next, for every string that cannot be read after right tokens.
func TestOffsetOfNext(t *testing.T) {
	for _, before := range []string{"", "A", "A <-", "A <- b", "A <- b c", "A <- b / ", "A <- (", "A <- (b", "A <- &", "A <- 'a'*", "A <- b C <-"} {
		for c := range 256 {
			for _, behind := range []string{"", "'", "]", " <- )"} {
				s := before + " " + string([]byte{byte(c)}) + behind
				_, _, err := lexer.Next(s, len(before))
				if err == nil {
					continue
				}
				want := err.(api.Fault)
				f, err := Parse(s)
				checkFault(t, s, f, err, want.Code, want.At)
				if t.Failed() {
					return
				}
			}
		}
	}
}

// P8.1, P8.2: parentheses up to the depth MaxDepth.
func TestDepth(t *testing.T) {
	open := func(n int) string { return strings.Repeat("(", n) }
	shut := func(n int) string { return strings.Repeat(")", n) }
	within := func(n int, s string) string { return open(n) + s + shut(n) }
	const most = api.MaxDepth
	tests := []struct {
		s    string
		code api.Code
		at   int
		want items
	}{
		{s: within(most-1, "'a'"), want: class("a")},
		{s: within(most, "'a'"), want: class("a")},
		{s: within(most, ""), want: empty},
		{s: within(most+1, "'a'"), code: api.TooDeep, at: most},
		{s: within(most+2, ""), code: api.TooDeep, at: most},
		{s: within(10*most, ""), code: api.TooDeep, at: most},
		// Closed and opened again.
		{s: within(most, "") + within(most, ""), want: with(api.Seq, empty, empty)},
		{s: within(most-1, "()()"), want: with(api.Seq, empty, empty)},
		{s: within(most-1, "() / (())"), code: api.TooDeep, at: most + 5},
		{s: within(most, "") + within(most+1, ""), code: api.TooDeep, at: 3 * most},
		{s: open(most) + ")(" + shut(most), want: with(api.Seq, empty, empty)},
		{s: open(most) + ")((" + shut(most+1), code: api.TooDeep, at: most + 2},
		{s: strings.Repeat("()", 2*most), want: with(api.Seq, slices.Repeat([]items{empty}, 2*most)...)},
		{s: strings.Repeat("(", most) + "'a'" + strings.Repeat(")*", most), want: chain(api.Star, most)},
		{s: strings.Repeat("!(", most) + "'a'" + shut(most), want: chain(api.Not, most)},
		{s: strings.Repeat("!(", most+1) + "'a'" + shut(most+1), code: api.TooDeep, at: 2*most + 1},
		// The Open is wrong, whatever follows it.
		{s: open(most + 1), code: api.TooDeep, at: most},
		{s: open(most) + " ($", code: api.TooDeep, at: most + 1},
		{s: open(most) + "(*", code: api.TooDeep, at: most},
		{s: open(most+1) + shut(most+5), code: api.TooDeep, at: most},
		// Other errors come first.
		{s: open(most), code: api.Syntax, at: most},
		{s: open(most) + "*(", code: api.Syntax, at: most},
		{s: open(most) + "$(", code: api.Syntax, at: most},
		{s: "*" + open(most+1), code: api.Syntax, at: 0},
		{s: open(most) + " '(", code: api.Syntax, at: most + 1},
		{s: open(most) + shut(most+1) + open(most+1), code: api.Syntax, at: 2 * most},
		{s: within(most, "'('"), want: class("(")},
		{s: within(most, "[(] #(\n"), want: class("(")},
	}
	for _, x := range tests {
		f, err := Expression(x.s)
		g, errFile := Parse("A <- " + x.s)
		h, errLast := Parse("A <- " + within(most, "") + " B <- " + x.s)
		if x.want == nil {
			checkFault(t, x.s, f, err, x.code, x.at)
			checkFault(t, "A <- "+x.s, g, errFile, x.code, x.at+5)
			checkFault(t, "A <- .. B <- "+x.s, h, errLast, x.code, x.at+2*most+11)
			continue
		}
		checkFile(t, x.s, f, err, file(t, []rule{{root: x.want}}))
		checkFile(t, "A <- "+x.s, g, errFile, file(t, []rule{{"A", 0, x.want}}))
		checkFile(t, "A <- .. B <- "+x.s, h, errLast, file(t, []rule{{"A", 0, empty}, {"B", 2*most + 6, x.want}}))
	}
}

// chain returns an expression with so many nodes with an Op above one another.
func chain(op, n int) items {
	x := class("a")
	for range n {
		x = with(op, x)
	}
	return x
}

// P8.1: an Open that is wrong as the first or the second token is a matter of syntax, as there is no Open before it.
func TestOpenOutside(t *testing.T) {
	for at, s := range []string{strings.Repeat("(", 2*api.MaxDepth), "A" + strings.Repeat("(", 2*api.MaxDepth)} {
		f, err := Parse(s)
		checkFault(t, s, f, err, api.Syntax, at)
	}
}

// The model of wrong tokens: tokens are letters, of which regular expressions tell whether they are those of a file, without nested parentheses.
var (
	letters  = map[byte]string{'I': "x", 'A': "<-", '/': "/", '&': "&", '!': "!", '?': "?", '*': "*", '+': "+", '(': "(", ')': ")", '.': ".", 'L': "'l'", 'C': "[c]"}
	body     = `(?:[&!]?(?:I|[.LCP])[?*+]?|/)*`
	inner    = regexp.MustCompile(`\(` + body + `\)`)
	fileOf   = regexp.MustCompile(`^(?:DA` + body + `)+$`)
	exprOf   = regexp.MustCompile(`^` + body + `$`)
	bodyOnly = regexp.MustCompile(`IA`)
)

// wholeModel reports whether tokens are those of a file, or of an expression, without the End.
func wholeModel(tokens string, single bool) bool {
	tokens = bodyOnly.ReplaceAllString(tokens, "DA")
	for {
		next := inner.ReplaceAllString(tokens, "P")
		if next == tokens {
			break
		}
		tokens = next
	}
	if single {
		return exprOf.MatchString(tokens)
	}
	return fileOf.MatchString(tokens)
}

// beginsModel reports whether tokens are the beginning of those of a file or of an expression: it tries all that is needed to complete them.
func beginsModel(tokens string, single bool) bool {
	for _, more := range []string{"", "IA", "A", "."} {
		for n := range strings.Count(tokens, "(") + 1 {
			if wholeModel(tokens+more+strings.Repeat(")", n), single) {
				return true
			}
		}
	}
	return false
}

// wrongModel returns the index of the first wrong token, the number of tokens if it is the End, or -1.
func wrongModel(tokens string, single bool) int {
	for n := range len(tokens) {
		if !beginsModel(tokens[:n+1], single) {
			return n
		}
	}
	if !wholeModel(tokens, single) {
		return len(tokens)
	}
	return -1
}

// checkWrong checks the error of a string of tokens, each of which has a place of 4 bytes, with an unreadable token at its end or without.
func checkWrong(t *testing.T, tokens string, single bool) {
	t.Helper()
	var s strings.Builder
	for _, c := range []byte(tokens) {
		fmt.Fprintf(&s, "%-4s", letters[c])
	}
	parse, want := Parse, wrongModel(tokens, single)
	if single {
		parse = Expression
	}
	f, err := parse(s.String())
	if want >= 0 {
		checkFault(t, s.String(), f, err, api.Syntax, 4*want)
	} else if err != nil || len(f.Nodes) == 0 {
		t.Errorf("%q: %s, %v", s.String(), text(f), err)
	}
	if want < 0 {
		want = len(tokens)
	}
	f, err = parse(s.String() + "$")
	checkFault(t, s.String()+"$", f, err, api.Syntax, 4*want)
}

// each yields all strings of at most n letters.
func each(letters string, n int) func(yield func(string) bool) {
	return func(yield func(string) bool) {
		var all func(s string) bool
		all = func(s string) bool {
			if !yield(s) {
				return false
			}
			if len(s) == n {
				return true
			}
			for _, c := range letters {
				if !all(s + string(c)) {
					return false
				}
			}
			return true
		}
		all("")
	}
}

// P8.1, P8.2: the first wrong token of all short strings of tokens.
func TestAllShort(t *testing.T) {
	const all = "IA/&!?*+().LC"
	for tokens := range each(all, 3) {
		checkWrong(t, tokens, false)
		checkWrong(t, tokens, true)
		checkWrong(t, "IA"+tokens, false)
		checkWrong(t, "IAI*"+tokens, false)
		if t.Failed() {
			return
		}
	}
	for tokens := range each("IA/&*().", 4) {
		checkWrong(t, "IA"+tokens, false)
		checkWrong(t, "IA("+tokens, false)
		checkWrong(t, "("+tokens, true)
		if t.Failed() {
			return
		}
	}
}

// P8.1, P8.2: the first wrong token of long strings of tokens, which are right for a while.
func TestLong(t *testing.T) {
	r := rand.New(rand.NewPCG(8, 1))
	const all = "IIIA/&!?*+(().LC"
	for range 4000 {
		single := r.IntN(2) == 0
		tokens := "IA"
		if single {
			tokens = ""
		}
		for range r.IntN(25) {
			next := tokens + string(all[r.IntN(len(all))])
			if beginsModel(next, single) || r.IntN(15) == 0 {
				tokens = next
			}
		}
		checkWrong(t, tokens, single)
	}
}

// writer writes expressions whose parts are chosen by a source of numbers, with spacing that is chosen by another one.
type writer struct {
	parts, spaces *rand.Rand
	text          strings.Builder
	calls         []Name
}

var spacing = []string{"", "", "", " ", "\n", "\t", "\r", "\r\n", "#\n", "# A <- ' (\r\n \t", "  "}

// sign writes a token with spacing behind it, and returns its index.
func (w *writer) sign(s string) int {
	at := w.text.Len()
	w.text.WriteString(s)
	space := spacing[w.spaces.IntN(len(spacing))]
	// Two identifiers need spacing in between.
	if space == "" && lexer.Name(s) {
		space = "#\n"
	}
	w.text.WriteString(space)
	return at
}

// choose writes one of some signs, the first of which is nothing, and returns its index.
func (w *writer) choose(signs ...string) int {
	i := w.parts.IntN(len(signs))
	if i > 0 {
		w.sign(signs[i])
	}
	return i
}

func (w *writer) expression(depth int) items {
	kids := []items{w.sequence(depth)}
	for w.parts.IntN(3) == 0 {
		w.sign("/")
		kids = append(kids, w.sequence(depth))
	}
	return joined(api.Choice, kids)
}

func (w *writer) sequence(depth int) items {
	var kids []items
	for range w.parts.IntN(4) {
		before := w.choose("", "&", "!")
		x := w.primary(depth)
		if i := w.choose("", "*", "+", "?"); i > 0 {
			x = with([]int{0, api.Star, api.Plus, api.Opt}[i], x)
		}
		if before > 0 {
			x = with([]int{0, api.And, api.Not}[before], x)
		}
		kids = append(kids, x)
	}
	return joined(api.Seq, kids)
}

func (w *writer) primary(depth int) items {
	n := 6
	if depth > 0 {
		n = 10
	}
	switch i := w.parts.IntN(n); i {
	case 0, 1:
		name := []string{"A", "b", "_", "Ab_9"}[w.parts.IntN(4)]
		w.calls = append(w.calls, Name{name, w.sign(name)})
		return call(len(w.calls) - 1)
	case 2, 3:
		l := []string{"", "x", "/", "<-", "'", "abc", "\x80\n"}[w.parts.IntN(7)]
		form := `"` + l + `"`
		w.sign(form)
		return literal(l)
	case 4:
		w.sign("[a-c\\]]")
		return class("abc]")
	case 5:
		w.sign(".")
		return dot
	}
	w.sign("(")
	x := w.expression(depth - 1)
	w.sign(")")
	return x
}

// written returns a text and its file. The first number decides on the tokens, and the second one on spacing.
func written(t *testing.T, tokens, spaces uint64, single bool) (string, File) {
	w := &writer{parts: rand.New(rand.NewPCG(tokens, 1)), spaces: rand.New(rand.NewPCG(spaces, 2))}
	w.sign("")
	if single {
		root := w.expression(3)
		return w.text.String(), file(t, []rule{{root: root}}, w.calls...)
	}
	var rules []rule
	for range 1 + w.parts.IntN(4) {
		name := []string{"A", "B", "longer_1"}[w.parts.IntN(3)]
		at := w.sign(name)
		w.sign("<-")
		rules = append(rules, rule{name, at, w.expression(3)})
	}
	return w.text.String(), file(t, rules, w.calls...)
}

// P8.1, P8.2: files and expressions of all kinds come out as they were written.
func TestWritten(t *testing.T) {
	for seed := range uint64(3000) {
		s, want := written(t, seed, seed, false)
		f, err := Parse(s)
		checkFile(t, s, f, err, want)
		s, want = written(t, seed, seed, true)
		f, err = Expression(s)
		checkFile(t, s, f, err, want)
	}
}

// bare returns a file without offsets.
func bare(f File) File {
	b := File{Nodes: f.Nodes}
	for _, d := range f.Rules {
		b.Rules = append(b.Rules, Definition{Name: d.Name, Root: d.Root})
	}
	for _, n := range f.Calls {
		b.Calls = append(b.Calls, Name{Text: n.Text})
	}
	return b
}

// P8.4: spacing changes nothing but the offsets.
func TestSpacing(t *testing.T) {
	differ := 0
	for seed := range uint64(1000) {
		for _, single := range []bool{false, true} {
			parse := Parse
			if single {
				parse = Expression
			}
			s, _ := written(t, seed, 1, single)
			u, _ := written(t, seed, 2, single)
			f, err := parse(s)
			g, errOther := parse(u)
			if err != nil || errOther != nil || !Same(bare(f), bare(g)) {
				t.Errorf("%q and %q: %s, %v and %s, %v", s, u, text(f), err, text(g), errOther)
			}
			if !Same(f, g) {
				differ++
			}
		}
	}
	if differ == 0 {
		t.Error("no spacing changed an offset")
	}
	f, err := Parse("A<-'a'B/!C*(.)B<-")
	g, errOther := Parse(" A # <-\n<-\r\n'a'\tB / ! C * ( . )\n#\n#\nB <- # end\n")
	if err != nil || errOther != nil || !Same(bare(f), bare(g)) || Same(f, g) {
		t.Error(text(f), err, text(g), errOther)
	}
}

// P8.1: valid grammars come out of files whose names are defined, so the nodes are well made and in post-order.
func TestValid(t *testing.T) {
	for seed := range uint64(500) {
		s, _ := written(t, seed, 3, false)
		f, err := Parse(s)
		if err != nil {
			t.Fatal(s, err)
		}
		g := api.Grammar{Nodes: f.Nodes}
		for i, d := range f.Rules {
			g.Rules = append(g.Rules, api.Rule{Name: fmt.Sprint("r", i), Root: d.Root})
		}
		for i, n := range g.Nodes {
			if n.Op == api.Call {
				g.Nodes[i].Rule = n.Rule % len(g.Rules)
			}
		}
		if err := gram.Check(g); err != nil {
			t.Errorf("%q: %v", s, err)
		}
	}
}

// P8.3: files that differ in one place alone are not the same.
func TestSame(t *testing.T) {
	const s = "A <- 'ab' B / !C*\nB <- [a-c]? A"
	whole := func() File {
		f, err := Parse(s)
		if err != nil {
			t.Fatal(err)
		}
		return f
	}
	if !Same(whole(), whole()) {
		t.Error("equal files are not the same")
	}
	changes := map[string]func(f *File){
		"the name of a rule":         func(f *File) { f.Rules[1].Name = "b" },
		"the offset of a rule":       func(f *File) { f.Rules[1].At++ },
		"the root of a rule":         func(f *File) { f.Rules[0].Root-- },
		"a rule more":                func(f *File) { f.Rules = append(f.Rules, Definition{}) },
		"a rule less":                func(f *File) { f.Rules = f.Rules[:1] },
		"no rules":                   func(f *File) { f.Rules = nil },
		"rules in another order":     func(f *File) { slices.Reverse(f.Rules) },
		"the Op of a node":           func(f *File) { f.Nodes[len(f.Nodes)-1].Op = api.Choice },
		"a kid of a node":            func(f *File) { f.Nodes[2].Kids[1]-- },
		"a kid more":                 func(f *File) { f.Nodes[2].Kids = append(f.Nodes[2].Kids, 1) },
		"a kid less":                 func(f *File) { f.Nodes[2].Kids = f.Nodes[2].Kids[:1] },
		"no kids":                    func(f *File) { f.Nodes[2].Kids = nil },
		"the Rule of a node":         func(f *File) { f.Nodes[3].Rule = 2 },
		"the Set of a node":          func(f *File) { f.Nodes[0].Set[3]++ },
		"a node more":                func(f *File) { f.Nodes = append(f.Nodes, api.Node{}) },
		"a node less":                func(f *File) { f.Nodes = f.Nodes[:len(f.Nodes)-1] },
		"no nodes":                   func(f *File) { f.Nodes = nil },
		"the text of a call":         func(f *File) { f.Calls[2].Text = "" },
		"the offset of a call":       func(f *File) { f.Calls[0].At = -1 },
		"a call more":                func(f *File) { f.Calls = append(f.Calls, Name{}) },
		"a call less":                func(f *File) { f.Calls = f.Calls[1:] },
		"no calls":                   func(f *File) { f.Calls = nil },
		"calls in another order":     func(f *File) { slices.Reverse(f.Calls) },
		"a file without all of them": func(f *File) { *f = File{} },
	}
	for name, change := range changes {
		f := whole()
		change(&f)
		if Same(whole(), f) || Same(f, whole()) {
			t.Errorf("a file is the same with a change of %s", name)
		}
		if !Same(f, f) {
			t.Errorf("a file with a change of %s is not the same as itself", name)
		}
	}
}

// P8.3: Same agrees with the other comparison for all pairs of short files.
func TestSamePairs(t *testing.T) {
	var l []File
	for _, s := range []string{"A<-", "A <-", "A<-B", "A<-b", "A<- B", "A<-/", "A<-B/", "A<-/B", "A<-'a'", "A<-'b'", "A<-.", "A<-!.", "A<-.*", "A<-..", "A<-B<-", "A<-a B<-", "B<-"} {
		f, err := Parse(s)
		if err != nil {
			t.Fatal(s, err)
		}
		l = append(l, f)
	}
	l = append(l, File{}, File{Nodes: []api.Node{{Op: -1, Kids: []int{-5}, Rule: math.MaxInt}}}, File{Calls: []Name{{"", math.MinInt}}}, File{Rules: []Definition{{Root: -1}}})
	for _, a := range l {
		for _, b := range l {
			if Same(a, b) != equal(a, b) {
				t.Errorf("%s and %s: %v", text(a), text(b), Same(a, b))
			}
		}
	}
}

// Rule 4: nil and empty slices are the same.
func TestSameEmpty(t *testing.T) {
	a := File{Rules: []Definition{}, Nodes: []api.Node{}, Calls: []Name{}}
	if !Same(a, File{}) || !Same(File{}, a) || !Same(File{}, File{}) {
		t.Error("files with no elements are not the same")
	}
	if !Same(File{Nodes: []api.Node{{Kids: []int{}}}}, File{Nodes: []api.Node{{}}}) {
		t.Error("nodes without kids are not the same")
	}
}

// Rule 5: Same changes neither files nor the unused capacity in them.
func TestSameKeeps(t *testing.T) {
	f := File{
		Rules: append(make([]Definition, 0, 9), Definition{"A", 0, 1}),
		Nodes: append(make([]api.Node, 0, 9), api.Node{}, api.Node{Op: api.Opt, Kids: append(make([]int, 0, 9), 0)}),
		Calls: append(make([]Name, 0, 9), Name{"A", 1}),
	}
	f.Rules[:2][1].Name = "rule"
	f.Nodes[:3][2].Op = 7
	f.Nodes[1].Kids[:2][1] = 7
	f.Calls[:2][1].Text = "call"
	before := text(File{f.Rules[:9], f.Nodes[:9], f.Calls[:9]}) + fmt.Sprint(f.Nodes[1].Kids[:9])
	if !Same(f, f) {
		t.Error("a file is not the same as itself")
	}
	if after := text(File{f.Rules[:9], f.Nodes[:9], f.Calls[:9]}) + fmt.Sprint(f.Nodes[1].Kids[:9]); after != before {
		t.Errorf("%s became %s", before, after)
	}
}

// Rule 5: names share no memory with the string, nor with each other.
func TestNamesAreNew(t *testing.T) {
	s := "Name <- Name Other / Name"
	f, err := Parse(s)
	if err != nil {
		t.Fatal(err)
	}
	names := []string{f.Rules[0].Name}
	for _, n := range f.Calls {
		names = append(names, n.Text)
	}
	from := uintptr(unsafe.Pointer(unsafe.StringData(s)))
	for _, name := range names {
		if at := uintptr(unsafe.Pointer(unsafe.StringData(name))); from <= at && at < from+uintptr(len(s)) {
			t.Errorf("%s is a part of the string", name)
		}
	}
}

// Rule 5, and rule 7 of the language: no two lists of kids share memory, and no two files do.
func TestKidsAreNew(t *testing.T) {
	const s = "A <- 'ab' B? / !C* ('a' / B) / &D+\nB <- 'abc' 'd' A"
	f, _ := Parse(s)
	g, _ := Parse(s)
	for i, n := range f.Nodes {
		more := n.Kids[:cap(n.Kids)]
		for k := range more {
			more[k] = -1 - i
		}
	}
	for i, n := range f.Nodes {
		for _, kid := range n.Kids {
			if kid != -1-i {
				t.Errorf("node %d shares its kids with another one", i)
			}
		}
	}
	f.Rules[0].Name, f.Calls[0].Text, f.Nodes[0].Op = "", "", -1
	again, err := Parse(s)
	checkFile(t, s, again, err, g)
}

// P1: long files, with many definitions, parts and bytes, and with many Open tokens one after another.
func TestLarge(t *testing.T) {
	const n = 100000
	for _, test := range []struct {
		s            string
		nodes, calls int
	}{
		{"A <-" + strings.Repeat(" B", n), n + 1, n},
		{"A <-" + strings.Repeat(" /", n), n + 2, 0},
		{"A <- '" + strings.Repeat("x", n) + "'", n + 1, 0},
		{"A <- " + strings.Repeat("()", n), n + 1, 0},
		{"A <- " + strings.Repeat("!.*", n), 3*n + 1, 0},
		{strings.Repeat("A<-B ", n), n, n},
		{"A <- B" + strings.Repeat(" \n", n), 1, 1},
		{strings.Repeat("#\n", n) + "A <- " + strings.Repeat("x", n), 1, 1},
	} {
		f, err := Parse(test.s)
		if err != nil || len(f.Nodes) != test.nodes || len(f.Calls) != test.calls {
			t.Errorf("%.30q: %d nodes, %d calls, %v", test.s, len(f.Nodes), len(f.Calls), err)
		}
	}
	s := "A <- " + strings.Repeat("(", n)
	f, err := Parse(s)
	checkFault(t, s, f, err, api.TooDeep, 5+api.MaxDepth)
}

// P8.1: the errors are found by their codes.
func TestErrorsAre(t *testing.T) {
	if _, err := Parse(""); !errors.Is(err, api.Syntax) {
		t.Error(err)
	}
	if _, err := Expression(strings.Repeat("(", 201)); !errors.Is(err, api.TooDeep) {
		t.Error(err)
	}
}

// P1: all short strings of some bytes, and what is made of random bytes, have a file or an error.
func TestEveryString(t *testing.T) {
	r := rand.New(rand.NewPCG(8, 2))
	check := func(s string) {
		for _, parse := range []func(string) (File, error){Parse, Expression} {
			f, err := parse(s)
			if (err == nil) == zero(f) {
				t.Errorf("%q: %s, %v", s, text(f), err)
			}
		}
	}
	for s := range each("a<-( )'[]*!", 5) {
		check("A<-" + s)
	}
	for range 20000 {
		b := make([]byte, r.IntN(12))
		for i := range b {
			b[i] = byte(r.IntN(256))
		}
		check(string(b))
	}
}
