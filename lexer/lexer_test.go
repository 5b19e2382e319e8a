package lexer

import (
	"errors"
	"fmt"
	"math"
	"regexp"
	"slices"
	"strconv"
	"strings"
	"testing"
	"unicode/utf8"

	"vetch/api"
)

// The model tells tokens in another way, by regular expressions. These work on runes, so the model reads each byte as the rune of its number.
const character = `(\\[nrt'"\[\]\\]|\\[0-2][0-7][0-7]|\\[0-7][0-7]?|[^\\])`

var (
	spacing   = regexp.MustCompile("^(?:[ \t]|\r\n|\n|\r|#[^\n\r]*(?:\r\n|\n|\r))*")
	ident     = regexp.MustCompile(`^[A-Za-z_][A-Za-z0-9_]*`)
	sign      = regexp.MustCompile(`^(?:<-|[/&!?*+().])`)
	oneChar   = regexp.MustCompile(`^` + character)
	someRange = regexp.MustCompile(`^(?:` + character + `-` + character + `|` + character + `)`)
)

// signKinds are the kinds of the signs.
var signKinds = map[string]int{"<-": Arrow, "/": Slash, "&": Amp, "!": Bang, "?": Quest, "*": Times, "+": Cross, "(": Open, ")": Close, ".": Dot}

// runes returns the string with the rune of the number of each byte.
func runes(s string) string {
	l := make([]rune, len(s))
	for i := range l {
		l[i] = rune(s[i])
	}
	return string(l)
}

// value returns the byte of a character.
func value(char string) byte {
	escapes := map[string]byte{`\n`: 10, `\r`: 13, `\t`: 9, `\'`: 39, `\"`: 34, `\[`: 91, `\]`: 93, `\\`: 92}
	if c, ok := escapes[char]; ok {
		return c
	}
	if digits, ok := strings.CutPrefix(char, `\`); ok {
		n, _ := strconv.ParseInt(digits, 8, 0)
		return byte(n)
	}
	r, _ := utf8.DecodeRuneInString(char)
	return byte(r)
}

// setOf returns the set of the bytes of a string.
func setOf(s string) api.Set {
	var set api.Set
	for i := range len(s) {
		set[s[i]/64] |= 1 << (s[i] % 64)
	}
	return set
}

// setFrom returns the set of the bytes from lo to hi.
func setFrom(lo, hi int) api.Set {
	var set api.Set
	for c := lo; c <= hi; c++ {
		set[c/64] |= 1 << (c % 64)
	}
	return set
}

func join(l ...api.Set) api.Set {
	var set api.Set
	for _, s := range l {
		for i := range set {
			set[i] |= s[i]
		}
	}
	return set
}

// modelLiteral returns the literal at the beginning of s, and the rest of s.
func modelLiteral(s string) (t Token, rest string, ok bool) {
	mark := s[:1]
	t.Kind = Literal
	for rest = s[1:]; !strings.HasPrefix(rest, mark); {
		char := oneChar.FindString(rest)
		if char == "" {
			return Token{}, "", false
		}
		t.Text, rest = t.Text+string([]byte{value(char)}), rest[len(char):]
	}
	return t, rest[1:], true
}

// modelClass returns the class at the beginning of s, and the rest of s.
func modelClass(s string) (t Token, rest string, ok bool) {
	t.Kind = Class
	for rest = s[1:]; !strings.HasPrefix(rest, "]"); {
		l := someRange.FindStringSubmatch(rest)
		if l == nil {
			return Token{}, "", false
		}
		lo, hi := value(l[1]+l[3]), value(l[2]+l[3])
		t.Set, rest = join(t.Set, setFrom(int(lo), int(hi))), rest[len(l[0]):]
	}
	return t, rest[1:], true
}

// modelToken returns the token at the beginning of s, and the rest of s.
func modelToken(s string) (t Token, rest string, ok bool) {
	if s == "" {
		return Token{Kind: End}, "", true
	}
	if text := ident.FindString(s); text != "" {
		return Token{Kind: Ident, Text: text}, s[len(text):], true
	}
	if text := sign.FindString(s); text != "" {
		return Token{Kind: signKinds[text]}, s[len(text):], true
	}
	switch s[0] {
	case '\'', '"':
		return modelLiteral(s)
	case '[':
		return modelClass(s)
	}
	return Token{}, "", false
}

// modelNext is Next of the model. The fault is zero if there is none.
func modelNext(s string, at int) (t Token, next int, f api.Fault) {
	text := runes(s[at:])
	text = text[len(spacing.FindString(text)):]
	begin := len(s) - utf8.RuneCountInString(text)
	t, rest, ok := modelToken(text)
	if !ok {
		return Token{}, 0, api.Fault{Code: api.Syntax, At: begin}
	}
	t.At = begin
	return t, len(s) - utf8.RuneCountInString(rest), api.Fault{}
}

// modelTokens is Tokens of the model.
func modelTokens(s string) (l []Token, f api.Fault) {
	for at := 0; ; {
		t, next, f := modelNext(s, at)
		if f != (api.Fault{}) {
			return nil, f
		}
		l = append(l, t)
		if t.Kind == End {
			return l, f
		}
		at = next
	}
}

// isFault reports whether an error is this fault itself, or nil for the zero fault.
func isFault(err error, f api.Fault) bool {
	if f == (api.Fault{}) {
		return err == nil
	}
	got, ok := err.(api.Fault)
	return ok && got == f
}

// sameNext compares Next with the model at every index of s.
func sameNext(t *testing.T, s string) {
	t.Helper()
	for at := range len(s) + 1 {
		want, wantNext, f := modelNext(s, at)
		if got, next, err := Next(s, at); got != want || next != wantNext || !isFault(err, f) {
			t.Fatalf("Next(%q, %d) is %v, %d, %v, not %v, %d, %v", s, at, got, next, err, want, wantNext, f)
		}
	}
}

// sameTokens compares Tokens with the model.
func sameTokens(t *testing.T, s string) {
	t.Helper()
	want, f := modelTokens(s)
	if got, err := Tokens(s); !slices.Equal(got, want) || !isFault(err, f) {
		t.Fatalf("Tokens(%q) is %v, %v, not %v, %v", s, got, err, want, f)
	}
}

// texts returns all strings of the bytes of an alphabet up to a length.
func texts(alphabet string, length int) []string {
	l := []string{""}
	for from := 0; length > 0; length-- {
		to := len(l)
		for _, s := range l[from:to] {
			for i := range len(alphabet) {
				l = append(l, s+alphabet[i:i+1])
			}
		}
		from = to
	}
	return l
}

// step is what Next returns for a string and an index.
type step struct {
	s    string
	at   int
	want Token
	next int
}

func checkSteps(t *testing.T, l []step) {
	t.Helper()
	for _, x := range l {
		if got, next, err := Next(x.s, x.at); got != x.want || next != x.next || err != nil {
			t.Errorf("Next(%q, %d) is %v, %d, %v, not %v, %d", x.s, x.at, got, next, err, x.want, x.next)
		}
	}
}

// wrong is an index at which Next finds no token in a string, and the offset of the error.
type wrong struct {
	s        string
	at, with int
}

func checkWrong(t *testing.T, l []wrong) {
	t.Helper()
	for _, x := range l {
		got, next, err := Next(x.s, x.at)
		if got != (Token{}) || next != 0 || !isFault(err, api.Fault{Code: api.Syntax, At: x.with}) {
			t.Errorf("Next(%q, %d) is %v, %d, %#v, not an error at %d", x.s, x.at, got, next, err, x.with)
		}
	}
}

// P4.1: every kind of token, and the end.
func TestNextKinds(t *testing.T) {
	checkSteps(t, []step{
		{"a", 0, Token{Kind: Ident, Text: "a"}, 1},
		{"<-", 0, Token{Kind: Arrow}, 2},
		{"/", 0, Token{Kind: Slash}, 1},
		{"&", 0, Token{Kind: Amp}, 1},
		{"!", 0, Token{Kind: Bang}, 1},
		{"?", 0, Token{Kind: Quest}, 1},
		{"*", 0, Token{Kind: Times}, 1},
		{"+", 0, Token{Kind: Cross}, 1},
		{"(", 0, Token{Kind: Open}, 1},
		{")", 0, Token{Kind: Close}, 1},
		{".", 0, Token{Kind: Dot}, 1},
		{"'a'", 0, Token{Kind: Literal, Text: "a"}, 3},
		{`"a"`, 0, Token{Kind: Literal, Text: "a"}, 3},
		{"[a]", 0, Token{Kind: Class, Set: setOf("a")}, 3},
		{"", 0, Token{Kind: End}, 0},
		{"a", 1, Token{Kind: End, At: 1}, 1},
		{"<-<-", 0, Token{Kind: Arrow}, 2},
		{"<-<-", 2, Token{Kind: Arrow, At: 2}, 4},
		{"A<-'b'[a-c].", 0, Token{Kind: Ident, Text: "A"}, 1},
		{"A<-'b'[a-c].", 1, Token{Kind: Arrow, At: 1}, 3},
		{"A<-'b'[a-c].", 3, Token{Kind: Literal, At: 3, Text: "b"}, 6},
		{"A<-'b'[a-c].", 6, Token{Kind: Class, At: 6, Set: setOf("abc")}, 11},
		{"A<-'b'[a-c].", 11, Token{Kind: Dot, At: 11}, 12},
		{"A<-'b'[a-c].", 12, Token{Kind: End, At: 12}, 12},
	})
	for text, kind := range signKinds {
		checkSteps(t, []step{
			{"  " + text + "  ", 1, Token{Kind: kind, At: 2}, 2 + len(text)},
			{"a" + text + "a", 1, Token{Kind: kind, At: 1}, 1 + len(text)},
		})
	}
}

// P4.1: an index inside of a token, a comment or a line end begins with what is there.
func TestNextInside(t *testing.T) {
	checkSteps(t, []step{
		{"abc1", 2, Token{Kind: Ident, At: 2, Text: "c1"}, 4},
		{"#ab\nc", 1, Token{Kind: Ident, At: 1, Text: "ab"}, 3},
		{"#ab\nc", 3, Token{Kind: Ident, At: 4, Text: "c"}, 5},
		{"#(#\nc", 2, Token{Kind: Ident, At: 4, Text: "c"}, 5},
		{"\r\na", 1, Token{Kind: Ident, At: 2, Text: "a"}, 3},
		{"#\r\na", 2, Token{Kind: Ident, At: 3, Text: "a"}, 4},
		{"'ab'", 1, Token{Kind: Ident, At: 1, Text: "ab"}, 3},
		{"'a'b'", 2, Token{Kind: Literal, At: 2, Text: "b"}, 5},
		{`'a\'b'`, 3, Token{Kind: Literal, At: 3, Text: "b"}, 6},
		{"[a[b]", 2, Token{Kind: Class, At: 2, Set: setOf("b")}, 5},
		{"[ (]", 1, Token{Kind: Open, At: 2}, 3},
	})
	checkWrong(t, []wrong{
		{"<-", 1, 1},
		{"a12", 1, 1},
		{"[a-c]", 2, 2},
		{"[a]", 2, 2},
		{"'a'", 2, 2},
		{`'\n'`, 1, 1},
		{"#1\n", 1, 1},
	})
}

// P4.1: all kinds of spacing, before a token and before the end.
func TestNextSpacing(t *testing.T) {
	kinds := []string{
		" ", "\t", "\n", "\r", "\r\n", "\n\r", "   ", " \t \t", "\n\n\r\r", "\r\n\r\n",
		"#\n", "#\r", "#\r\n", "# a\n", "# a\r", "# a\r\n", "##\n", "#a # b\n", "#'\n", "#[\"<-\n", "#\t\n", "#\x00\x80\xff\n", "#\\\n", "#\\n\n",
		"#a\n#b\r#c\r\n", "#\n#\r#\r\n", "#\n\n", "#\r\r\n",
	}
	for _, a := range kinds {
		for _, b := range append(kinds, "") {
			n := len(a + b)
			checkSteps(t, []step{
				{a + b, 0, Token{Kind: End, At: n}, n},
				{a + b + "a", 0, Token{Kind: Ident, At: n, Text: "a"}, n + 1},
				{a + b + "<- ", 0, Token{Kind: Arrow, At: n}, n + 2},
				{"x" + a + b + "'y'", 1, Token{Kind: Literal, At: n + 1, Text: "y"}, n + 4},
				{"x" + a, 0, Token{Kind: Ident, Text: "x"}, 1},
			})
			checkWrong(t, []wrong{
				{a + b + "1", 0, n},
				{a + b + "<", 0, n},
				{a + b + "'", 0, n},
				{a + b + "[", 0, n},
				{a + b + "#", 0, n},
				{a + b + "# a", 0, n},
				{"x" + a + b + "\v", 1, n + 1},
			})
		}
	}
}

// P4.1: comments without a line end are wrong, also at the end of a string.
func TestNextComment(t *testing.T) {
	checkWrong(t, []wrong{
		{"#", 0, 0},
		{"# a", 0, 0},
		{"#a#b", 0, 0},
		{"#a#b", 2, 2},
		{" #", 0, 1},
		{"#\n#", 0, 2},
		{"#\n #a", 0, 3},
		{"a #b", 1, 2},
		{`#\n`, 0, 0},
		{"#\v\f\x85\xe2\x80\xa8", 0, 0},
	})
	checkSteps(t, []step{
		{"a#b", 0, Token{Kind: Ident, Text: "a"}, 1},
		{"a#b\n", 1, Token{Kind: End, At: 4}, 4},
		{"'#'", 0, Token{Kind: Literal, Text: "#"}, 3},
		{"[#]", 0, Token{Kind: Class, Set: setOf("#")}, 3},
	})
}

// P4.1: identifiers are as long as they can be.
func TestNextIdent(t *testing.T) {
	for _, s := range []string{"a", "z", "A", "Z", "_", "__", "aZ", "a0", "a9", "_1", "_a_", "Ab3_c", "x0123456789", "abcdefghijklmnopqrstuvwxyz_ABCDEFGHIJKLMNOPQRSTUVWXYZ"} {
		for _, after := range []string{"", " ", "\n", "<-", "<", "/", "-", ".", "(", ")", "'", "[", "]", "#", "@", "`", "{", ":", "^", "\x00", "\x80", "\xe9", "\xff", "é"} {
			checkSteps(t, []step{
				{s + after, 0, Token{Kind: Ident, Text: s}, len(s)},
				{"(\t" + s + after, 1, Token{Kind: Ident, At: 2, Text: s}, 2 + len(s)},
			})
		}
	}
}

// P4.1: every byte that begins no token, alone and before a letter.
func TestNextWrong(t *testing.T) {
	begins := " \t\n\r'\"[_/&!?*+()." + "abcdefghijklmnopqrstuvwxyz" + "ABCDEFGHIJKLMNOPQRSTUVWXYZ"
	for c := range 256 {
		s := string([]byte{byte(c)})
		if !strings.Contains(begins, s) {
			checkWrong(t, []wrong{{s, 0, 0}, {s + "a", 0, 0}, {"a " + s + "a", 1, 2}})
		}
	}
	checkWrong(t, []wrong{
		{"0", 0, 0},
		{"1a", 0, 0},
		{"9_", 0, 0},
		{"<", 0, 0},
		{"< -", 0, 0},
		{"<<-", 0, 0},
		{"<a", 0, 0},
		{"<\n", 0, 0},
		{"-", 0, 0},
		{"->", 0, 0},
		{" <", 0, 1},
		{"a<", 1, 1},
		{"]", 0, 0},
		{"é", 0, 0},
		{`\n`, 0, 0},
	})
}

// P4.1: literals with every kind of character.
func TestNextLiteral(t *testing.T) {
	for _, x := range []struct{ s, text string }{
		{"''", ""},
		{`""`, ""},
		{"'ab c'", "ab c"},
		{`'a"b'`, `a"b`},
		{`"a'b"`, "a'b"},
		{`'"'`, `"`},
		{`"'"`, "'"},
		{`'\''`, "'"},
		{`"\""`, `"`},
		{`'\"'`, `"`},
		{`"\'"`, "'"},
		{`'a\'\'b'`, "a''b"},
		{`'\\'`, `\`},
		{`"\\"`, `\`},
		{`'\\\''`, `\'`},
		{`'\[\]'`, "[]"},
		{`'[a-c]'`, "[a-c]"},
		{`'\n\r\t'`, "\n\r\t"},
		{"'\n'", "\n"},
		{"'\r'", "\r"},
		{"'\r\n\t'", "\r\n\t"},
		{"'# a\n'", "# a\n"},
		{`'\0'`, "\x00"},
		{`'\7\77\277'`, "\x07\x3f\xbf"},
		{`'\101\1012'`, "AA2"},
		{`'\377'`, "\x1f7"},
		{`'\47'`, "'"},
		{`"\42"`, `"`},
		{`'\18'`, "\x018"},
		{"'\x00\x7f\x80\xc3\xff'", "\x00\x7f\x80\xc3\xff"},
		{"'é'", "é"},
	} {
		for _, after := range []string{"", "'", `"`, "a", "]", " ", `\`, "#"} {
			checkSteps(t, []step{
				{x.s + after, 0, Token{Kind: Literal, Text: x.text}, len(x.s)},
				{"a " + x.s + after, 1, Token{Kind: Literal, At: 2, Text: x.text}, 2 + len(x.s)},
			})
		}
	}
}

// P4.1: literals that do not end, and those with what is no character.
func TestNextLiteralWrong(t *testing.T) {
	for _, s := range []string{
		"'", `"`, "'a", `"a`, `'a"`, `"a'`, `'"`, `"'`, "'a\n", "'a # b\n",
		`'\`, `"\`, `'a\`, `'\'`, `"\"`, `'a\'`, `'\\\'`, `'\n`, `'\1`, `'\47`, `'\\`,
		`'\8'`, `'\9'`, `'\a'`, `'\-'`, `'\N'`, `'\x41'`, `'\ '`, "'\\\n'", "'\\\x00'", "'\\\x80'", "'\\\xff'", `'a\8'`, `'a\8`, `'a\b' 'c'`, `"\8"`, `"ab\c"`,
	} {
		checkWrong(t, []wrong{{s, 0, 0}, {" \n" + s, 0, 2}, {"a" + s, 1, 1}})
	}
}

// P4.1: classes with every kind of character and of range.
func TestNextClass(t *testing.T) {
	for _, x := range []struct {
		s   string
		set api.Set
	}{
		{"[]", api.Set{}},
		{"[a]", setOf("a")},
		{"[abc]", setOf("abc")},
		{"[aa]", setOf("a")},
		{"[a-c]", setOf("abc")},
		{"[a-cx]", setOf("abcx")},
		{"[xa-c]", setOf("abcx")},
		{"[a-cb-d]", setOf("abcd")},
		{"[a-zA-Z_0-9]", join(setFrom('a', 'z'), setFrom('A', 'Z'), setFrom('0', '9'), setOf("_"))},
		{"[a-a]", setOf("a")},
		{"[c-a]", api.Set{}},
		{"[b-a]", api.Set{}},
		{"[b-ab]", setOf("b")},
		{"[zc-a]", setOf("z")},
		{`[\277-\200]`, api.Set{}},
		{"[\x00-\xff]", setFrom(0, 255)},
		{"[\xff-\x00]", api.Set{}},
		{`[\000-\277]`, setFrom(0, 191)},
		{"[\xfe-\xff]", setFrom(254, 255)},
		{"[?-A]", setFrom('?', 'A')},
		{"[a-b-d]", setOf("ab-d")},
		{"[a-bc-d-]", setOf("abcd-")},

		{"[-]", setOf("-")},
		{"[-a]", setOf("-a")},
		{"[-ac]", setOf("-ac")},
		{"[---]", setOf("-")},
		{"[----]", setOf("-")},
		{"[--a]", setFrom('-', 'a')},
		{"[+--]", setFrom('+', '-')},
		{"[a--]", api.Set{}},
		{"[a-]]", api.Set{}},
		{"[A-]]", setFrom('A', ']')},
		{"[A-]x]", join(setFrom('A', ']'), setOf("x"))},
		{"[--]]", setFrom('-', ']')},
		{"[A-]-]", join(setFrom('A', ']'), setOf("-"))},
		{`[a\055]`, setOf("a-")},
		{`[a\055c]`, setOf("a-c")},
		{`[\055-/]`, setOf("-./")},
		{`[+-\055]`, setOf("+,-")},
		{`[a-\]]`, api.Set{}},
		{`[A-\]]`, setFrom('A', ']')},

		{`[\]]`, setOf("]")},
		{`[\]a]`, setOf("]a")},
		{`[a\]]`, setOf("]a")},
		{`[\]-a]`, setFrom(']', 'a')},
		{`[\[]`, setOf("[")},
		{"[[]", setOf("[")},
		{"[[a]", setOf("[a")},
		{"[[-]]", setFrom('[', ']')},
		{`[\[-\]]`, setFrom('[', ']')},
		{`[\\]`, setOf(`\`)},
		{`[\\-]]`, setOf(`\]`)},
		{`[\n\r\t]`, setOf("\n\r\t")},
		{`[\t-\r]`, setFrom(9, 13)},
		{`['"]`, setOf(`'"`)},
		{`[\'\"]`, setOf(`'"`)},
		{"[ #]", setOf(" #")},
		{"[\n\r]", setOf("\n\r")},
		{"[\r\n\t]", setOf("\r\n\t")},
		{"[ \n]", setOf(" \n")},
		{`[\0]`, setOf("\x00")},
		{`[\101-\103]`, setOf("ABC")},
		{`[\1012]`, setOf("A2")},
		{`[\7-\11]`, setFrom(7, 9)},
		{`[\377]`, setOf("\x1f7")},
		{`[\135]`, setOf("]")},
		{"[\x80\xff]", setOf("\x80\xff")},
		{"[\x80-\xff]", setFrom(128, 255)},
		{"[é]", setOf("\xc3\xa9")},
		{"[^a]", setOf("^a")},
	} {
		for _, after := range []string{"", "a", "[", "]", "-", "'", " ", `\`, "#"} {
			checkSteps(t, []step{
				{x.s + after, 0, Token{Kind: Class, Set: x.set}, len(x.s)},
				{"a " + x.s + after, 1, Token{Kind: Class, At: 2, Set: x.set}, 2 + len(x.s)},
			})
		}
	}
	checkSteps(t, []step{
		{"[]]", 0, Token{Kind: Class}, 2},
		{"[]a]", 0, Token{Kind: Class}, 2},
		{"[]-]", 0, Token{Kind: Class}, 2},
		{"[-]-]", 0, Token{Kind: Class, Set: setOf("-")}, 3},
		{"[a]-z]", 0, Token{Kind: Class, Set: setOf("a")}, 3},
		{"[a][b]", 0, Token{Kind: Class, Set: setOf("a")}, 3},
	})
}

// P4.1: classes that do not end, and those with what is no character; a ] as the end of a range ends no class.
func TestNextClassWrong(t *testing.T) {
	for _, s := range []string{
		"[", "[a", "[a-", "[a-c", "[-", "[--", "[a ", "[a # b\n", "[[", "[a-]", "[A-]", "[--]", "[a-]b", "[a-c--]", "[a-c-d-]", "[[-]",
		`[\`, `[a\`, `[\]`, `[a\]`, `[a-\]`, `[a-\`, `[\\\]`, `[\n`, `[\135`, `[\1-\]`,
		`[\8]`, `[\9]`, `[\a]`, `[\-]`, `[a\-c]`, `[a-\8]`, `[\8-a]`, `[\N]`, `[\^a]`, `[\ ]`, "[\\\n]", "[\\\x80]", "[a-\\\xff]", `[a\8`, `[a\b][c]`,
	} {
		checkWrong(t, []wrong{{s, 0, 0}, {"\t\r" + s, 0, 2}, {"a" + s, 1, 1}})
	}
}

// P4.1: ranges of all pairs of bytes.
func TestNextRanges(t *testing.T) {
	for lo := range 256 {
		for hi := range 256 {
			s := fmt.Sprintf("[%s-%s]", classChar(lo), classChar(hi))
			if got, next, err := Next(s, 0); got != (Token{Kind: Class, Set: setFrom(lo, hi)}) || next != len(s) || err != nil {
				t.Fatalf("Next(%q, 0) is %v, %d, %v", s, got, next, err)
			}
		}
	}
}

// classChar returns a character of a byte: the byte itself where this is one, and does not end a class.
func classChar(c int) string {
	if c == '\\' || c == ']' {
		return `\` + string(rune(c))
	}
	return string([]byte{byte(c)})
}

// P4.1: every index of all short strings, over the bytes that matter to each kind of token.
func TestNextShort(t *testing.T) {
	for _, x := range []struct {
		alphabet string
		length   int
	}{
		{"# \t\n\r", 6},
		{"#\n\ra", 6},
		{"a_Z09\xe9", 4},
		{"<-/&!?*+().a", 3},
		{`'"\47a`, 5},
		{`[]\-ac`, 6},
		{`[]\-15`, 6},
		{"[]-\x00\x80\xff", 5},
		{" \n\r#'\"[]\\-aZ_01<.\xc3", 3},
	} {
		for _, s := range texts(x.alphabet, x.length) {
			sameNext(t, s)
		}
	}
	for c := range 256 {
		for d := range 256 {
			pair := string([]byte{byte(c), byte(d)})
			for _, s := range []string{pair, "'" + pair + "'", "[" + pair + "]", "#" + pair + "\n"} {
				sameNext(t, s)
			}
		}
	}
}

// P4.2: the tokens of strings of every kind.
func TestTokens(t *testing.T) {
	for _, x := range []struct {
		s    string
		want []Token
	}{
		{"", []Token{{Kind: End}}},
		{" ", []Token{{Kind: End, At: 1}}},
		{" \t\r\n\n\r", []Token{{Kind: End, At: 6}}},
		{"#\n", []Token{{Kind: End, At: 2}}},
		{"# A <- 'b'\r\n #\r", []Token{{Kind: End, At: 15}}},
		{"a", []Token{{Kind: Ident, Text: "a"}, {Kind: End, At: 1}}},
		{"a ", []Token{{Kind: Ident, Text: "a"}, {Kind: End, At: 2}}},
		{"a#\n", []Token{{Kind: Ident, Text: "a"}, {Kind: End, At: 3}}},
		{" a", []Token{{Kind: Ident, At: 1, Text: "a"}, {Kind: End, At: 2}}},
		{"a b", []Token{{Kind: Ident, Text: "a"}, {Kind: Ident, At: 2, Text: "b"}, {Kind: End, At: 3}}},
		{"a#\rb", []Token{{Kind: Ident, Text: "a"}, {Kind: Ident, At: 3, Text: "b"}, {Kind: End, At: 4}}},
		{"A <- 'b' [a-c]", []Token{
			{Kind: Ident, Text: "A"}, {Kind: Arrow, At: 2}, {Kind: Literal, At: 5, Text: "b"}, {Kind: Class, At: 9, Set: setOf("abc")}, {Kind: End, At: 14},
		}},
		{"A<-'b'[a-c]", []Token{
			{Kind: Ident, Text: "A"}, {Kind: Arrow, At: 1}, {Kind: Literal, At: 3, Text: "b"}, {Kind: Class, At: 6, Set: setOf("abc")}, {Kind: End, At: 11},
		}},
		{"<-/&!?*+().", []Token{
			{Kind: Arrow}, {Kind: Slash, At: 2}, {Kind: Amp, At: 3}, {Kind: Bang, At: 4}, {Kind: Quest, At: 5}, {Kind: Times, At: 6},
			{Kind: Cross, At: 7}, {Kind: Open, At: 8}, {Kind: Close, At: 9}, {Kind: Dot, At: 10}, {Kind: End, At: 11},
		}},
		{`''""[][]`, []Token{{Kind: Literal}, {Kind: Literal, At: 2}, {Kind: Class, At: 4}, {Kind: Class, At: 6}, {Kind: End, At: 8}}},
		{`'a'"b"a1'c'`, []Token{
			{Kind: Literal, Text: "a"}, {Kind: Literal, At: 3, Text: "b"}, {Kind: Ident, At: 6, Text: "a1"}, {Kind: Literal, At: 8, Text: "c"}, {Kind: End, At: 11},
		}},
		{"[a][b]c", []Token{
			{Kind: Class, Set: setOf("a")}, {Kind: Class, At: 3, Set: setOf("b")}, {Kind: Ident, At: 6, Text: "c"}, {Kind: End, At: 7},
		}},
		{"a. # x\n\n+", []Token{{Kind: Ident, Text: "a"}, {Kind: Dot, At: 1}, {Kind: Cross, At: 8}, {Kind: End, At: 9}}},
	} {
		if got, err := Tokens(x.s); !slices.Equal(got, x.want) || err != nil {
			t.Errorf("Tokens(%q) is %v, %v, not %v", x.s, got, err, x.want)
		}
	}
}

// P4.2: nothing together with the first of the errors.
func TestTokensWrong(t *testing.T) {
	for _, x := range []struct {
		s  string
		at int
	}{
		{"1", 0},
		{"'b", 0},
		{" 'b", 1},
		{"[a", 0},
		{"#", 0},
		{"a #", 2},
		{"a<b", 1},
		{"A <- 1 2 <", 5},
		{"A <- '\\8' ] #", 5},
		{"A <- [a-] 'b", 5},
		{"A <- ] [", 5},
		{"A\n<-\r\n'b' \x80 \x81", 10},
		{"a 'b' \"c 'd'", 6},
		{"a@#", 1},
		{"# a\n# b", 4},
		{"\x00", 0},
	} {
		if got, err := Tokens(x.s); got != nil || !isFault(err, api.Fault{Code: api.Syntax, At: x.at}) {
			t.Errorf("Tokens(%q) is %v, %#v, not an error at %d", x.s, got, err, x.at)
		}
	}
	_, err := Tokens("'b")
	if !errors.Is(err, api.Syntax) || err.Error() != "error 1" {
		t.Errorf("the error is %v", err)
	}
}

// P4.2: all short strings over one byte of each kind, and made-up strings of tokens and spacing.
func TestTokensShort(t *testing.T) {
	for _, s := range texts("a1 \n#'[]-\\<.", 5) {
		sameTokens(t, s)
	}
	parts := []string{
		"a", "B2", "_", "<-", "/", "&", "!", "?", "*", "+", "(", ")", ".", "''", "'a\"'", `"b'\""`, `'\101\n'`, "[]", "[a-z-]", `[\]--]`, "['\"]", "[\xff\x80]",
		" ", "\t", "\n", "\r\n", "#\n", "# 'c\r", "<", "1", "'", "[", "]", `\`, "\xff",
	}
	seed := uint32(1)
	for range 20000 {
		var s strings.Builder
		for seed = seed*1664525 + 1013904223; seed>>24 > 20; seed = seed*1664525 + 1013904223 {
			s.WriteString(parts[int(seed>>16)%len(parts)])
		}
		sameTokens(t, s.String())
	}
}

// P4.2: long strings.
func TestTokensLong(t *testing.T) {
	const n = 100000
	for s, want := range map[string]int{
		strings.Repeat("a ", n):                            n + 1,
		strings.Repeat("a", n):                             2,
		strings.Repeat(" ", n):                             1,
		strings.Repeat("#\n", n):                           1,
		strings.Repeat("(", n):                             n + 1,
		"'" + strings.Repeat(`\101`, n) + "'":              2,
		"[" + strings.Repeat("a-c", n) + "]":               2,
		"# " + strings.Repeat("a", n) + "\nb":              2,
		strings.Repeat("'a'[b]\"c\"", n) + "# the end\r\n": 3*n + 1,
	} {
		l, err := Tokens(s)
		if len(l) != want || err != nil {
			t.Fatalf("%.10q has %d tokens and the error %v", s, len(l), err)
		}
		if last := l[want-1]; last != (Token{Kind: End, At: len(s)}) {
			t.Errorf("%.10q ends in %v", s, last)
		}
	}
}

// P4.3: names are identifiers, with nothing before or after them.
func TestName(t *testing.T) {
	names := []string{"a", "z", "A", "Z", "_", "__", "a1", "Z9", "_0", "aB_c0", "A__", "x0123456789"}
	for _, s := range names {
		if !Name(s) {
			t.Errorf("%q is no name", s)
		}
		for c := range 256 {
			b := string([]byte{byte(c)})
			if got, want := Name(s+b), ident.FindString(runes("a"+b)) == runes("a"+b); got != want {
				t.Errorf("Name(%q) is %t", s+b, got)
			}
			if got, want := Name(b+s), ident.FindString(runes(b)) == runes(b); got != want {
				t.Errorf("Name(%q) is %t", b+s, got)
			}
		}
	}
	for _, s := range []string{
		"", "0", "9", "1a", "0_", " ", " a", "a ", "\ta", "a\n", "\na", "a\r\n", "a b", "a#\n", "#\na", "a-b", "-", "a.", "a\x00", "a@", "[", "`", "{", "é", "aé", "\xc0", "\xe9", "a\xff",
		"<-", "a<-", "'a'", "[a]", "/", "&", "!", "?", "*", "+", "(", ")", ".",
	} {
		if Name(s) {
			t.Errorf("%q is a name", s)
		}
	}
}

// P4.3: a string is a name if Next reads it whole as an identifier.
func TestNameShort(t *testing.T) {
	for _, s := range texts("aZ_09 -\n\xe9", 4) {
		if got, want := Name(s), s != "" && ident.FindString(runes(s)) == runes(s); got != want {
			t.Fatalf("Name(%q) is %t", s, got)
		}
		token, next, err := Next(s, 0)
		whole := err == nil && token == Token{Kind: Ident, Text: s} && next == len(s)
		if Name(s) != whole {
			t.Fatalf("Name(%q) is %t, but Next returns %v", s, !whole, token)
		}
	}
}

// P4.3: the kinds of the signs, and of nothing else.
func TestKind(t *testing.T) {
	for s, want := range signKinds {
		if got := Kind(s); got != want {
			t.Errorf("Kind(%q) is %d, not %d", s, got, want)
		}
		for c := range 256 {
			b := string([]byte{byte(c)})
			for _, x := range []string{s + b, b + s} {
				if got := Kind(x); got != -1 {
					t.Errorf("Kind(%q) is %d", x, got)
				}
			}
		}
	}
	for c := range 256 {
		s := string([]byte{byte(c)})
		want, ok := signKinds[s]
		if !ok {
			want = -1
		}
		if got := Kind(s); got != want {
			t.Errorf("Kind(%q) is %d, not %d", s, got, want)
		}
	}
	for _, s := range []string{"", "<", "-", "->", "=", " ", "<- ", " <-", "< -", "\n", ". ", "<-<-", "a", "A", "_", "abc", "'a'", "''", `""`, "'", "[a]", "[]", "[", "]", "#\n", "1"} {
		if got := Kind(s); got != -1 {
			t.Errorf("Kind(%q) is %d", s, got)
		}
	}
}

// The constants have the numbers of the chapter.
func TestKindNumbers(t *testing.T) {
	l := []int{End, Ident, Arrow, Slash, Amp, Bang, Quest, Times, Cross, Open, Close, Dot, Literal, Class}
	for i, kind := range l {
		if kind != i {
			t.Errorf("the kind %d is %d", i, kind)
		}
	}
}

// Rule 5: results are new, also those of equal arguments.
func TestResultsAreNew(t *testing.T) {
	s := "A <- 'b' [a-c]"
	first, _ := Tokens(s)
	clear(first)
	second, err := Tokens(s)
	if want, _ := modelTokens(s); !slices.Equal(second, want) || err != nil {
		t.Errorf("a result was changed through an earlier one: %v", second)
	}
}

// Next returns for indices outside of the string, though the chapter does not say what.
func TestNextOutside(t *testing.T) {
	for _, at := range []int{-1, 3, 100, math.MaxInt, math.MinInt} {
		Next("ab", at)
		Next("", at)
	}
}
