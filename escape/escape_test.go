package escape

import (
	"fmt"
	"math"
	"strings"
	"testing"
)

// kind is a kind of character: its texts, all of one length, and their bytes.
type kind struct {
	length int
	bytes  map[string]byte
}

// kinds returns the kinds of characters in the order of the definition, the two digits before the one digit.
func kinds() []kind {
	signs := kind{2, map[string]byte{`\n`: 10, `\r`: 13, `\t`: 9, `\'`: 39, `\"`: 34, `\[`: 91, `\]`: 93, `\\`: 92}}
	three, two, one, bare := kind{4, map[string]byte{}}, kind{3, map[string]byte{}}, kind{2, map[string]byte{}}, kind{1, map[string]byte{}}
	for n := range 0o300 {
		three.bytes[fmt.Sprintf(`\%03o`, n)] = byte(n)
	}
	for n := range 0o100 {
		two.bytes[fmt.Sprintf(`\%02o`, n)] = byte(n)
	}
	for n := range 0o10 {
		one.bytes[fmt.Sprintf(`\%o`, n)] = byte(n)
	}
	for c := range 256 {
		if c != '\\' {
			bare.bytes[string([]byte{byte(c)})] = byte(c)
		}
	}
	return []kind{signs, three, two, one, bare}
}

// read is Read told in another way: the first kind that fits counts.
func read(l []kind, s string, at int) (byte, int, bool) {
	if at < 0 || at >= len(s) {
		return 0, 0, false
	}
	for _, k := range l {
		if len(s)-at < k.length {
			continue
		}
		if c, ok := k.bytes[s[at:at+k.length]]; ok {
			return c, at + k.length, true
		}
	}
	return 0, 0, false
}

// sameRead compares Read with the model at an index.
func sameRead(t *testing.T, l []kind, s string, at int) {
	t.Helper()
	c, next, ok := Read(s, at)
	if wantC, wantNext, wantOk := read(l, s, at); c != wantC || next != wantNext || ok != wantOk {
		t.Fatalf("Read(%q, %d) is %d, %d, %t, not %d, %d, %t", s, at, c, next, ok, wantC, wantNext, wantOk)
	}
}

// texts returns all strings of the bytes of an alphabet up to a length.
func texts(alphabet string, length int) []string {
	l := []string{""}
	for from := 0; length > 0; length-- {
		to := len(l)
		for _, s := range l[from:to] {
			for i := range len(alphabet) {
				l = append(l, s+alphabet[i:i+1])
			}
		}
		from = to
	}
	return l
}

// P3.1: every kind of character, by hand, also where another one is cut off or follows.
func TestRead(t *testing.T) {
	for _, x := range []struct {
		s    string
		at   int
		c    byte
		next int
		ok   bool
	}{
		{`\n`, 0, 10, 2, true},
		{`\r`, 0, 13, 2, true},
		{`\t`, 0, 9, 2, true},
		{`\'`, 0, '\'', 2, true},
		{`\"`, 0, '"', 2, true},
		{`\[`, 0, '[', 2, true},
		{`\]`, 0, ']', 2, true},
		{`\\`, 0, '\\', 2, true},
		{`\nn`, 0, 10, 2, true},
		{`\\n`, 0, '\\', 2, true},
		{`\\n`, 1, 10, 3, true},
		{`\\n`, 2, 'n', 3, true},

		{`\0`, 0, 0, 2, true},
		{`\7`, 0, 7, 2, true},
		{`\2`, 0, 2, 2, true},
		{`\3`, 0, 3, 2, true},
		{`\1a`, 0, 1, 2, true},
		{`\18`, 0, 1, 2, true},
		{`\39`, 0, 3, 2, true},
		{`\1\1`, 0, 1, 2, true},
		{`\00`, 0, 0, 3, true},
		{`\10`, 0, 8, 3, true},
		{`\27`, 0, 23, 3, true},
		{`\30`, 0, 24, 3, true},
		{`\77`, 0, 63, 3, true},
		{`\278`, 0, 23, 3, true},
		{`\129`, 0, 10, 3, true},
		{`\12x`, 0, 10, 3, true},
		{`\000`, 0, 0, 4, true},
		{`\012`, 0, 10, 4, true},
		{`\101`, 0, 'A', 4, true},
		{`\177`, 0, 127, 4, true},
		{`\200`, 0, 128, 4, true},
		{`\277`, 0, 191, 4, true},
		{`\0000`, 0, 0, 4, true},
		{`\1014`, 0, 'A', 4, true},
		{`\300`, 0, 24, 3, true},
		{`\377`, 0, 31, 3, true},
		{`\400`, 0, 32, 3, true},
		{`\500`, 0, 40, 3, true},
		{`\600`, 0, 48, 3, true},
		{`\777`, 0, 63, 3, true},

		{`\8`, 0, 0, 0, false},
		{`\9`, 0, 0, 0, false},
		{`\800`, 0, 0, 0, false},
		{`\91`, 0, 0, 0, false},
		{`\/1`, 0, 0, 0, false},
		{`\:1`, 0, 0, 0, false},
		{`\a`, 0, 0, 0, false},
		{`\N`, 0, 0, 0, false},
		{`\x41`, 0, 0, 0, false},
		{`\-`, 0, 0, 0, false},
		{`\ `, 0, 0, 0, false},
		{"\\\n", 0, 0, 0, false},
		{"\\\x00", 0, 0, 0, false},
		{"\\\x80", 0, 0, 0, false},
		{"\\\xff", 0, 0, 0, false},
		{`\`, 0, 0, 0, false},
		{`a\`, 1, 0, 0, false},
		{`\\\`, 2, 0, 0, false},

		{"a", 0, 'a', 1, true},
		{"8", 0, '8', 1, true},
		{"'", 0, '\'', 1, true},
		{`"]`, 0, '"', 1, true},
		{"[-]", 2, ']', 3, true},
		{"\n", 0, 10, 1, true},
		{"\x00", 0, 0, 1, true},
		{"\x80", 0, 128, 1, true},
		{"\xffa", 0, 255, 1, true},
		{"é", 0, 0xc3, 1, true},
		{"é", 1, 0xa9, 2, true},
		{`ab\101c`, 2, 'A', 6, true},
		{`ab\101c`, 3, '1', 4, true},

		{"", 0, 0, 0, false},
		{"", -1, 0, 0, false},
		{"", 1, 0, 0, false},
		{"ab", -1, 0, 0, false},
		{"ab", 2, 0, 0, false},
		{"ab", 3, 0, 0, false},
		{`\n`, 2, 0, 0, false},
		{"ab", math.MaxInt, 0, 0, false},
		{"ab", math.MinInt, 0, 0, false},
	} {
		if c, next, ok := Read(x.s, x.at); c != x.c || next != x.next || ok != x.ok {
			t.Errorf("Read(%q, %d) is %d, %d, %t, not %d, %d, %t", x.s, x.at, c, next, ok, x.c, x.next, x.ok)
		}
	}
}

// P3.1: every byte, alone and after a backslash, with every byte after it.
func TestReadBytes(t *testing.T) {
	l := kinds()
	for c := range 256 {
		sameRead(t, l, string([]byte{byte(c)}), 0)
		sameRead(t, l, string([]byte{'\\', byte(c)}), 0)
		sameRead(t, l, string([]byte{'x', '\\', byte(c)}), 1)
		for d := range 256 {
			sameRead(t, l, string([]byte{byte(c), byte(d)}), 0)
			sameRead(t, l, string([]byte{'\\', byte(c), byte(d)}), 0)
			sameRead(t, l, string([]byte{'\\', '1', byte(c), byte(d)}), 0)
			sameRead(t, l, string([]byte{'\\', '3', byte(c), byte(d)}), 0)
		}
	}
}

// P3.1: all digits after a backslash.
func TestReadDigits(t *testing.T) {
	l := kinds()
	for _, s := range texts("0123456789", 4) {
		sameRead(t, l, `\`+s, 0)
	}
}

// P3.1: every index of short strings, and those before and beyond it.
func TestReadIndices(t *testing.T) {
	l := kinds()
	for _, s := range texts("\\0238n'[a\xc8", 4) {
		for at := -2; at <= len(s)+2; at++ {
			sameRead(t, l, s, at)
		}
	}
}

// form is Form told in another way: the bytes with a form of their own are listed.
func form(c byte, class bool) string {
	special := map[byte]string{10: `\n`, 13: `\r`, 9: `\t`, 92: `\\`, 39: `\'`}
	if class {
		special = map[byte]string{10: `\n`, 13: `\r`, 9: `\t`, 92: `\\`, 91: `\[`, 93: `\]`, 45: `\055`}
	}
	if s, ok := special[c]; ok {
		return s
	}
	if c < 32 || c > 126 && c < 192 {
		return fmt.Sprintf(`\%03o`, c)
	}
	return string([]byte{c})
}

// P3.2: the forms of all bytes, in a literal and in a class.
func TestForm(t *testing.T) {
	for c := range 256 {
		for _, class := range []bool{false, true} {
			if got, want := Form(byte(c), class), form(byte(c), class); got != want {
				t.Errorf("Form(%d, %t) is %q, not %q", c, class, got, want)
			}
		}
	}
}

// P3.2: the bytes at the borders, and those that differ between a literal and a class, by hand.
func TestFormByHand(t *testing.T) {
	for _, x := range []struct {
		c              byte
		literal, class string
	}{
		{0, `\000`, `\000`},
		{1, `\001`, `\001`},
		{8, `\010`, `\010`},
		{9, `\t`, `\t`},
		{10, `\n`, `\n`},
		{11, `\013`, `\013`},
		{12, `\014`, `\014`},
		{13, `\r`, `\r`},
		{31, `\037`, `\037`},
		{32, " ", " "},
		{'!', "!", "!"},
		{'"', `"`, `"`},
		{'#', "#", "#"},
		{'\'', `\'`, "'"},
		{'-', "-", `\055`},
		{'0', "0", "0"},
		{'A', "A", "A"},
		{'[', "[", `\[`},
		{'\\', `\\`, `\\`},
		{']', "]", `\]`},
		{'^', "^", "^"},
		{'n', "n", "n"},
		{126, "~", "~"},
		{127, `\177`, `\177`},
		{128, `\200`, `\200`},
		{160, `\240`, `\240`},
		{191, `\277`, `\277`},
		{192, "\xc0", "\xc0"},
		{255, "\xff", "\xff"},
	} {
		if got := Form(x.c, false); got != x.literal {
			t.Errorf("the form of %d in a literal is %q, not %q", x.c, got, x.literal)
		}
		if got := Form(x.c, true); got != x.class {
			t.Errorf("the form of %d in a class is %q, not %q", x.c, got, x.class)
		}
	}
}

// allBytes returns all bytes in order.
func allBytes() []byte {
	b := make([]byte, 256)
	for i := range b {
		b[i] = byte(i)
	}
	return b
}

// allLiteral is the literal of all bytes below 192.
const allLiteral = `'\000\001\002\003\004\005\006\007\010\t\n\013\014\r\016\017` +
	`\020\021\022\023\024\025\026\027\030\031\032\033\034\035\036\037` +
	` !"#$%&\'()*+,-./0123456789:;<=>?` +
	`@ABCDEFGHIJKLMNOPQRSTUVWXYZ[\\]^_` +
	"`abcdefghijklmnopqrstuvwxyz{|}~" + `\177` +
	`\200\201\202\203\204\205\206\207\210\211\212\213\214\215\216\217` +
	`\220\221\222\223\224\225\226\227\230\231\232\233\234\235\236\237` +
	`\240\241\242\243\244\245\246\247\250\251\252\253\254\255\256\257` +
	`\260\261\262\263\264\265\266\267\270\271\272\273\274\275\276\277'`

// P3.3: literals of no bytes, of all bytes, and of quotation marks.
func TestLiteral(t *testing.T) {
	all := allBytes()
	for _, x := range []struct {
		b    string
		want string
	}{
		{"", "''"},
		{"a", "'a'"},
		{"a'b", `'a\'b'`},
		{"'", `'\''`},
		{"''", `'\'\''`},
		{`"`, `'"'`},
		{`\`, `'\\'`},
		{`\'`, `'\\\''`},
		{"[a-c]", "'[a-c]'"},
		{"\x001", `'\0001'`},
		{"\n\r\t", `'\n\r\t'`},
		{"é", "'\xc3\\251'"},
		{string(all[:192]), allLiteral},
		{string(all[192:]), "'" + string(all[192:]) + "'"},
	} {
		if got := Literal([]byte(x.b)); got != x.want {
			t.Errorf("Literal(%q) is %q, not %q", x.b, got, x.want)
		}
	}
	if got := Literal(nil); got != "''" {
		t.Errorf("Literal(nil) is %q", got)
	}
}

// P3.3: what is unquoted, and what is not.
func TestUnquote(t *testing.T) {
	all := allBytes()
	for _, x := range []struct {
		s    string
		want string
		ok   bool
	}{
		{"''", "", true},
		{`""`, "", true},
		{"'a'", "a", true},
		{`"a"`, "a", true},
		{`'a"b'`, `a"b`, true},
		{`"a'b"`, "a'b", true},
		{`'"'`, `"`, true},
		{`"'"`, "'", true},
		{`'""'`, `""`, true},
		{`'a\'b'`, "a'b", true},
		{`"a\"b"`, `a"b`, true},
		{`'a\"b'`, `a"b`, true},
		{`"a\'b"`, "a'b", true},
		{`'\''`, "'", true},
		{`"\""`, `"`, true},
		{`'\\'`, `\`, true},
		{`"\\"`, `\`, true},
		{`'\\\''`, `\'`, true},
		{`'[a-c]'`, "[a-c]", true},
		{`'\[\]'`, "[]", true},
		{`'\n\r\t'`, "\n\r\t", true},
		{"'\n\x00'", "\n\x00", true},
		{`'\101'`, "A", true},
		{`'\1011'`, "A1", true},
		{`'\377'`, "\x1f7", true},
		{`'\47'`, "'", true},
		{`'a\47'`, "a'", true},
		{`"\042"`, `"`, true},
		{`'\1'`, "\x01", true},
		{`'\12'`, "\n", true},
		{`'\128'`, "\n8", true},
		{"'\x80\xc3\xff'", "\x80\xc3\xff", true},
		{allLiteral, string(all[:192]), true},

		{"", "", false},
		{"'", "", false},
		{`"`, "", false},
		{"a", "", false},
		{`'"`, "", false},
		{`"'`, "", false},
		{`'a"`, "", false},
		{`"a'`, "", false},
		{"'a", "", false},
		{"a'", "", false},
		{"ab", "", false},
		{"aba", "", false},
		{"[a[", "", false},
		{"`a`", "", false},
		{"'''", "", false},
		{`"""`, "", false},
		{"''''", "", false},
		{"'a'b'", "", false},
		{`"a"b"`, "", false},
		{"'a''b'", "", false},
		{"'a''", "", false},
		{"''a'", "", false},
		{`'\'`, "", false},
		{`"\"`, "", false},
		{`'a\'`, "", false},
		{`"a\"`, "", false},
		{`'\\\'`, "", false},
		{`'\\''`, "", false},
		{`"\\""`, "", false},
		{`'\"`, "", false},
		{`\'a'`, "", false},
		{`\''`, "", false},
		{" 'a'", "", false},
		{"'a' ", "", false},
		{"'a'\n", "", false},
		{`'\8'`, "", false},
		{`'\9'`, "", false},
		{`'\a'`, "", false},
		{`'a\-b'`, "", false},
		{"'\\\xff'", "", false},
		{"'\\\n'", "", false},
		{`'ab\x'`, "", false},
	} {
		got, ok := Unquote(x.s)
		if string(got) != x.want || ok != x.ok {
			t.Errorf("Unquote(%q) is %q, %t, not %q, %t", x.s, got, ok, x.want, x.ok)
		}
		if !ok && got != nil {
			t.Errorf("Unquote(%q) fails with bytes", x.s)
		}
	}
}

// unquote is Unquote told in another way, by the kinds of characters.
func unquote(l []kind, s string) (string, bool) {
	for _, mark := range []string{"'", `"`} {
		inner, begins := strings.CutPrefix(s, mark)
		inner, ends := strings.CutSuffix(inner, mark)
		if !begins || !ends {
			continue
		}
		var b []byte
		for inner != "" {
			c, next, ok := read(l, inner, 0)
			if !ok || strings.HasPrefix(inner, mark) {
				return "", false
			}
			b, inner = append(b, c), inner[next:]
		}
		return string(b), true
	}
	return "", false
}

// P3.3: all short strings of quotation marks, backslashes, digits and others.
func TestUnquoteShort(t *testing.T) {
	l := kinds()
	for _, s := range texts(`'"\47a`, 6) {
		got, ok := Unquote(s)
		if want, wantOk := unquote(l, s); string(got) != want || ok != wantOk {
			t.Fatalf("Unquote(%q) is %q, %t, not %q, %t", s, got, ok, want, wantOk)
		}
	}
}

// P3.4: Read inverts Form, whatever follows and comes before.
func TestReadForm(t *testing.T) {
	after := append(texts("01789", 3), `\`, `\\`, `\1`, "-", "-a", "'", `"`, "[", "]", "n", "\xff", "\x80")
	for c := range 256 {
		after = append(after, string([]byte{byte(c)}))
	}
	for c := range 256 {
		for _, class := range []bool{false, true} {
			f := Form(byte(c), class)
			for _, s := range after {
				for _, before := range []string{"", `\`, `\1`, "a"} {
					got, next, ok := Read(before+f+s, len(before))
					if got != byte(c) || next != len(before)+len(f) || !ok {
						t.Fatalf("Read(%q, %d) is %d, %d, %t", before+f+s, len(before), got, next, ok)
					}
				}
			}
		}
	}
}

// P3.4: Unquote inverts Literal.
func TestUnquoteLiteral(t *testing.T) {
	all := allBytes()
	l := []string{"", string(all), strings.Repeat(string(all), 20), "'\"'", `\`, `\\`, `a\`, `\'`, "\x00000", "\x1f7", "é"}
	for c := range 256 {
		l = append(l, string(all[c:c+1]))
		for d := range 256 {
			l = append(l, string([]byte{byte(c), byte(d)}))
		}
	}
	for _, s := range l {
		literal := Literal([]byte(s))
		if got, ok := Unquote(literal); string(got) != s || !ok {
			t.Fatalf("Unquote(%q) is %q, %t, not %q", literal, got, ok, s)
		}
	}
}

// Rule 5: arguments and their unused capacity stay as they are, and results are new.
func TestArgumentsStay(t *testing.T) {
	b := []byte("a'bcd")
	literal := Literal(b[:3])
	if string(b) != "a'bcd" {
		t.Errorf("the bytes have become %q", b)
	}
	copy(b, "xxxxx")
	if literal != `'a\'b'` {
		t.Errorf("the literal has become %q", literal)
	}
	first, _ := Unquote("'abc'")
	copy(first, "xyz")
	if second, _ := Unquote("'abc'"); string(second) != "abc" {
		t.Errorf("a result was changed through an earlier one: %q", second)
	}
}
