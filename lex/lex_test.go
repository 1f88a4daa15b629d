package lex_test

import (
	"slices"
	"strconv"
	"strings"
	"testing"

	"doorkeeper/api"
	"doorkeeper/lex"
)

// longest is a name, and a label, of MaxName bytes.
var longest = "n" + strings.Repeat("x", api.MaxName-1)

func end(at int) api.Token                { return api.Token{Kind: api.TokEnd, At: at} }
func num(at, n int) api.Token             { return api.Token{Kind: api.TokNum, Num: n, At: at} }
func name(at int, s string) api.Token     { return api.Token{Kind: api.TokName, Text: s, At: at} }
func sign(at int, s string) api.Token     { return api.Token{Kind: api.TokSign, Text: s, At: at} }
func str(at int, l ...api.Part) api.Token { return api.Token{Kind: api.TokStr, Parts: l, At: at} }
func plain(s string) api.Part             { return api.Part{Text: s} }
func ref(s string) api.Part               { return api.Part{Ref: true, Text: s} }

func sameToken(a, b api.Token) bool {
	return a.Kind == b.Kind && a.Text == b.Text && a.Num == b.Num && a.At == b.At && slices.Equal(a.Parts, b.Parts)
}

func samePlaceless(a, b api.Token) bool {
	a.At, b.At = 0, 0
	return sameToken(a, b)
}

func wantTokens(t *testing.T, s string, want ...api.Token) {
	t.Helper()
	l, e := lex.Lex(s)
	if e != api.OK || !slices.EqualFunc(l, want, sameToken) {
		t.Errorf("Lex(%q): %#v, error %d; want %#v", s, l, e, want)
	}
}

func wantError(t *testing.T, s string, want api.Errno) {
	t.Helper()
	l, e := lex.Lex(s)
	if e != want || len(l) != 0 {
		t.Errorf("Lex(%q): %#v, error %d; want error %d alone", s, l, e, want)
	}
}

// 1.1: ErrLarge.

func TestTextOfMaxText(t *testing.T) {
	for _, s := range []string{
		strings.Repeat(" ", api.MaxText),
		"#" + strings.Repeat("\xff", api.MaxText-1),
	} {
		wantTokens(t, s, end(api.MaxText))
	}
	long := strings.Repeat("x", api.MaxText-2)
	wantTokens(t, `"`+long+`"`, str(0, plain(long)), end(api.MaxText))
	if l, e := lex.Lex(strings.Repeat("(", api.MaxText)); e != api.OK || len(l) != api.MaxText+1 {
		t.Errorf("MaxText signs: %d tokens, error %d", len(l), e)
	}
}

func TestTextBeyondMaxText(t *testing.T) {
	wantError(t, strings.Repeat(" ", api.MaxText+1), api.ErrLarge)
	wantError(t, strings.Repeat("a ", api.MaxText), api.ErrLarge)
}

// A text that is too long and says nothing: ErrLarge is named ahead of ErrForm.
func TestLargeAheadOfForm(t *testing.T) {
	wantError(t, strings.Repeat("@", api.MaxText+1), api.ErrLarge)
	wantError(t, strings.Repeat("@", api.MaxText), api.ErrForm)
}

// 1.1: blanks and remarks.

func TestNothing(t *testing.T) {
	wantTokens(t, "", end(0))
	wantTokens(t, " \n\n  ", end(5))
	wantTokens(t, "#", end(1))
	wantTokens(t, "# all of it", end(11))
	wantTokens(t, "#\n", end(2))
}

func TestBlanksPart(t *testing.T) {
	wantTokens(t, "a = 1", name(0, "a"), sign(2, "="), num(4, 1), end(5))
	wantTokens(t, "a b\nc", name(0, "a"), name(2, "b"), name(4, "c"), end(5))
	wantTokens(t, "1 2\n3", num(0, 1), num(2, 2), num(4, 3), end(5))
	wantTokens(t, "= =\n=", sign(0, "="), sign(2, "="), sign(4, "="), end(5))
}

func TestRemarks(t *testing.T) {
	wantTokens(t, "a#b\nc", name(0, "a"), name(4, "c"), end(5))
	wantTokens(t, "a # b # \" ${ @\n# c\n d # e", name(0, "a"), name(20, "d"), end(25))
	wantTokens(t, "a#\x00\t\r\x7f\xff\nb", name(0, "a"), name(8, "b"), end(9))
	wantTokens(t, "a\n#", name(0, "a"), end(3))
	wantTokens(t, "=#=\n=", sign(0, "="), sign(4, "="), end(5))
}

// 1.1: names.

func TestNames(t *testing.T) {
	for _, s := range []string{"a", "z", "_", "__", "_a1", "a_9", "az09_", "a0", "true", longest, "_" + longest[1:]} {
		wantTokens(t, s, name(0, s), end(len(s)))
	}
	wantTokens(t, "a-b", name(0, "a"), sign(1, "-"), name(2, "b"), end(3))
	wantTokens(t, "a.b", name(0, "a"), sign(1, "."), name(2, "b"), end(3))
	wantTokens(t, longest+"."+longest, name(0, longest), sign(24, "."), name(25, longest), end(49))
}

func TestNoNames(t *testing.T) {
	for _, s := range []string{
		longest + "x", longest + "1", longest + "_", longest + longest, "_" + longest,
		"A", "Z", "aB", "a\xc3\xa4", "\xc3\xa4", "a`", "a@",
	} {
		wantError(t, s, api.ErrForm)
	}
}

// 1.1: numbers.

func TestNumbers(t *testing.T) {
	for _, n := range []int{0, 1, 9, 10, 100, 1 << 40, 1<<63 - 2, 1<<63 - 1} {
		s := strconv.Itoa(n)
		wantTokens(t, s, num(0, n), end(len(s)))
	}
	wantTokens(t, "1234567890", num(0, 1234567890), end(10))
	wantTokens(t, "0 0", num(0, 0), num(2, 0), end(3))
	wantTokens(t, "-1", sign(0, "-"), num(1, 1), end(2))
	wantTokens(t, "1.5", num(0, 1), sign(1, "."), num(2, 5), end(3))
	wantTokens(t, "12ab_3", num(0, 12), name(2, "ab_3"), end(6))
	wantTokens(t, "0_1", num(0, 0), name(1, "_1"), end(3))
	wantTokens(t, "0x1f", num(0, 0), name(1, "x1f"), end(4))
}

func TestNoNumbers(t *testing.T) {
	for _, s := range []string{
		"00", "01", "007", "1 01", "09223372036854775807",
		"9223372036854775808", "9223372036854775810", "18446744073709551616", "18446744073709551617",
		"10000000000000000000", strings.Repeat("9", api.MaxText),
	} {
		wantError(t, s, api.ErrForm)
	}
}

// 1.1: texts.

func TestTexts(t *testing.T) {
	wantTokens(t, `""`, str(0), end(2))
	wantTokens(t, `"a"`, str(0, plain("a")), end(3))
	wantTokens(t, `"" ""`, str(0), str(3), end(5))
	wantTokens(t, `"a""b"`, str(0, plain("a")), str(3, plain("b")), end(6))
	wantTokens(t, ` "a  b" `, str(1, plain("a  b")), end(8))
	wantTokens(t, `"# is no remark"`, str(0, plain("# is no remark")), end(16))
	wantTokens(t, `"'{}[]();@~&|A"`, str(0, plain("'{}[]();@~&|A")), end(15))
}

// Every byte from 32 on is itself, but for `"` and `\`; none below may be.
func TestBytesOfTexts(t *testing.T) {
	for b := range 256 {
		s := `"` + string([]byte{byte(b)}) + `"`
		switch {
		case b < ' ' || b == '"' || b == '\\':
			wantError(t, s, api.ErrForm)
		default:
			wantTokens(t, s, str(0, plain(s[1:2])), end(3))
		}
	}
}

// Behind a `\` stand `"`, `\`, `n`, `$`, and nothing else.
func TestEscapes(t *testing.T) {
	for b := range 256 {
		s := `"\` + string([]byte{byte(b)}) + `"`
		switch b {
		case '"', '\\', '$':
			wantTokens(t, s, str(0, plain(s[2:3])), end(4))
		case 'n':
			wantTokens(t, s, str(0, plain("\n")), end(4))
		default:
			wantError(t, s, api.ErrForm)
		}
	}
	wantTokens(t, `"a\"b\\c\nd\$e"`, str(0, plain("a\"b\\c\nd$e")), end(15))
	wantTokens(t, `"\\" n`, str(0, plain(`\`)), name(5, "n"), end(6))
	wantTokens(t, `"\\n"`, str(0, plain(`\n`)), end(5))
	wantTokens(t, `"\\\""`, str(0, plain(`\"`)), end(6))
}

func TestOpenTexts(t *testing.T) {
	for _, s := range []string{
		`"`, `"a`, `a "`, `"""`, `"\`, `"\"`, `"\\\"`, "\"a\n\"", "\"a\n", `"$`, `"${`, `"${a`, `"${a.`, `"${a.b`, `"${a.b}`,
		`"${a.b}\`, `"a #"b"`,
	} {
		wantError(t, s, api.ErrForm)
	}
}

// 1.1: references.

func TestReferences(t *testing.T) {
	wantTokens(t, `"${var.x}"`, str(0, ref("var.x")), end(10))
	wantTokens(t, `"a${b.c}d"`, str(0, plain("a"), ref("b.c"), plain("d")), end(10))
	wantTokens(t, `"${a.b}${c.d}"`, str(0, ref("a.b"), ref("c.d")), end(14))
	wantTokens(t, `"${a.b} ${c.d}"`, str(0, ref("a.b"), plain(" "), ref("c.d")), end(15))
	wantTokens(t, `"x${a.b}" "${c.d}y"`, str(0, plain("x"), ref("a.b")), str(10, ref("c.d"), plain("y")), end(19))
	wantTokens(t, `"${_.true}"`, str(0, ref("_.true")), end(11))
	wantTokens(t, `"${a1.b_2}}"`, str(0, ref("a1.b_2"), plain("}")), end(12))
	two := longest + "." + longest
	wantTokens(t, `"${`+two+`}"`, str(0, ref(two)), end(54))
}

func TestDollars(t *testing.T) {
	wantTokens(t, `"$"`, str(0, plain("$")), end(3))
	wantTokens(t, `"$a.b} {c.d}"`, str(0, plain("$a.b} {c.d}")), end(13))
	wantTokens(t, `"$ {a.b}"`, str(0, plain("$ {a.b}")), end(9))
	wantTokens(t, `"$$"`, str(0, plain("$$")), end(4))
	wantTokens(t, `"$${a.b}"`, str(0, plain("$"), ref("a.b")), end(9))
	wantTokens(t, `"\${a.b}"`, str(0, plain("${a.b}")), end(9))
	wantTokens(t, `"\$${a.b}"`, str(0, plain("$"), ref("a.b")), end(10))
	wantTokens(t, `"$x{"`, str(0, plain("$x{")), end(5))
}

func TestNoReferences(t *testing.T) {
	for _, s := range []string{
		`"${}"`, `"${a}"`, `"${a.}"`, `"${.b}"`, `"${.}"`, `"${a.b.c}"`, `"${a..b}"`,
		`"${ a.b}"`, `"${a .b}"`, `"${a. b}"`, `"${a.b }"`, "\"${a\n.b}\"", `"${a.b"`, `"${a.b\}"`,
		`"${1.b}"`, `"${a.1}"`, `"${A.b}"`, `"${a.B}"`, `"${a-b.c}"`, `"${a.b-c}"`, `"${a.b#}"`, `"${${a.b}}"`,
		`"${` + longest + `x.b}"`, `"${a.` + longest + `x}"`, `"x${"`, `"${"a}"`,
	} {
		wantError(t, s, api.ErrForm)
	}
}

// 1.1: signs.

var signs = []string{
	"{", "}", "[", "]", "(", ")", "=", ",", ".", "+", "-", "*", "/", "%",
	"==", "!=", "<", "<=", ">", ">=", "&&", "||", "!", "?", ":",
}

func TestSigns(t *testing.T) {
	for _, s := range signs {
		wantTokens(t, s, sign(0, s), end(len(s)))
		wantTokens(t, "a"+s+"1", name(0, "a"), sign(1, s), num(1+len(s), 1), end(2+len(s)))
	}
}

func TestLongestSign(t *testing.T) {
	wantTokens(t, "===", sign(0, "=="), sign(2, "="), end(3))
	wantTokens(t, "!==", sign(0, "!="), sign(2, "="), end(3))
	wantTokens(t, "!!=", sign(0, "!"), sign(1, "!="), end(3))
	wantTokens(t, "<==", sign(0, "<="), sign(2, "="), end(3))
	wantTokens(t, "<>=", sign(0, "<"), sign(1, ">="), end(3))
	wantTokens(t, "=<", sign(0, "="), sign(1, "<"), end(2))
	wantTokens(t, "=!", sign(0, "="), sign(1, "!"), end(2))
	wantTokens(t, "&&&&||", sign(0, "&&"), sign(2, "&&"), sign(4, "||"), end(6))
	wantTokens(t, "++--", sign(0, "+"), sign(1, "+"), sign(2, "-"), sign(3, "-"), end(4))
}

// A byte that begins no token says nothing, wherever it stands.
func TestBytesThatStandForNothing(t *testing.T) {
	begins := "abcdefghijklmnopqrstuvwxyz_0123456789 \n#{}[]()=,.+-*/%<>!?:"
	for b := range 256 {
		s := string([]byte{byte(b)})
		if _, e := lex.Lex(s); (e == api.OK) != strings.Contains(begins, s) || e != api.OK && e != api.ErrForm {
			t.Errorf("Lex(%q): error %d", s, e)
		}
		if !strings.Contains(begins, s) {
			wantError(t, "a = "+s+" 1", api.ErrForm)
		}
	}
	for _, s := range []string{"&", "|", "& &", "&|", "|&", "&&&", "|||", "a\x00", "\x00", "a\t= 1", "a\r\n", "a = $x", "${a.b}", "'a'", `\n`} {
		wantError(t, s, api.ErrForm)
	}
}

// 1.2: labels.

func TestLabels(t *testing.T) {
	for _, s := range []string{"a", "z", "az", "a-", "a_", "a0", "a9", "a-b_c9", "z--__09", longest, longest[1:] + "-", "true"} {
		if !lex.Label(s) {
			t.Errorf("Label(%q): false", s)
		}
	}
}

func TestNoLabels(t *testing.T) {
	for _, s := range []string{
		"", "-", "_", "0", "-a", "_a", "9a", "A", "aB", "a b", " a", "a ", "a\n", "a.b", "a#", "a\x00", "\x00", "a/", "a\xff",
		"\xc3\xa4", "a:", "a`", "a{", "a@", "a[", longest + "x", longest + "-", longest + longest,
	} {
		if lex.Label(s) {
			t.Errorf("Label(%q): true", s)
		}
	}
}

func TestLabelsByByte(t *testing.T) {
	first := "abcdefghijklmnopqrstuvwxyz"
	later := first + "0123456789-_"
	for b := range 256 {
		s := string([]byte{byte(b)})
		if lex.Label(s) != strings.Contains(first, s) {
			t.Errorf("Label(%q)", s)
		}
		if lex.Label("a"+s) != strings.Contains(later, s) || lex.Label("a"+s+"b") != strings.Contains(later, s) {
			t.Errorf("Label of a and %q", s)
		}
	}
}

// 1.3: blanks and remarks between tokens change nothing but places.

const configuration = `# a tree
variable "cpu" { value = -(1+2)*3 }
locals { big = var.cpu>=10&&!(var.cpu!=12)||false
}
node "a-1" { count = 3 name = "n${count.index}-\"\$\n\\${var.x}" cpu = [1,2][0] ? min(1,2):7/4%2 } # done`

var between = []string{" ", "\n", "  \n \n", "#\n", " # \"${\n", "# a # b = 1 \x00\t\xff\n\n # c\n "}

// spread lays what is between tokens ahead of each of them.
func spread(s string, l []api.Token, between string) string {
	var b strings.Builder
	from := 0
	for _, t := range l {
		b.WriteString(s[from:t.At] + between)
		from = t.At
	}
	return b.String()
}

func checkSpread(t *testing.T, s string, l []api.Token) {
	t.Helper()
	for _, b := range between {
		wide := spread(s, l, b)
		if got, e := lex.Lex(wide); e != api.OK || !slices.EqualFunc(got, l, samePlaceless) {
			t.Errorf("Lex(%q): %#v, error %d; with %q between: %#v", s, l, e, b, got)
		}
	}
}

func TestBlanksBetweenChangeNothing(t *testing.T) {
	l, e := lex.Lex(configuration)
	if e != api.OK || len(l) != 69 {
		t.Fatalf("%d tokens, error %d", len(l), e)
	}
	checkSpread(t, configuration, l)
}

func TestBlanksChangePlaces(t *testing.T) {
	for _, b := range between {
		n := len(b)
		wantTokens(t, "a"+b+"1"+b, name(0, "a"), num(n+1, 1), end(2*n+2))
		wantTokens(t, b+`"x y"`+b+"==", str(n, plain("x y")), sign(2*n+5, "=="), end(2*n+7))
	}
}

// R1 to R5: all short texts of some bytes: each call ends, and what it tells hangs together.

func texts(bytes string, n int, each func(s string)) {
	each("")
	if n > 0 {
		for i := range len(bytes) {
			texts(bytes, n-1, func(s string) { each(bytes[i:i+1] + s) })
		}
	}
}

func checkTokens(t *testing.T, s string, l []api.Token) {
	t.Helper()
	at := -1
	for i, x := range l {
		if x.At <= at || (x.Kind == api.TokEnd) != (i == len(l)-1) || (x.At == len(s)) != (x.Kind == api.TokEnd) {
			t.Errorf("Lex(%q): place of token %d: %#v", s, i, l)
		}
		at = x.At
		for j, p := range x.Parts {
			if p.Text == "" || !p.Ref && j > 0 && !x.Parts[j-1].Ref {
				t.Errorf("Lex(%q): parts of token %d: %#v", s, i, l)
			}
		}
	}
	if len(l) == 0 {
		t.Errorf("Lex(%q): no end", s)
	}
}

func TestAllShortTexts(t *testing.T) {
	for _, bytes := range []string{"a1_\".#=$ \\\n", "\"${}a.n\\", "=!<>&|-? \n#"} {
		texts(bytes, 4, func(s string) {
			l, e := lex.Lex(s)
			if e != api.OK {
				wantError(t, s, api.ErrForm)
				return
			}
			checkTokens(t, s, l)
			checkSpread(t, s, l)
			wantTokens(t, s, l...)
		})
	}
}

// R3: whoever writes into what was told, or appends to it, changes nothing else.
func TestNoSharedMemory(t *testing.T) {
	s := `"a${b.c}d" "${e.f}g"`
	l, _ := lex.Lex(s)
	other, _ := lex.Lex(s)
	_ = append(l[0].Parts[:0], ref("x.y"), ref("x.y"), ref("x.y"), ref("x.y"), ref("x.y"))
	_ = append(l[0].Parts, ref("x.y"), ref("x.y"), ref("x.y"), ref("x.y"), ref("x.y"))
	want := []api.Token{str(11, ref("e.f"), plain("g")), end(len(s))}
	if !slices.EqualFunc(l[1:], want, sameToken) {
		t.Errorf("tokens share memory: %#v", l[1:])
	}
	l[0] = end(0)
	_ = append(l[:1], end(1), end(2), end(3), end(4))
	if !slices.EqualFunc(other[1:], want, sameToken) || len(other[0].Parts) != 3 || other[0].Parts[0] != plain("a") {
		t.Errorf("calls share memory: %#v", other)
	}
	wantTokens(t, s, other...)
}
