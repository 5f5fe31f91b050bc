package creed_test

import (
	"fmt"
	"reflect"
	"strings"
	"testing"

	"creed/api"
	"creed/creed"
)

// shown is a term with each name quoted and no operators, which Read reads again.
func shown(t api.Term) string {
	switch t.Kind {
	case api.Integer:
		return fmt.Sprint(t.Value)
	case api.Variable:
		return t.Name
	}
	text := "'" + strings.NewReplacer("'", "''", "\\", "\\\\", "\n", "\\n", "\t", "\\t").Replace(t.Name) + "'"
	if t.Kind == api.Compound {
		var args []string
		for _, a := range t.Args {
			args = append(args, shown(a))
		}
		text += "(" + strings.Join(args, ",") + ")"
	}
	return text
}

// plain is a term without quotes, for names that need none to be told apart.
func plain(t api.Term) string { return strings.ReplaceAll(shown(t), "'", "") }

// turned is a Session with "priority type name" lines, parted by `|`, called.
func turned(t *testing.T, ops string) *creed.Session {
	t.Helper()
	s := creed.New()
	for _, line := range strings.FieldsFunc(ops, func(r rune) bool { return r == '|' }) {
		var priority int
		var kind, name string
		if _, err := fmt.Sscan(line, &priority, &kind, &name); err != nil {
			t.Fatal(err)
		}
		mustOp(t, s, priority, kind, name)
	}
	return s
}

// reads holds what is read of each text against what is wanted: the term and its end, or an error and its place.
func reads(t *testing.T, ops string, rows [][2]string) {
	t.Helper()
	s := turned(t, ops)
	for _, row := range rows {
		u, to, e, at := s.Read(row[0])
		got := fmt.Sprint(plain(u), " ", to)
		if e != api.OK {
			got = fmt.Sprint("error ", e, " ", at)
			if !reflect.DeepEqual(u, api.Term{}) || to != 0 {
				t.Errorf("with %q Read(%.60q): beside error %d: %v, %d", ops, row[0], e, u, to)
			}
		} else if at != 0 {
			t.Errorf("with %q Read(%.60q): OK and place %d", ops, row[0], at)
		}
		if got != row[1] {
			t.Errorf("with %q Read(%.60q) = %s, want %s", ops, row[0], got, row[1])
		}
	}
}

func TestP7Examples(t *testing.T) {
	reads(t, "", [][2]string{
		{"a + b * 2 .", "+(a,*(b,2)) 11"}, {"a - b - c.", "-(-(a,b),c) 10"}, {"2 ^ 3 ^ X.", "^(2,^(3,X)) 10"},
		{"- 1.", "-(1) 4"}, {"-1.", "-1 3"}, {"-(1).", "-(1) 5"}, {"- - 1.", "-(-(1)) 6"}, {"a -1.", "-(a,1) 5"},
		{"f(a, (b, c)).", "f(a,,(b,c)) 13"}, {"[1,2|T].", ".(1,.(2,T)) 8"}, {"{a}.", "{}(a) 4"}, {"- = x.", "=(-,x) 6"},
		{"\\ a = b.", "\\\\(=(a,b)) 8"}, {"'it''s' % no\n.", "its 14"},
		{"a b.", "error 5 2"}, {"a", "error 5 1"}, {"f(.", "error 5 2"}, {"'a", "error 5 0"}, {"a :- b :- c.", "error 5 7"},
		{"1000000000000000.", "error 3 0"}, {"", "error 7 0"}, {"f(a;b).", "error 5 3"},
	})
}

func TestP7Terms(t *testing.T) {
	s := creed.New()
	a, b := api.Term{Name: "a"}, api.Term{Name: "b"}
	of := func(name string, args ...api.Term) api.Term {
		return api.Term{Kind: api.Compound, Name: name, Args: args}
	}
	for text, want := range map[string]api.Term{
		"a.":               a,
		"'a'.":             a,
		"[].":              {Name: "[]"},
		"'[]'.":            {Name: "[]"},
		"{ %\n} .":         {Name: "{}"},
		"7.":               {Kind: api.Integer, Value: 7},
		"-7.":              {Kind: api.Integer, Value: -7},
		"-0.":              {Kind: api.Integer},
		"999999999999999.": {Kind: api.Integer, Value: api.MaxInt},
		"A.":               {Kind: api.Variable, Name: "A"},
		"_.":               {Kind: api.Variable, Name: "_"},
		"f(a,b).":          of("f", a, b),
		"a,b.":             of(",", a, b),
		"[a].":             of(".", a, api.Term{Name: "[]"}),
		"[a|b].":           of(".", a, b),
		"{a}.":             of("{}", a),
		"'[]'(a).":         of("[]", a),
		"''(b).":           of("", b),
		"- a.":             of("-", a),
	} {
		u, to, e, at := s.Read(text)
		if !reflect.DeepEqual(u, want) || to != len(text) || e != api.OK || at != 0 {
			t.Errorf("Read(%q) = %#v, %d, %d, %d", text, u, to, e, at)
		}
	}
}

func TestP7Tokens(t *testing.T) {
	long := strings.Repeat("a", api.MaxName)
	reads(t, "0 yfx -| 9 xfx .", [][2]string{
		{"a.b.", ".(a,b) 4"}, {"a.", "a 2"}, {"a.%", "a 2"}, {"a.\tb", "a 2"}, {"a.\n", "a 2"}, {"a.b", "error 5 3"},
		{"a . b.", "a 3"}, {"a .b.", ".(a,b) 5"}, {".", "error 5 0"}, {". .", "error 5 0"}, {".(a).", ".(a) 5"}, {".. .", ".. 4"}, {"a=.", "error 5 1"}, {"a= .", "error 5 3"}, {".'a'.", "error 5 1"},
		{"aB_9(x).", "aB_9(x) 8"}, {"A_bC9.", "A_bC9 6"}, {"__.", "__ 3"}, {"a1_.", "a1_ 4"}, {"12a.", "error 5 2"}, {"1A.", "error 5 1"}, {"!!.", "error 5 1"}, {"!;! .", ";(!,!) 5"}, {";;.", "error 5 2"}, {"!a.", "error 5 1"},
		{"+-*/\\^<>=~:.?@#&$ .", "+-*/\\\\^<>=~:.?@#&$ 19"}, {"=:= .", "=:= 5"}, {"a%%\n%.\n .", "a 9"}, {"%a.\nb.", "b 6"}, {"a% b.", "error 5 5"}, {"% a.\n", "error 7 5"}, {" \t\n", "error 7 3"}, {"%", "error 7 1"},
		{"'\t '.", "\\t  5"}, {"'\\t\\n\\\\'.", "\\t\\n\\\\ 9"}, {"'a b'.", "a b 6"}, {"'%.'.", "%. 5"}, {"'\"`'.", "\"` 5"}, {"'A'.", "A 4"},
		{"'", "error 5 0"}, {"'''.", "error 5 0"}, {"a+'''", "error 5 2"}, {"'\\a'.", "error 5 0"}, {"'\\'.", "error 5 0"}, {"'\\\n'.", "error 5 0"}, {"'a\n'.", "error 5 0"}, {"''''''.", " 7"}, {"'a' 'b'.", "error 5 4"},
		{"\".", "error 5 0"}, {"a`.", "error 5 1"}, {"f(\"", "error 5 2"},
		{long + ".", long + " 41"}, {"a" + long + ".", "error 4 0"}, {"A" + long[1:] + ".", "A" + long[1:] + " 41"}, {"_" + long + ".", "error 4 0"}, {"'" + long + "'(1).", long + "(1) 46"},
		{"f('" + long + "a').", "error 4 2"}, {"'" + long + "a.", "error 5 0"}, {"'" + strings.Repeat("''", 40) + "'.", " 83"}, {"'" + strings.Repeat("\\\\", 41) + "'.", "error 4 0"}, {strings.Repeat("-", 40) + " .", strings.Repeat("-", 40) + " 42"}, {strings.Repeat("-", 41) + " .", "error 4 0"}, {strings.Repeat(".", 41) + " ", "error 4 0"},
		{strings.Repeat("0", 3000) + "7.", "7 3002"}, {"-" + strings.Repeat("0", 60) + "999999999999999.", "-999999999999999 77"}, {strings.Repeat("9", 3999) + ".", "error 3 0"}, {"f(1000000000000000", "error 3 2"},
	})
}

func TestP7Limits(t *testing.T) {
	reads(t, "", [][2]string{
		{strings.Repeat(" ", api.MaxText-2) + "a.", "a 4000"}, {strings.Repeat(" ", api.MaxText-1) + "a.", "error 1 0"}, {strings.Repeat(" ", api.MaxText), "error 7 4000"}, {strings.Repeat("\x00", api.MaxText+1), "error 1 0"}, {strings.Repeat("a", api.MaxText), "error 4 0"},
		{"\x00", "error 2 0"}, {"'\x7f'.", "error 2 1"}, {"a b.\x80\x81", "error 2 4"}, {"a. \x1f", "error 2 3"}, {"%\r", "error 2 1"}, {"  \x0b", "error 2 2"}, {"a.\x00", "error 2 2"},
	})
}

func TestP7Operands(t *testing.T) {
	reads(t, "", [][2]string{
		{"((a)).", "a 6"}, {"(a:-b).", ":-(a,b) 7"}, {"(a", "error 5 2"}, {"(a].", "error 5 2"}, {"().", "error 5 1"}, {"a).", "error 5 1"}, {"].", "error 5 0"}, {"}.", "error 5 0"}, {", .", "error 5 0"}, {"|.", "error 5 0"},
		{"[a:-b].", "error 5 2"}, {"[(a:-b)].", ".(:-(a,b),[]) 9"}, {"[a,b|c|d].", "error 5 6"}, {"[a|].", "error 5 3"}, {"[a|b", "error 5 4"}, {"[,a].", "error 5 1"}, {"[a b].", "error 5 3"}, {"[", "error 5 1"}, {"[a|b;c].", "error 5 4"}, {"[](a).", "error 5 2"}, {"[[],[a]].", ".([],.(.(a,[]),[])) 9"},
		{"{a:-b,c}.", "{}(:-(a,,(b,c))) 9"}, {"{", "error 5 1"}, {"{a|b}.", "error 5 2"}, {"{a].", "error 5 2"}, {"{}(a).", "error 5 2"}, {"{ }(a).", "error 5 3"},
		{"f(a:-b).", "error 5 3"}, {"f((a:-b),c).", "f(:-(a,b),c) 12"}, {"f(a|b).", "error 5 3"}, {"f( ) .", "error 5 3"}, {"f(a,,b).", "error 5 4"}, {"f(a", "error 5 3"}, {"f (a).", "error 5 2"}, {"f%\n(a).", "error 5 3"}, {"X(a).", "error 5 1"}, {"1(a).", "error 5 1"}, {"f(a)(b).", "error 5 4"}, {"!(a).", "!(a) 5"}, {";(a,b).", ";(a,b) 7"}, {"=(a).", "=(a) 5"}, {"','(a).", ",(a) 7"}, {"f(a ',' b).", "error 5 4"}, {"[a ',' b].", "error 5 3"}, {"f(',').", "f(,) 7"}, {"{a ',' b}.", "{}(,(a,b)) 10"}, {"','.", ", 4"}, {"'|'.", "| 4"}, {"a '|' b.", "error 5 2"},
		{"-0007.", "-7 6"}, {"- 7.", "-(7) 4"}, {"'-'7.", "-(7) 5"}, {"-%\n7.", "-(7) 5"}, {"--7.", "error 5 2"}, {"- -7.", "-(-7) 5"}, {"a - -7.", "-(a,-7) 7"}, {"a-7.", "-(a,7) 4"}, {"a- -7.", "-(a,-7) 6"}, {"-7-7.", "-(-7,7) 5"}, {"-7 -7.", "-(-7,7) 6"}, {"-X.", "-(X) 3"}, {"-a.", "-(a) 3"}, {"-(-7).", "-(-7) 6"}, {"-(7)^2.", "^(-(7),2) 7"}, {"-7^2.", "^(-7,2) 5"}, {"- 7^2.", "-(^(7,2)) 6"}, {"-1000000000000000.", "error 3 1"}, {"a = -1000000000000000.", "error 3 5"},
	})
}

func TestP7InFront(t *testing.T) {
	reads(t, "", [][2]string{
		{"-", "error 5 1"}, {"- .", "- 3"}, {"-. a", "error 5 3"}, {"(-).", "- 4"}, {"[-].", ".(-,[]) 4"}, {"{-}.", "{}(-) 4"}, {"[-|a].", ".(-,a) 6"}, {"-,a.", ",(-,a) 4"}, {"f(-,\\).", "f(-,\\\\) 7"},
		{"- * a.", "*(-,a) 6"}, {"- * (a,b).", "*(-,,(a,b)) 10"}, {"- *(a,b).", "-(*(a,b)) 9"}, {"- '*' a.", "*(-,a) 8"}, {"- '*'(a).", "-(*(a)) 9"}, {"- ',' a.", ",(-,a) 8"}, {"- = = a.", "error 5 6"}, {"- = = .", "=(-,=) 7"}, {"- = (=).", "=(-,=) 8"}, {"- is a.", "is(-,a) 7"},
		{"- - .", "-(-) 5"}, {"- - = x.", "=(-(-),x) 8"}, {"\\ - 1.", "\\\\(-(1)) 6"}, {"\\ -1.", "\\\\(-1) 5"}, {"- \\ a.", "error 5 2"}, {"- (\\ a).", "-(\\\\(a)) 8"}, {"\\ \\ a.", "\\\\(\\\\(a)) 6"},
		{"a = \\ b.", "error 5 4"}, {"a = \\ .", "=(a,\\\\) 7"}, {"a = (\\ b).", "=(a,\\\\(b)) 10"}, {"a = \\(b).", "=(a,\\\\(b)) 9"}, {"a = \\ = .", "error 5 6"}, {"a = \\ \".", "error 5 4"}, {"a = \\ 1000000000000000.", "error 5 4"}, {"a = \\", "error 5 5"}, {"a = \\ + b.", "=(a,+(\\\\,b)) 10"},
		{"\\ \".", "error 5 2"}, {"- 1000000000000000.", "error 3 2"}, {"\\ (a,b).", "\\\\(,(a,b)) 8"}, {"\\ a,b.", ",(\\\\(a),b) 6"}, {"f(\\ a,b).", "f(\\\\(a),b) 9"}, {"-[a].", "-(.(a,[])) 5"}, {"-{a}.", "-({}(a)) 5"}, {"-[].", "-([]) 4"}, {"- a ^ b.", "-(^(a,b)) 8"}, {"- a * b.", "*(-(a),b) 8"}, {"a * - b.", "*(a,-(b)) 8"}, {"a ^ - b.", "^(a,-(b)) 8"}, {"a ^ - b ^ c.", "^(a,-(^(b,c))) 12"},
	})
	// a follower that is in front too doesn't leave it an atom
	reads(t, "300 fy =", [][2]string{{"\\ = x.", "\\\\(=(x)) 6"}, {"\\ = .", "\\\\(=) 5"}})
	// `-` no operator in front, but a number's sign
	reads(t, "0 fy -", [][2]string{{"-1.", "-1 3"}, {"- 1.", "error 5 2"}, {"-.", "error 5 2"}, {"- .", "- 3"}, {"\\ -1.", "\\\\(-1) 5"}, {"\\ - 1.", "-(\\\\,1) 6"}, {"\\ '-'1.", "-(\\\\,1) 7"}, {"\\ -1000000000000000.", "error 3 3"}, {"\\ -(1).", "\\\\(-(1)) 7"}, {"a = \\ -1.", "error 5 4"}, {"a = \\ -1000000000000000.", "error 3 7"}, {"a = \\ - 1.", "=(a,-(\\\\,1)) 10"}})
	// `-` neither
	reads(t, "0 fy -|0 yfx -", [][2]string{{"-1.", "-1 3"}, {"a -1.", "error 5 2"}, {"\\ -1.", "\\\\(-1) 5"}, {"\\ - .", "\\\\(-) 5"}, {"-1000000000000000.", "error 3 1"}})
	reads(t, "900 fy -", [][2]string{{"a = -1.", "=(a,-1) 7"}, {"a = -1000000000000000.", "error 5 4"}, {"a = - 1.", "error 5 4"}, {"a = -(1).", "=(a,-(1)) 9"}})
	reads(t, "200 fx neg", [][2]string{{"neg neg a.", "error 5 4"}, {"neg (neg a).", "neg(neg(a)) 12"}, {"neg a ^ b.", "error 5 6"}, {"neg a * b.", "*(neg(a),b) 10"}, {"neg neg .", "neg(neg) 9"}})
	reads(t, "1 fx a", [][2]string{{"a b.", "a(b) 4"}, {"a a b.", "error 5 2"}})
	reads(t, "1200 fy a", [][2]string{{"a b :- c.", "a(:-(b,c)) 9"}, {"f(a b).", "error 5 2"}, {"f(a).", "f(a) 5"}, {"(a b).", "a(b) 6"}, {"x :- a b.", "error 5 5"}})
}

func TestP7Followers(t *testing.T) {
	reads(t, "", [][2]string{
		{"a,b,c.", ",(a,,(b,c)) 6"}, {"a:-b,c;d.", ":-(a,;(,(b,c),d)) 9"}, {"a;b;c.", ";(a,;(b,c)) 6"}, {"a-b+c-d.", "-(+(-(a,b),c),d) 8"}, {"a-b*c.", "-(a,*(b,c)) 6"}, {"a*b-c.", "-(*(a,b),c) 6"}, {"a^b^c^d.", "^(a,^(b,^(c,d))) 8"}, {"a*b^c*d.", "*(*(a,^(b,c)),d) 8"}, {"a = b = c.", "error 5 6"}, {"a < b > c.", "error 5 6"}, {"(a = b) = c.", "=(=(a,b),c) 12"}, {"a = (b = c).", "=(a,=(b,c)) 12"},
		{"a =(b).", "=(a,b) 7"}, {"a =(b,c).", "=(a,,(b,c)) 9"}, {"a is b is c.", "error 5 7"}, {"a 'is' b.", "is(a,b) 9"}, {"a '+' b '*' c.", "+(a,*(b,c)) 14"}, {"a = .", "error 5 4"}, {"a =", "error 5 3"}, {"a +)", "error 5 3"}, {"a , .", "error 5 4"}, {"= = = .", "=(=,=) 7"}, {"= = .", "error 5 4"}, {"* * * * * .", "*(*(*,*),*) 11"}, {"a | b.", "error 5 2"}, {"a ( b.", "error 5 2"}, {"a [b].", "error 5 2"}, {"a X.", "error 5 2"}, {"a 1.", "error 5 2"}, {"a \\ b.", "error 5 2"},
	})
	for _, row := range [][3]string{
		{"200 xfy then", "a then b then c.", "then(a,then(b,c)) 16"}, {"200 yfx then", "a then b then c.", "then(then(a,b),c) 16"}, {"200 xfx then", "a then b then c.", "error 5 9"}, {"200 yf then", "a then then.", "then(then(a)) 12"}, {"200 xf then", "a then then.", "error 5 7"}, {"200 yf !", "a ! + b ! .", "+(!(a),!(b)) 11"}, {"200 xf !", "a ^ b ! .", "^(a,!(b)) 9"}, {"200 yfx then", "a ^ b then c.", "^(a,then(b,c)) 13"}, {"200 yfx then", "a then b ^ c.", "error 5 9"},
		{"200 yf then", "- a then.", "-(then(a)) 9"}, {"300 yf then", "- a then.", "then(-(a)) 9"}, {"999 xfx to", "f(a to b).", "f(to(a,b)) 10"}, {"1000 xfx to", "f(a to b).", "error 5 4"}, {"1000 yfx to", "a,b to c.", ",(a,to(b,c)) 9"}, {"1200 xf end", "a end.", "end(a) 6"}, {"1200 xf end", "a :- b end.", "error 5 7"}, {"1200 yf end", "a :- b end end.", "end(end(:-(a,b))) 15"}, {"1 xfx e", "a e b.", "e(a,b) 6"}, {"1 yf e|2 fy e", "e e .", "e(e) 5"}, {"1 yf e|2 fy e", "e e e .", "e(e(e)) 7"}, {"1 yf e|2 fy e", "a e e .", "e(e(a)) 7"}, {"1 yf e|2 fy e", "e a e .", "e(e(a)) 7"}, {"0 xfy ;", "a;b.", "error 5 1"}, {"0 xfx is", "a is b.", "error 5 2"},
	} {
		reads(t, row[0], [][2]string{{row[1], row[2]}})
	}
}

func TestP7Deep(t *testing.T) {
	brackets := func(n int, inside string) string {
		return strings.Repeat("(", n) + inside + strings.Repeat(")", n) + "."
	}
	calls := func(n int) string { return strings.Repeat("f(", n) + "a" + strings.Repeat(")", n) }
	fronts := func(n int) string { return strings.Repeat("- ", n) + "a" }
	most := 2*api.MaxDepth - 1
	reads(t, "", [][2]string{
		{brackets(most, "a"), "a 240"}, {brackets(most, "[]"), "[] 241"}, {brackets(most, "{}"), "{} 241"}, {brackets(most, "-"), "- 240"}, {brackets(most+1, "a"), "error 6 120"}, {brackets(most, "[a]"), "error 6 120"}, {brackets(most, "{a}"), "error 6 120"}, {brackets(most, "f( a)"), "error 6 122"}, {brackets(most, "- a"), "error 6 121"}, {brackets(most, "a+b"), "error 6 121"}, {brackets(most-1, "a+b"), "+(a,b) 240"}, {brackets(most-1, "a+b+c"), "+(+(a,b),c) 242"}, {brackets(most-1, "[a|b]"), ".(a,b) 242"}, {brackets(most-1, "a^b^c"), "error 6 122"},
		{strings.Repeat("(", most+1), "error 6 120"}, {strings.Repeat("(", most+1) + " % \n", "error 6 124"}, {strings.Repeat("(", most+1) + ")", "error 6 120"}, {strings.Repeat("(", most+1) + ". ", "error 6 120"}, {strings.Repeat("(", most), "error 5 119"}, {strings.Repeat("(", most) + ")", "error 5 119"},
		{strings.Repeat("(", most+1) + "`", "error 5 120"}, {strings.Repeat("(", most+1) + "'a", "error 5 120"}, {strings.Repeat("(", most+1) + strings.Repeat("a", 41), "error 4 120"}, {strings.Repeat("(", most+1) + "1000000000000000", "error 3 120"}, {"a`" + strings.Repeat("(", 200), "error 5 1"}, {strings.Repeat("(", 200) + "`", "error 6 120"},
		{" % x\n" + calls(api.MaxDepth) + ".", "error 6 5"}, {"(" + calls(api.MaxDepth) + ").", "error 6 0"}, {calls(api.MaxDepth) + ")", "error 5 181"}, {fronts(api.MaxDepth) + ".", "error 6 0"}, {fronts(most+1) + ".", "error 6 240"}, {" a" + strings.Repeat("+a", api.MaxDepth) + ".", "error 6 1"}, {"[" + strings.Repeat("a,", api.MaxDepth-1) + "a].", "error 6 0"}, {"[" + strings.Repeat("a,", 1900) + "a].", "error 6 0"},
	})
	s := creed.New()
	for _, text := range []string{calls(api.MaxDepth - 1), fronts(api.MaxDepth - 1), "a" + strings.Repeat("+a", api.MaxDepth-1), "a" + strings.Repeat("^a", api.MaxDepth-1), "[" + strings.Repeat("a,", api.MaxDepth-3) + "a]"} {
		if _, to, e, at := s.Read(text + "."); to != len(text)+1 || e != api.OK || at != 0 {
			t.Errorf("Read(%.20q): %d, %d, %d", text, to, e, at)
		}
	}
}

// TestP7FirstEnd: what stands behind the first END is nothing to a Read.
func TestP7FirstEnd(t *testing.T) {
	reads(t, "", [][2]string{{"a. b c", "a 2"}, {"a. '", "a 2"}, {"a. \"", "a 2"}, {"a. " + strings.Repeat("x", 99), "a 2"}, {"a. 1000000000000000", "a 2"}, {"a." + strings.Repeat(" (", 200), "a 2"}, {"f(a. '", "error 5 3"}, {"a . b.", "a 3"}})
}

// TestReadAgain: all short rows of these pieces are read as the same term as its form without operators, or refused within the text.
func TestReadAgain(t *testing.T) {
	pieces := []string{"a", "X", "1", "-", " ", "(", ")", "[", "]", ",", "|", "=", "not", "up", "f(", "'-'", "{", "}", "."}
	s := turned(t, "900 fy not|200 yf up|200 xfx not")
	texts := []string{""}
	for range 4 {
		var longer []string
		for _, text := range texts {
			for _, piece := range pieces {
				longer = append(longer, text+piece)
			}
		}
		texts = longer
		for _, text := range texts {
			text += " ."
			u, to, e, at := s.Read(text)
			if e != api.OK {
				if at < 0 || at > len(text) || to != 0 || !(e == api.ErrText) {
					t.Fatalf("Read(%q): error %d at %d", text, e, at)
				}
				continue
			}
			again, to, e, _ := s.Read(shown(u) + ".")
			if e != api.OK || to != len(shown(u))+1 || !reflect.DeepEqual(u, again) {
				t.Fatalf("Read(%q) = %s, read again %s, error %d", text, shown(u), shown(again), e)
			}
		}
	}
}
