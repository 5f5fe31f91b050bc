package creed_test

import (
	"fmt"
	"math/rand/v2"
	"reflect"
	"slices"
	"strings"
	"testing"

	"creed/api"
	"creed/creed"
)

func atom(name string) api.Term { return api.Term{Name: name} }

func integer(value int) api.Term { return api.Term{Kind: api.Integer, Value: value} }

func variable(name string) api.Term { return api.Term{Kind: api.Variable, Name: name} }

func of(name string, args ...api.Term) api.Term {
	return api.Term{Kind: api.Compound, Name: name, Args: args}
}

// nested is a term of that depth: each wrapping adds one.
func nested(depth int, inside api.Term, wrap func(int, api.Term) api.Term) api.Term {
	for n := 1; n < depth; n++ {
		inside = wrap(n, inside)
	}
	return inside
}

func inF(_ int, t api.Term) api.Term { return of("f", t) }

// readBack reads a text with a blank and `.` behind it, which must be all of it.
func readBack(t *testing.T, s *creed.Session, text string) api.Term {
	t.Helper()
	u, to, e, at := s.Read(text + " .")
	if e != api.OK || to != len(text)+2 || at != 0 {
		t.Fatalf("Read(%.200q): %d, error %d at %d", text+" .", to, e, at)
	}
	return u
}

// writes holds what is written of each term, told as the first of a row, against the second; by the operators then.
func writes(t *testing.T, ops string, rows [][2]string) {
	t.Helper()
	by, s := creed.New(), turned(t, ops)
	for _, row := range rows {
		u := readBack(t, by, row[0])
		got, e := s.Write(u)
		if got != row[1] || e != api.OK {
			t.Errorf("with %q Write(%s) = %s, error %d, want %s", ops, row[0], got, e, row[1])
			continue
		}
		mustStay(t, s, u)
	}
}

// mustStay holds P8 against a term: what is written is read as that term again, and what Canonical tells by a Session's first operators too.
func mustStay(t *testing.T, s *creed.Session, u api.Term) {
	t.Helper()
	written, e := s.Write(u)
	canonical, f := s.Canonical(u)
	if e != api.OK || f != api.OK {
		t.Fatalf("Write and Canonical of %s: errors %d, %d", shown(u), e, f)
	}
	if len(written)+2 <= api.MaxText {
		if v := readBack(t, s, written); shown(v) != shown(u) {
			t.Fatalf("with %s\nWrite(%s) = %s, read as %s", told(s.Ops()), shown(u), written, shown(v))
		}
	}
	if len(canonical)+2 <= api.MaxText {
		for _, by := range []*creed.Session{s, creed.New()} {
			if v := readBack(t, by, canonical); shown(v) != shown(u) {
				t.Fatalf("with %s\nCanonical(%s) = %s, read as %s", told(by.Ops()), shown(u), canonical, shown(v))
			}
		}
	}
}

func TestP6Examples(t *testing.T) {
	writes(t, "", [][2]string{
		{"+(1,*(2,3))", "1 + 2 * 3"}, {"*(+(1,2),3)", "(1 + 2) * 3"}, {"-(a,-(b,c))", "a - (b - c)"}, {"-(1)", "- 1"}, {"-(-1)", "- -1"}, {"=(-,a)", "(-) = a"}, {"f(-,','(a,b))", "f(-,(a,b))"}, {"','(a,b)", "a,b"},
		{"'.'(a,'.'(b,c))", "[a,b|c]"}, {"'{}'(a)", "{a}"}, {"'{}'(a,b)", "'{}'(a,b)"}, {"'A'", "'A'"}, {"'.'", "'.'"}, {"''", "''"},
	})
	writes(t, "200 yfx then", [][2]string{{"then(^(a,b),c)", "(a ^ b) then c"}, {"^(a,then(b,c))", "a ^ b then c"}})
}

func TestP6Names(t *testing.T) {
	s := creed.New()
	long := strings.Repeat("a", api.MaxName)
	for _, c := range []struct{ name, atom, compound string }{
		{"a", "a", "a"}, {long, long, long}, {"aB_9", "aB_9", "aB_9"}, {"z", "z", "z"}, {"a1", "a1", "a1"},
		{"+-*/\\^<>=~:.?@#&$", "+-*/\\^<>=~:.?@#&$", "+-*/\\^<>=~:.?@#&$"}, {"..", "..", ".."}, {"=..", "=..", "=.."}, {".a", "'.a'", "'.a'"}, {"!", "!", "!"}, {";", ";", ";"},
		{"[]", "[]", "'[]'"}, {"{}", "{}", "'{}'"}, {"[ ]", "'[ ]'", "'[ ]'"}, {"[", "'['", "'['"}, {"}", "'}'", "'}'"}, {"[]a", "'[]a'", "'[]a'"},
		{".", "'.'", "'.'"}, {"", "''", "''"}, {",", "','", "','"}, {"|", "'|'", "'|'"}, {"(", "'('", "'('"}, {"!!", "'!!'", "'!!'"}, {";;", "';;'", "';;'"}, {"!;", "'!;'", "'!;'"}, {"!a", "'!a'", "'!a'"},
		{"A", "'A'", "'A'"}, {"_", "'_'", "'_'"}, {"_a", "'_a'", "'_a'"}, {"1", "'1'", "'1'"}, {"1a", "'1a'", "'1a'"}, {"-1", "'-1'", "'-1'"}, {"a-", "'a-'", "'a-'"}, {"-a", "'-a'", "'-a'"}, {"a b", "'a b'", "'a b'"}, {" a", "' a'", "' a'"}, {"a ", "'a '", "'a '"}, {" ", "' '", "' '"}, {"%", "'%'", "'%'"}, {"a%", "'a%'", "'a%'"}, {"+%", "'+%'", "'+%'"}, {"%\na", "'%\\na'", "'%\\na'"}, {"\na", "'\\na'", "'\\na'"}, {"a\n", "'a\\n'", "'a\\n'"}, {"a.", "'a.'", "'a.'"}, {". ", "'. '", "'. '"}, {"\"", "'\"'", "'\"'"}, {"`", "'`'", "'`'"}, {"~ ", "'~ '", "'~ '"},
		{"'", "''''", "''''"}, {"''", "''''''", "''''''"}, {"'a'", "'''a'''", "'''a'''"}, {"\\", "\\", "\\"}, {"\\n", "'\\\\n'", "'\\\\n'"}, {"\\'", "'\\\\'''", "'\\\\'''"}, {"\n\t'\\ ", "'\\n\\t''\\\\ '", "'\\n\\t''\\\\ '"}, {strings.Repeat("'", 40), "'" + strings.Repeat("'", 80) + "'", "'" + strings.Repeat("'", 80) + "'"},
	} {
		for _, row := range []struct {
			u    api.Term
			want string
		}{{atom(c.name), c.atom}, {of(c.name, atom(c.name), variable("X"), integer(0)), c.compound + "(" + c.atom + ",X,0)"}} {
			written, e := s.Write(row.u)
			canonical, f := s.Canonical(row.u)
			if written != row.want || e != api.OK {
				t.Errorf("Write(%s) = %s, error %d, want %s", shown(row.u), written, e, row.want)
			}
			if canonical != row.want || f != api.OK {
				t.Errorf("Canonical(%s) = %s, error %d, want %s", shown(row.u), canonical, f, row.want)
			}
			mustStay(t, s, row.u)
		}
	}
	for b := range 256 {
		u := atom(string([]byte{byte(b)}))
		text, e := s.Write(u)
		if b >= 32 && b <= 126 || b == 9 || b == 10 {
			mustStay(t, s, u)
		} else if text != "" || e != api.ErrTerm {
			t.Errorf("Write of the byte %d: %q, error %d", b, text, e)
		}
	}
}

func TestP6Simple(t *testing.T) {
	s := creed.New()
	for want, u := range map[string]api.Term{
		"0": integer(0), "7": integer(7), "-1": integer(-1), "999999999999999": integer(api.MaxInt), "-999999999999999": integer(-api.MaxInt),
		"X": variable("X"), "_": variable("_"), "_a1B": variable("_a1B"), "__": variable("__"), "A" + strings.Repeat("x", 39): variable("A" + strings.Repeat("x", 39)), "_1": variable("_1"),
		"f(X,-1,_)": of("f", variable("X"), integer(-1), variable("_")),
	} {
		written, e := s.Write(u)
		canonical, f := s.Canonical(u)
		if written != want || canonical != want || e != api.OK || f != api.OK {
			t.Errorf("%s: Write %s, error %d; Canonical %s, error %d", want, written, e, canonical, f)
		}
		mustStay(t, s, u)
	}
}

func TestP6ListsAndCurly(t *testing.T) {
	writes(t, "", [][2]string{
		{"'.'(a,[])", "[a]"}, {"'.'(a,b)", "[a|b]"}, {"'.'(a,X)", "[a|X]"}, {"'.'(a,'.'(b,'.'(c,[])))", "[a,b,c]"}, {"'.'('.'(a,[]),'.'(b,c))", "[[a],b|c]"}, {"'.'([],[])", "[[]]"}, {"'.'({},{})", "[{}|{}]"}, {"'.'(a,'[]'(b))", "[a|'[]'(b)]"}, {"'.'(a,'.')", "[a|'.']"}, {"'.'(a,'.'(b))", "[a|'.'(b)]"}, {"'.'(a,'.'(b,c,d))", "[a|'.'(b,c,d)]"}, {"'.'(a)", "'.'(a)"}, {"'.'(a,b,c)", "'.'(a,b,c)"}, {"'.'(a,':.'(b,c))", "[a|:.(b,c)]"},
		{"'.'(','(a,b),','(c,d))", "[(a,b)|(c,d)]"}, {"'.'(;(a,b),'.'(:-(a,b),[]))", "[(a ; b),(a :- b)]"}, {"'.'(=(a,b),=(c,d))", "[a = b|c = d]"}, {"'.'(\\(a),-(b))", "[\\ a|- b]"}, {"'.'(-,=)", "[-|=]"}, {"'.'(',',;)", "[','|;]"}, {"'.'(-1,-1)", "[-1|-1]"},
		{"'{}'('{}'(a))", "{{a}}"}, {"'{}'(','(a,b))", "{a,b}"}, {"'{}'(:-(a,b))", "{a :- b}"}, {"'{}'(-)", "{-}"}, {"'{}'(',')", "{','}"}, {"'{}'(-1)", "{-1}"}, {"'{}'([])", "{[]}"}, {"'{}'('.'(a,b))", "{[a|b]}"}, {"'.'('{}'(:-(a,b)),[])", "[{a :- b}]"}, {"'{}'({})", "{{}}"},
		{"-('.'(a,[]))", "- [a]"}, {"-('{}'(a))", "- {a}"}, {"^('.'(a,b),'{}'(a))", "[a|b] ^ {a}"}, {"-([])", "- []"}, {"^({},[])", "{} ^ []"}, {"f([],'.'(a,[]),{})", "f([],[a],{})"},
	})
	// a list comes ahead of an operator `.` between, but not ahead of one in front or behind
	writes(t, "100 xfx .", [][2]string{{"'.'(a,b)", "[a|b]"}, {"'.'(a)", "'.'(a)"}, {"=('.',a)", "('.') = a"}, {"^('.'(a,b),c)", "[a|b] ^ c"}})
	writes(t, "700 fy .", [][2]string{{"'.'(a)", "'.' a"}, {"'.'(a,b)", "[a|b]"}, {"'.'('.'(a),'.')", "['.' a|'.']"}})
	writes(t, "700 yf .", [][2]string{{"'.'(a)", "a '.'"}, {"'.'('.'(a))", "a '.' '.'"}})
}

func TestP6Sides(t *testing.T) {
	writes(t, "", [][2]string{
		{"-(-(a,b),c)", "a - b - c"}, {"^(2,^(3,4))", "2 ^ 3 ^ 4"}, {"^(^(2,3),4)", "(2 ^ 3) ^ 4"}, {"=(=(a,b),c)", "(a = b) = c"}, {"=(a,=(b,c))", "a = (b = c)"}, {"*(a,*(b,c))", "a * (b * c)"}, {"+(-(a,b),c)", "a - b + c"}, {"-(a,*(b,c))", "a - b * c"}, {"*(a,-(b,c))", "a * (b - c)"}, {"=(<(a,b),>(c,d))", "(a < b) = (c > d)"}, {"is(X,+(1,2))", "X is 1 + 2"}, {":-(:-(a,b),:-(c,d))", "(a :- b) :- (c :- d)"},
		{"','(','(a,b),','(c,d))", "(a,b),c,d"}, {"','(;(a,b),;(c,d))", "(a ; b),(c ; d)"}, {";(','(a,b),','(c,d))", "a,b ; c,d"}, {":-(a,','(b,;(c,d)))", "a :- b,(c ; d)"}, {"','(=(a,b),\\(c))", "a = b,\\ c"}, {"','(-1,-(1))", "-1,- 1"},
		{"-(-(a))", "- - a"}, {"-(\\(a))", "- (\\ a)"}, {"\\(-(a))", "\\ - a"}, {"\\(\\(a))", "\\ \\ a"}, {"-(^(2,3))", "- 2 ^ 3"}, {"^(-(2),3)", "(- 2) ^ 3"}, {"^(2,-(3))", "2 ^ - 3"}, {"*(-(2),3)", "- 2 * 3"}, {"-(*(2,3))", "- (2 * 3)"}, {"=(\\(a),\\(b))", "(\\ a) = (\\ b)"}, {"\\(=(a,b))", "\\ a = b"}, {"\\(','(a,b))", "\\ (a,b)"}, {"-(-(1),-1)", "- 1 - -1"}, {"^(-1,-1)", "-1 ^ -1"}, {"-(X)", "- X"}, {"-(0)", "- 0"},
		{"-(f(a))", "- f(a)"}, {"-(*(a))", "- *(a)"}, {"-(=(a,b,c))", "- =(a,b,c)"}, {"-(a,b,c)", "-(a,b,c)"}, {"\\(a,b)", "\\(a,b)"}, {"+(1)", "+(1)"}, {"','(a)", "','(a)"}, {"','(a,b,c)", "','(a,b,c)"}, {"f(:-(a,b),-(1))", "f((a :- b),- 1)"}, {"f(\\(a),=(a,b),;(a,b))", "f(\\ a,a = b,(a ; b))"}, {"*(+(a))", "*(+(a))"},
	})
}

func TestP6AtomsThatAreOperators(t *testing.T) {
	writes(t, "300 yf then|300 fx just", [][2]string{
		{"=(-,a)", "(-) = a"}, {"=(a,=)", "a = (=)"}, {"=(\\,\\)", "(\\) = (\\)"}, {"-(-)", "- (-)"}, {"-(=)", "- (=)"}, {"-(is)", "- (is)"}, {"-(',')", "- (',')"}, {"=(',',;)", "(',') = (;)"}, {"','(',',',')", "(','),(',')"}, {"then(then)", "(then) then"}, {"just(just)", "just (just)"}, {"=(then,just)", "(then) = (just)"}, {"then(a)", "a then"},
		{"=([],{})", "[] = {}"}, {"=('|','.')", "'|' = '.'"}, {"=(f,not)", "f = not"}, {"-(!)", "- !"},
		{"-", "-"}, {"=", "="}, {"then", "then"}, {"f(-,=,then,just,',')", "f(-,=,then,just,',')"}, {"'.'(-,'.'(=,then))", "[-,=|then]"}, {"'{}'(just)", "{just}"}, {"+(-)", "+(-)"}, {"f(-)", "f(-)"},
		{"-(-,-,-)", "-(-,-,-)"}, {"=(f(-),'{}'(-))", "f(-) = {-}"},
	})
	// no operator any more
	writes(t, "0 fy -|0 yfx -|0 xfx =|0 xfx is", [][2]string{{"-(-)", "-(-)"}, {"^(-,=)", "- ^ ="}, {"=(a,b)", "=(a,b)"}, {"-(a,b)", "-(a,b)"}, {"\\(is)", "\\ is"}, {"-(1)", "-(1)"}})
	// of one sort alone
	writes(t, "0 yfx -", [][2]string{{"-(a,b)", "-(a,b)"}, {"=(-,a)", "(-) = a"}, {"-(-1)", "- -1"}})
	writes(t, "0 fy -", [][2]string{{"-(1)", "-(1)"}, {"\\(-1)", "\\ -1"}, {"\\(-(1))", "\\ -(1)"}, {"\\(-)", "\\ (-)"}, {"-(-(1),2)", "-(1) - 2"}})
}

func TestP6Types(t *testing.T) {
	for _, row := range [][3]string{
		{"200 yfx then", "then(then(a,b),c)", "a then b then c"}, {"200 yfx then", "then(a,then(b,c))", "a then (b then c)"}, {"200 xfx then", "then(then(a,b),then(b,c))", "(a then b) then (b then c)"}, {"200 xfy then", "then(then(a,b),then(b,c))", "(a then b) then b then c"},
		{"200 fy then", "then(then(a))", "then then a"}, {"200 fx then", "then(then(a))", "then (then a)"}, {"200 yf then", "then(then(a))", "a then then"}, {"200 xf then", "then(then(a))", "(a then) then"},
		{"200 xfx then", "then(a)", "then(a)"}, {"200 yf then", "then(a,b)", "then(a,b)"}, {"200 xf then", "then(a,b)", "then(a,b)"}, {"200 fx then", "then(a,b)", "then(a,b)"}, {"200 fx then", "then(a,b,c)", "then(a,b,c)"},
		{"300 yf then|200 fy then", "then(then(a))", "then then a"}, {"300 yf then|200 fy then", "=(then(a),then)", "then a = (then)"}, {"300 xfx then|200 fy then", "then(then(a),then(b))", "then a then then b"}, {"700 yf -", "-(a)", "- a"}, {"700 yf -", "-(a,b)", "-(a,b)"}, {"700 yf -|0 fy -", "-(-(-1))", "-1 - -"},
		// what the last operand would take stands in brackets, on the left side alone
		{"200 yfx then", "then(-(a),b)", "(- a) then b"}, {"200 yfx then", "then(^(a,b),^(c,d))", "(a ^ b) then (c ^ d)"}, {"201 yfx then", "then(^(a,b),^(c,d))", "a ^ b then c ^ d"}, {"199 yfx then", "then(^(a,b),c)", "(a ^ b) then c"}, {"200 yf then", "then(^(a,b))", "(a ^ b) then"}, {"200 yf then", "then(-(a))", "(- a) then"}, {"201 yf then", "then(-(a))", "- a then"}, {"200 xf then", "then(-(a))", "(- a) then"}, {"200 yf then", "-(then(a))", "- a then"}, {"200 yfx then", "-(then(a,b))", "- a then b"}, {"200 xfy then", "then(a,^(b,c))", "a then b ^ c"}, {"200 xfy then", "^(a,then(b,c))", "a ^ b then c"}, {"200 yfx then", "-(then(-(a),b))", "- (- a) then b"},
		{"200 yfx then|200 xfx to", "then(to(a,b),c)", "a to b then c"}, {"200 yfx then|200 fx just", "then(just(a),b)", "just a then b"}, {"200 yfx then|200 yf now", "then(now(a),b)", "a now then b"}, {"200 yfx then|200 xf now", "then(now(a),b)", "a now then b"}, {"200 yf then|200 yfx to", "then(to(a,b))", "a to b then"}, {"200 yf then|200 fx just", "then(just(a))", "just a then"}, {"1000 yfx to", "to(','(a,b),c)", "(a,b) to c"}, {"1000 yfx to", "','(a,to(b,c))", "a,b to c"}, {"1000 xfy to", "to(','(a,b),c)", "(a,b) to c"}, {"1100 yf to", "to(;(a,b))", "(a ; b) to"},
		{"999 xfx to", "f(to(a,b))", "f(a to b)"}, {"1000 xfx to", "f(to(a,b))", "f((a to b))"}, {"999 xfx to", "'.'(to(a,b),to(a,b))", "[a to b|a to b]"}, {"1000 xfx to", "'.'(to(a,b),to(a,b))", "[(a to b)|(a to b)]"}, {"1200 yf a", "f(a(b),a)", "f((b a),a)"}, {"1200 xfx to", "to(to(a,b),c)", "(a to b) to c"}, {"1200 xfy to", "to(a,to(b,c))", "a to b to c"}, {"1200 xfy to", "'{}'(to(a,b))", "{a to b}"},
		{"1 xfx to", "to(to(a,b),f(c))", "(a to b) to f(c)"}, {"1 yfx to", "to(to(a,-1),X)", "a to -1 to X"}, {"1 fx to", "to(to)", "to (to)"}, {"1 fy to", "to(to([]))", "to to []"}, {"1 fx to", "to(-(1))", "to (- 1)"},
		{"700 fy ab'", "'ab'''('c d')", "'ab''' 'c d'"}, {"300 xfx A", "'A'(X,'A')", "X 'A' ('A')"}, {"300 xf \"", "'\"'(a)", "a '\"'"}, {"300 yf !", "!(!)", "(!) !"}, {"300 fy !", "!(!)", "! (!)"}, {"0 xfy ;", ";(a,b)", ";(a,b)"},
	} {
		writes(t, row[0], [][2]string{{row[1], row[2]}})
	}
	s := creed.New()
	mustOp(t, s, 300, "xfx", "\n")
	if text, e := s.Write(of("\n", atom("\t"), atom(" "))); text != `'\t' '\n' ' '` || e != api.OK {
		t.Errorf("Write: %s, error %d", text, e)
	}
}

func TestP6Canonical(t *testing.T) {
	for _, ops := range []string{"", "300 yf then|900 fy f|100 xfx .|1200 fx a|0 yfx -"} {
		s := turned(t, ops)
		for want, u := range map[string]api.Term{
			"-(1)": of("-", integer(1)), "-1": integer(-1), "-(-1)": of("-", integer(-1)), "-(-,=)": of("-", atom("-"), atom("=")), "-": atom("-"), "','": atom(","), ":-(a,','(b,;(c,d)))": of(":-", atom("a"), of(",", atom("b"), of(";", atom("c"), atom("d")))), "+(1,*(2,X))": of("+", integer(1), of("*", integer(2), variable("X"))), "then(a)": of("then", atom("a")), "f(a)": of("f", atom("a")), "f(f)": of("f", atom("f")),
			"'.'(a,'.'(b,[]))": of(".", atom("a"), of(".", atom("b"), atom("[]"))), "'.'(a,b)": of(".", atom("a"), atom("b")), "'.'(a)": of(".", atom("a")), "'.'": atom("."), "[]": atom("[]"), "{}": atom("{}"), "'[]'([])": of("[]", atom("[]")), "'{}'({})": of("{}", atom("{}")), "'{}'(','(a,b))": of("{}", of(",", atom("a"), atom("b"))), "'it''s'('\\n\\t\\\\')": of("it's", atom("\n\t\\")),
		} {
			text, e := s.Canonical(u)
			if text != want || e != api.OK {
				t.Errorf("with %q Canonical: %s, error %d, want %s", ops, text, e, want)
			}
			mustStay(t, s, u)
		}
	}
}

// refused holds that neither Write nor Canonical tells anything of a term.
func refused(t *testing.T, name string, u api.Term) {
	t.Helper()
	s := creed.New()
	written, e := s.Write(u)
	canonical, f := s.Canonical(u)
	if written != "" || canonical != "" || e != api.ErrTerm || f != api.ErrTerm {
		t.Errorf("%s: Write %.40q, error %d; Canonical %.40q, error %d", name, written, e, canonical, f)
	}
}

func TestP6NotProper(t *testing.T) {
	a := []api.Term{atom("a")}
	for name, u := range map[string]api.Term{
		"a kind of none": {Kind: 4, Name: "a"}, "a kind below": {Kind: -1, Name: "a"}, "a great kind": {Kind: 1<<63 - 1}, "a kind of none with Args": {Kind: 5, Name: "f", Args: a},
		"a long atom": atom(strings.Repeat("a", api.MaxName+1)), "a long quoted atom": atom(strings.Repeat("'", api.MaxName+1)), "a far too long atom": atom(strings.Repeat("a", 1<<20)), "a byte of no text": atom("a\x00"), "a byte above": atom("\x7f"), "a line's return": atom("a\r"), "no ASCII": atom("é"), "an atom with Value": {Name: "a", Value: 1}, "an atom with Args": {Name: "a", Args: a},
		"too great": integer(api.MaxInt + 1), "too small": integer(-api.MaxInt - 1), "the greatest": integer(1<<63 - 1), "the smallest": integer(-1 << 63), "an integer with Name": {Kind: api.Integer, Name: "1", Value: 1}, "an integer with Args": {Kind: api.Integer, Value: 1, Args: a},
		"no variable": variable(""), "a small variable": variable("x"), "a variable of signs": variable("+"), "a variable of a digit": variable("1"), "a variable and more": variable("X y"), "a variable and a blank": variable("X "), "a blank and a variable": variable(" X"), "a quoted variable": variable("'X'"), "a quoted variable without end": variable("'X"), "a variable and a mark": variable("X,"), "a variable of other bytes": variable("X\x00"), "a variable of other letters": variable("Xé"), "a long variable": variable("X" + strings.Repeat("y", api.MaxName)), "a far too long variable": variable("'" + strings.Repeat("'", 1<<20)), "a variable with Value": {Kind: api.Variable, Name: "X", Value: -1}, "a variable with Args": {Kind: api.Variable, Name: "X", Args: a},
		"no Args": {Kind: api.Compound, Name: "f"}, "empty Args": {Kind: api.Compound, Name: "f", Args: []api.Term{}}, "a compound with Value": {Kind: api.Compound, Name: "f", Value: 1, Args: a}, "a long compound": of(strings.Repeat("f", api.MaxName+1), atom("a")), "a compound of other bytes": of("f\x80", atom("a")),
	} {
		refused(t, name, u)
		refused(t, name+", within", of("f", atom("a"), of("-", u), atom("b")))
		refused(t, name+", in a list", of(".", atom("a"), of(".", u, atom("[]"))))
		refused(t, name+", at a list's end", of(".", atom("a"), u))
		refused(t, name+", at the last", of("=", atom("a"), u))
	}
	s := creed.New()
	for _, u := range []api.Term{{}, {Name: "a", Args: []api.Term{}}, {Kind: api.Integer, Args: []api.Term{}}, {Kind: api.Variable, Name: "X", Args: []api.Term{}}} {
		if _, e := s.Write(u); e != api.OK {
			t.Errorf("Write(%v): error %d", u, e)
		}
	}
}

func TestP6DepthAndNodes(t *testing.T) {
	s := creed.New()
	wide := func(nodes int) api.Term { return of("f", slices.Repeat([]api.Term{atom("a")}, nodes-1)...) }
	pairs := func(n int, t api.Term) api.Term { return of(".", integer(n), t) }
	for name, u := range map[string]api.Term{
		"deepest": nested(api.MaxDepth, atom("a"), inF), "longest list": nested(api.MaxDepth, atom("[]"), pairs), "deepest in a list": nested(api.MaxDepth, atom("a"), func(_ int, t api.Term) api.Term { return of(".", t, atom("[]")) }), "widest": wide(api.MaxNodes), "widest within": of("g", wide(api.MaxNodes-2), atom("b")),
	} {
		mustStay(t, s, u)
		refused(t, name+", and one more", of("f", u, atom("a")))
	}
	refused(t, "one too many", wide(api.MaxNodes+1))
	refused(t, "a list too long", nested(api.MaxDepth+1, atom("[]"), pairs))
	refused(t, "many too many", wide(1<<20))
}

// TestP1Shared: what stands in several places, or in itself, doesn't make a call long or endless.
func TestP1Shared(t *testing.T) {
	double := func(_ int, t api.Term) api.Term { return of("f", t, t) }
	s := creed.New()
	mustStay(t, s, nested(11, atom("a"), double))
	refused(t, "one doubling too many", nested(12, atom("a"), double))
	refused(t, "the deepest doubled", nested(api.MaxDepth, atom("a"), double))
	refused(t, "far too deep", nested(1<<16, atom("a"), double))
	round := of("f", atom("a"), atom("a"))
	round.Args[0], round.Args[1] = round, round
	refused(t, "in itself", round)
	list := of(".", atom("a"), atom("[]"))
	list.Args[1] = list
	refused(t, "a list in itself", list)
}

// TestP2Written: a term that is handed in stays as it is, the spare room of its lists too, and the Session forgets it.
func TestP2Written(t *testing.T) {
	s := creed.New()
	u, _, e, _ := s.Read("f(a,- b,[c,d|E],{g,h}) :- i = (-),'it''s'.")
	if e != api.OK {
		t.Fatal(e)
	}
	room := append(make([]api.Term, 0, 8), u.Args...)
	u.Args = room
	before, want := fmt.Sprintf("%#v", u), ""
	for _, write := range []func(api.Term) (string, api.Errno){s.Write, s.Canonical, s.Write} {
		want, _ = write(u)
		if after := fmt.Sprintf("%#v", u); after != before {
			t.Errorf("the term is now %s", after)
		}
	}
	if spare := room[len(room):cap(room)]; !reflect.DeepEqual(spare, make([]api.Term, len(spare))) {
		t.Errorf("the spare room is now %v", spare)
	}
	spoilAll(room)
	if l := told(s.Ops()); l != beginning {
		t.Errorf("Ops: %s", l)
	}
	if want != "f(a,- b,[c,d|E],{g,h}) :- i = (-),'it''s'" {
		t.Errorf("what was written is now %s", want)
	}
}

// TestP8Deepest: the deepest terms, in brackets all the way, are read again.
func TestP8Deepest(t *testing.T) {
	s := turned(t, "200 fx just|200 xf now|1200 xfx to|1200 fx all")
	for _, names := range [][2]string{{"-", "\\"}, {"just", "just"}, {"now", "now"}, {"all", "f"}, {"all", "{}"}, {"all", "all"}, {"just", "now"}} {
		for _, inside := range []api.Term{atom("a"), atom("-"), atom("now"), integer(-1)} {
			mustStay(t, s, nested(api.MaxDepth, inside, func(n int, t api.Term) api.Term { return of(names[n%2], t) }))
		}
	}
	for _, name := range []string{"=", "to", "-", "^", ",", ".", "g"} {
		mustStay(t, s, nested(api.MaxDepth, atom("-"), func(_ int, t api.Term) api.Term { return of(name, t, atom("=")) }))
		mustStay(t, s, nested(api.MaxDepth, atom("-"), func(_ int, t api.Term) api.Term { return of(name, atom("now"), t) }))
	}
}

// TestP8Longest: a text that is MaxText bytes with a blank and `.` is read again; a longer one is written too.
func TestP8Longest(t *testing.T) {
	s := creed.New()
	args := slices.Repeat([]api.Term{atom("a")}, (api.MaxText-len("f() ."))/2)
	for last, want := range map[string]int{"bcd": api.MaxText, "bcde": api.MaxText + 1} {
		args[len(args)-1] = atom(last)
		u := of("f", args...)
		for name, write := range map[string]func(api.Term) (string, api.Errno){"Write": s.Write, "Canonical": s.Canonical} {
			if text, e := write(u); len(text)+2 != want || e != api.OK {
				t.Errorf("%s: %d bytes, error %d, want %d", name, len(text)+2, e, want)
			}
		}
		mustStay(t, s, u)
	}
}

// TestP8Small: all terms of depth 2 of these parts, and each seventh of depth 3, by operators of each type beside one another.
func TestP8Small(t *testing.T) {
	leaves := []api.Term{atom("a"), atom("e"), integer(-1)}
	names := []string{"e", "^", "-", "f"}
	level := leaves
	for range 2 {
		next := slices.Clone(leaves)
		for _, name := range names {
			for _, x := range level {
				next = append(next, of(name, x))
				for _, y := range level {
					next = append(next, of(name, x, y))
				}
			}
		}
		level = next
		for _, ops := range []string{"200 yfx e", "200 xfy e|200 fy e", "200 yf e", "200 xf e|201 fy e", "199 fx e|200 yf -", "500 yfx e|0 fy -"} {
			s := turned(t, ops)
			for i, u := range level {
				if len(level) < 1000 || i%7 == 0 {
					mustStay(t, s, u)
				}
			}
		}
	}
}

// TestP8Many: greater terms by many operators, all chosen by a counted source.
func TestP8Many(t *testing.T) {
	random := rand.New(rand.NewPCG(8, 6))
	pick := func(from []string) string { return from[random.IntN(len(from))] }
	names := []string{"a", "b", "-", "=", "+", ".", ",", "|", "[]", "{}", "", "!", ";", "A", "it's", "\n", "\\", "^", ":-", "..", "is", "1"}
	kinds := []string{"fy", "fx", "xfx", "xfy", "yfx", "yf", "xf"}
	priorities := []int{0, 1, 2, 199, 200, 200, 200, 201, 999, 1000, 1001, 1199, 1200}
	var term func(depth int) api.Term
	term = func(depth int) api.Term {
		switch n := random.IntN(10); {
		case n == 0:
			return integer(random.IntN(5) - 2)
		case n == 1:
			return variable(pick([]string{"X", "_", "Yz_1"}))
		case n < 4 || depth == 1:
			return atom(pick(names))
		}
		args := make([]api.Term, 1+random.IntN(10)*3/10)
		for i := range args {
			args[i] = term(depth - 1)
		}
		return of(pick(names), args...)
	}
	for range 200 {
		s := creed.New()
		for range random.IntN(25) {
			s.Op(priorities[random.IntN(len(priorities))], pick(kinds), pick(names))
		}
		for range 50 {
			mustStay(t, s, term(2+random.IntN(6)))
		}
	}
}
