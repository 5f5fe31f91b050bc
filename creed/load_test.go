package creed_test

import (
	"fmt"
	"strings"
	"testing"

	"creed/api"
	"creed/creed"
)

// loads holds what Load answers, as "count error place", and counts the clauses that are there by trying each with a goal.
func loads(t *testing.T, s *creed.Session, text, want string) {
	t.Helper()
	n, e, at := s.Load(text)
	if got := fmt.Sprint(n, " ", e, " ", at); got != want {
		t.Errorf("Load(%.60q) = %s, want %s", text, got, want)
	}
}

func mustLoad(t *testing.T, text string) *creed.Session {
	t.Helper()
	s := creed.New()
	if n, e, at := s.Load(text); e != api.OK {
		t.Fatalf("Load(%.200q): %d, error %d at %d", text, n, e, at)
	}
	return s
}

// solves holds the Tale of a goal, as "answers / parted so | Output | Steps error".
func solves(t *testing.T, s *creed.Session, goal string, fuel, most int, want string) {
	t.Helper()
	tale, e := s.Solve(goal, fuel, most)
	if got := fmt.Sprint(strings.Join(tale.Answers, " / "), " | ", tale.Output, " | ", tale.Steps, " ", e); got != want {
		t.Errorf("Solve(%.200s, %d, %d) = %.2000s\nwant %s", goal, fuel, most, got, want)
	}
}

func TestP9Counts(t *testing.T) {
	for _, row := range [][2]string{
		{"app([],L,L). app([H|T],L,[H|R]) :- app(T,L,R).", "2 0 0"},
		{"", "0 0 0"}, {" \t\n", "0 0 0"}, {"% a.", "0 0 0"}, {"%\n%", "0 0 0"}, {"a.", "1 0 0"}, {" a . ", "1 0 0"}, {"a. % b.", "1 0 0"}, {"a.%\nb.%c.", "2 0 0"}, {"a.\nb.\tc. d.", "4 0 0"}, {"a. a. a.", "3 0 0"}, {"(a).", "1 0 0"}, {"((a :- b)).", "1 0 0"}, {"':-'(a,b).", "1 0 0"}, {"f. f(X). f(X,Y).", "3 0 0"}, {"{}. {a}. []. [a]. [a|b]. '.'(a). '.'. .. .", "8 0 0"},
		{"a :- X.", "1 0 0"}, {"a :- 1.", "1 0 0"}, {"a :- -1.", "1 0 0"}, {"a :- (b :- c).", "1 0 0"}, {"a :- b,c;d,true.", "1 0 0"}, {"(a :- b) :- c.", "1 0 0"}, {"- 1. -(1) :- a. a + b. a < b :- c. \\ a.", "5 0 0"}, {"(:-). ':-'(a). ':-'(a,b,c).", "3 0 0"},
		{"true(a). fail(a). ','. ','(a). ','(a,b,c). ';'. ';'(a). (=). '='(a). '='(a,b,c). write. write(a,b). op. op(a,b). op(a,b,c,d).", "15 0 0"},
	} {
		loads(t, creed.New(), row[0], row[1])
	}
}

func TestP9Heads(t *testing.T) {
	for _, head := range []string{"true", "fail", "(a,b)", "(a;b)", "a = b", "write(X)", "op(1,xfx,a)", "X", "_", "0", "7", "-7", "'true'", "','(a,b)", "';'(a,b)", "'='(a,b)"} {
		loads(t, creed.New(), head+".", "0 12 0")
		loads(t, creed.New(), "("+head+") :- a.", "0 12 0")
		s := creed.New()
		loads(t, s, "a(1). % \n  ("+head+") :- a. a(2).", "1 12 11")
		solves(t, s, "a(X).", 9, 9, "X = 1 |  | 1 0")
	}
	// ahead of `:-` there is no call that a head may not be, but a clause
	loads(t, creed.New(), "a. ':-'(X,b).", "1 12 3")
}

func TestP9ReadErrors(t *testing.T) {
	long := strings.Repeat("x", api.MaxName+1)
	deepest := func(depth int) string {
		return strings.Repeat("f(", depth-1) + "a" + strings.Repeat(")", depth-1)
	}
	for _, row := range [][2]string{
		{"a", "0 5 1"}, {"a. b", "1 5 4"}, {"a. b % ", "1 5 7"}, {"a. b c. d.", "1 5 5"}, {"a.b.", "0 5 1"}, {"a. b. ).", "2 5 6"}, {"a. .", "1 5 3"}, {"a. \"", "1 5 3"}, {"a. 'b", "1 5 3"}, {"a. f(b;c).", "1 5 6"}, {"a. b :- c :- d.", "1 5 10"},
		{"a. " + long + ".", "1 4 3"}, {"a. b. 1000000000000000.", "2 3 6"}, {"a. b :- 1000000000000000.", "1 3 8"}, {"a. \n" + deepest(api.MaxDepth+1) + ".", "1 6 4"}, {"a. " + deepest(api.MaxDepth) + ".", "2 0 0"}, {"a. b :- " + deepest(api.MaxDepth) + ".", "1 6 3"}, {"a. b :- " + deepest(api.MaxDepth-1) + ".", "2 0 0"}, {"a. " + strings.Repeat("(", 200), "1 6 123"},
		// what no text has, and too much of it, is seen ahead of all
		{"a. b\x00", "0 2 4"}, {"a. \x7f", "0 2 3"}, {"1. \x7f", "0 2 3"}, {"a. %\r", "0 2 4"}, {"a. é", "0 2 3"},
		{strings.Repeat(" ", api.MaxText), "0 0 0"}, {"a." + strings.Repeat(" ", api.MaxText-2), "1 0 0"}, {"a." + strings.Repeat(" ", api.MaxText-1), "0 1 0"}, {strings.Repeat("\x00", api.MaxText+1), "0 1 0"},
	} {
		s := creed.New()
		loads(t, s, row[0], row[1])
		// what was taken in ahead of it is there, and no more
		want := "true |  | 1 0"
		if strings.HasPrefix(row[1], "0") {
			want = " |  | 1 0"
		}
		solves(t, s, "a.", 9, 9, want)
	}
}

func TestP9Many(t *testing.T) {
	s := mustLoad(t, strings.Repeat("a.", 1)+strings.Repeat(" b.", api.MaxClauses-3))
	loads(t, s, "c. d. % e\n e. f.", "2 10 11")
	for text, want := range map[string]string{
		"": "0 0 0", " % ": "0 0 0", " e.": "0 10 1", "e. f.": "0 10 0", "X.": "0 12 0", " true :- e.": "0 12 1", "e": "0 5 1", "e. X.": "0 10 0", "e f.": "0 5 2", "e. \x00": "0 2 3", "e. f g.": "0 10 0",
	} {
		loads(t, s, text, want)
	}
	solves(t, s, "c, d, a.", 99, 9, "true |  | 5 0")
	solves(t, s, "e ; f.", 99, 9, " |  | 3 0")
	other := creed.New()
	loads(t, other, strings.Repeat("b. ", api.MaxClauses), "200 0 0")
	loads(t, other, "b.", "0 10 0")
	loads(t, creed.New(), strings.Repeat("b. ", api.MaxClauses+1)+"X", "200 10 600")
}

// TestP9Rules: only the compound `:-` of two has a body, and a clause's head is what stands ahead of the outermost.
func TestP9Rules(t *testing.T) {
	s := mustLoad(t, "':-'(a). ':-'(b,fail,fail). ':-'. (c :- d) :- true. ':-'(e,fail). ':-'(f,(g :- h)).")
	for goal, want := range map[string]string{
		"a.": " |  | 1 0", "b.": " |  | 1 0", "c.": " |  | 1 0", "d.": " |  | 1 0", "e.": " |  | 2 0", "f.": " |  | 2 0", "g.": " |  | 1 0",
		"':-'(a).": "true |  | 1 0", "':-'(b,fail,fail).": "true |  | 1 0", "(:-).": "true |  | 1 0", "c :- d.": "true |  | 2 0", "':-'(X,Y).": "X = c, Y = d |  | 2 0",
	} {
		solves(t, s, goal, 99, 9, want)
	}
}

// TestP9Operators: clauses are read by the operators as they are then.
func TestP9Operators(t *testing.T) {
	s := creed.New()
	loads(t, s, "a likes b.", "0 5 2")
	mustOp(t, s, 700, "xfx", "likes")
	loads(t, s, "a likes b. a likes c :- b likes d.", "2 0 0")
	mustOp(t, s, 0, "xfx", "likes")
	loads(t, s, "a likes b.", "0 5 2")
	solves(t, s, "likes(a,X).", 9, 9, "X = b |  | 2 0")
	mustOp(t, s, 800, "xfx", "likes")
	solves(t, s, "Y = likes(X,X), a likes X.", 9, 9, "Y = (b likes b), X = b |  | 4 0")
	mustOp(t, s, 0, "xfx", ":-")
	loads(t, s, "a :- b.", "0 5 2")
	loads(t, s, "':-'(b likes d, true).", "1 0 0")
	solves(t, s, "a likes X.", 9, 9, "X = b / X = c |  | 3 0")
}

// TestP2Loaded: what a Session was told stays with it, and is told again by none of its answers.
func TestP2Loaded(t *testing.T) {
	one, two := mustLoad(t, "a(1)."), mustLoad(t, "a(2).")
	loads(t, one, "a(3). b :- a(3).", "2 0 0")
	solves(t, one, "a(X).", 9, 9, "X = 1 / X = 3 |  | 1 0")
	solves(t, two, "a(X).", 9, 9, "X = 2 |  | 1 0")
	solves(t, two, "b.", 9, 9, " |  | 1 0")
	solves(t, creed.New(), "a(X).", 9, 9, " |  | 1 0")
	tale, _ := one.Solve("a(X).", 9, 9)
	for i := range tale.Answers[:cap(tale.Answers)] {
		tale.Answers[:cap(tale.Answers)][i] = "spoilt"
	}
	solves(t, one, "a(X).", 9, 9, "X = 1 / X = 3 |  | 1 0")
	solves(t, two, "op(700,xfx,then).", 9, 9, "true |  | 1 0")
	if l := told(one.Ops()); l != beginning {
		t.Errorf("the other Session's Ops: %s", l)
	}
}
