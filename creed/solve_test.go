package creed_test

import (
	"fmt"
	"strings"
	"sync"
	"testing"

	"creed/api"
	"creed/creed"
)

const appends = "app([],L,L). app([H|T],L,[H|R]) :- app(T,L,R)."

// row: a goal, and its Tale with much fuel and for many answers.
type row struct{ goal, want string }

func solvesAll(t *testing.T, program string, rows []row) {
	t.Helper()
	for _, r := range rows {
		solves(t, mustLoad(t, program), r.goal, 1000, 100, r.want)
	}
}

func TestP10Arguments(t *testing.T) {
	s := mustLoad(t, "p(1). p(2).")
	for _, c := range []struct {
		goal       string
		fuel, most int
		want       string
	}{
		{"p(X).", -1, 1, " |  | 0 13"}, {"p(X).", -1 << 63, 1, " |  | 0 13"}, {"p(X).", api.MaxFuel + 1, 1, " |  | 0 13"}, {"p(X).", 1<<63 - 1, 1, " |  | 0 13"}, {"p(X).", 1, -1, " |  | 0 13"}, {"p(X).", 1, 101, " |  | 0 13"}, {"p(X).", 1, -1 << 63, " |  | 0 13"}, {"p(X).", api.MaxFuel + 1, 101, " |  | 0 13"},
		{"p(", -1, 1, " |  | 0 13"}, {"", 1, 101, " |  | 0 13"}, {"\x00", 20001, 1, " |  | 0 13"},
		{"p(X).", api.MaxFuel, 100, "X = 1 / X = 2 |  | 1 0"}, {"p(X).", 0, 0, " |  | 0 0"}, {"X.", 9, 0, " |  | 0 0"}, {"p(X).", 0, 1, " |  | 0 11"}, {"X.", 0, 1, " |  | 0 11"}, {"true.", 0, 1, " |  | 0 11"},
		{"", 9, 9, " |  | 0 7"}, {" % ", 9, 9, " |  | 0 7"}, {"", 9, 0, " |  | 0 7"}, {"p(X)", 9, 9, " |  | 0 5"}, {"p(X) q.", 9, 0, " |  | 0 5"}, {"p(\"", 9, 9, " |  | 0 5"}, {"p(1000000000000000).", 9, 9, " |  | 0 3"}, {strings.Repeat("p", 41) + ".", 9, 9, " |  | 0 4"}, {"p(X).\x00", 9, 9, " |  | 0 2"}, {strings.Repeat(" ", api.MaxText+1), 9, 9, " |  | 0 1"}, {strings.Repeat("(", 200), 9, 9, " |  | 0 6"}, {strings.Repeat("p(", 60) + "X" + strings.Repeat(")", 60) + ".", 9, 9, " |  | 0 6"},
		{"p(X). q(", 9, 9, "X = 1 / X = 2 |  | 1 0"}, {"p(X). \"", 9, 9, "X = 1 / X = 2 |  | 1 0"}, {" p(X) . % \n", 9, 9, "X = 1 / X = 2 |  | 1 0"}, {"p(X)." + strings.Repeat(" ", api.MaxText-5), 9, 9, "X = 1 / X = 2 |  | 1 0"},
	} {
		solves(t, s, c.goal, c.fuel, c.most, c.want)
	}
}

// TestP10Ends: where a search ends, by the answers, by the fuel, by itself.
func TestP10Ends(t *testing.T) {
	s := mustLoad(t, appends+" l :- l. p(1). p(2). p(3). u(X) :- p(X), write(X).")
	goal := "app(X,Y,[1,2])."
	one, two, three := "X = [], Y = [1,2]", "X = [1], Y = [2]", "X = [1,2], Y = []"
	for _, c := range []struct {
		goal       string
		fuel, most int
		want       string
	}{
		{goal, 100, 9, one + " / " + two + " / " + three + " |  | 3 0"}, {goal, 3, 3, one + " / " + two + " / " + three + " |  | 3 0"}, {goal, 3, 4, one + " / " + two + " / " + three + " |  | 3 0"}, {goal, 2, 9, one + " / " + two + " |  | 2 11"}, {goal, 2, 2, one + " / " + two + " |  | 2 0"}, {goal, 1, 1, one + " |  | 1 0"}, {goal, 1, 2, one + " |  | 1 11"}, {goal, 0, 1, " |  | 0 11"},
		{"l.", api.MaxFuel, 1, fmt.Sprint(" |  | ", api.MaxFuel, " 11")}, {"p(X), l.", 10, 9, " |  | 10 11"}, {"p(X) ; l.", 10, 9, "X = 1 / X = 2 / X = 3 |  | 10 11"}, {"p(X) ; l.", 2, 3, "X = 1 / X = 2 / X = 3 |  | 2 0"},
		{"u(X).", 100, 2, "X = 1 / X = 2 | 12 | 5 0"}, {"u(X).", 100, 3, "X = 1 / X = 2 / X = 3 | 123 | 6 0"}, {"u(X).", 5, 3, "X = 1 / X = 2 | 12 | 5 11"}, {"u(X).", 3, 3, " |  | 3 11"}, {"p(X), p(Y), p(Z), p(X), p(Y), fail.", 30, 9, " |  | 30 11"},
		{"p(X), p(Y), p(Z), p(U), p(V).", 9999, 100, ""}, {"true ; X.", 9, 1, "X = X |  | 2 0"}, {"true ; X.", 9, 2, "X = X |  | 3 12"}, {"write(a), X.", 9, 2, " | a | 3 12"}, {"write(a) ; X.", 9, 2, "X = X | a | 3 12"}, {"p(X), (X = 2, 7 ; write(X)).", 99, 9, "X = 1 | 1 | 10 12"},
	} {
		if c.want != "" {
			solves(t, s, c.goal, c.fuel, c.most, c.want)
		} else if tale, e := s.Solve(c.goal, c.fuel, c.most); len(tale.Answers) != c.most || e != api.OK || tale.Answers[99] != "X = 2, Y = 1, Z = 3, U = 1, V = 1" {
			t.Errorf("Solve(%s): %d answers, error %d", c.goal, len(tale.Answers), e)
		}
	}
}

func TestP11Calls(t *testing.T) {
	solvesAll(t, "p(1). p(2). c(X) :- X. t. f. t(a). d :- t ; fail. g(X) :- X = (p(Y) , Z = Y), X, write(Z).", []row{
		{"true.", "true |  | 1 0"}, {"fail.", " |  | 1 0"}, {"true, fail.", " |  | 3 0"}, {"fail, true.", " |  | 2 0"}, {"fail ; true.", "true |  | 3 0"}, {"true ; true.", "true / true |  | 3 0"}, {"true, true, true.", "true |  | 5 0"}, {"(true, true), true.", "true |  | 5 0"}, {"(fail ; fail) ; fail.", " |  | 5 0"},
		{"X = 1 ; X = 2.", "X = 1 / X = 2 |  | 3 0"}, {"(X = 1 ; X = 2), (Y = 3 ; Y = 4).", "X = 1, Y = 3 / X = 1, Y = 4 / X = 2, Y = 3 / X = 2, Y = 4 |  | 10 0"}, {"X = 1, X = 2 ; X = 3.", "X = 3 |  | 5 0"}, {"(X = 1 ; X = 2), X = 2.", "X = 2 |  | 6 0"}, {"p(X), p(X).", "X = 1 / X = 2 |  | 4 0"}, {"p(X), p(Y).", "X = 1, Y = 1 / X = 1, Y = 2 / X = 2, Y = 1 / X = 2, Y = 2 |  | 4 0"},
		{"X = true, X.", "X = true |  | 3 0"}, {"X = fail ; X = true, X.", "X = fail / X = true |  | 5 0"}, {"X = p(Y), X.", "X = p(1), Y = 1 / X = p(2), Y = 2 |  | 3 0"}, {"c(true).", "true |  | 2 0"}, {"c(c(c(t))).", "true |  | 4 0"}, {"c((p(X),X=2)).", "X = 2 |  | 5 0"}, {"c((fail ; true)).", "true |  | 4 0"}, {"g(X).", "X = (p(1),1 = 1) / X = (p(2),2 = 2) | 12 | 10 0"},
		{"none.", " |  | 1 0"}, {"none(X).", " |  | 1 0"}, {"p.", " |  | 1 0"}, {"p(1,2).", " |  | 1 0"}, {"t(a).", "true |  | 1 0"}, {"t(b).", " |  | 1 0"}, {"t(X).", "X = a |  | 1 0"}, {"'t'.", "true |  | 1 0"}, {"d.", "true |  | 4 0"}, {"[].", " |  | 1 0"}, {"{}.", " |  | 1 0"}, {"a :- b.", " |  | 1 0"}, {"1 < 2.", " |  | 1 0"}, {"- 1.", " |  | 1 0"}, {"true(a).", " |  | 1 0"}, {"write.", " |  | 1 0"}, {"write(a,b).", " |  | 1 0"}, {"op(1,a).", " |  | 1 0"}, {"'='(a).", " |  | 1 0"}, {"','(a).", " |  | 1 0"}, {"','.", " |  | 1 0"},
		{"X.", " |  | 1 12"}, {"_.", " |  | 1 12"}, {"7.", " |  | 1 12"}, {"-7.", " |  | 1 12"}, {"c(X).", " |  | 2 12"}, {"c(7).", " |  | 2 12"}, {"p(X), X.", " |  | 3 12"}, {"X = 1, X.", " |  | 3 12"}, {"true, 1.", " |  | 3 12"}, {"(1 , true).", " |  | 2 12"}, {"fail, 1.", " |  | 2 0"}, {"true ; 1.", "true |  | 3 12"},
	})
}

func TestP11Same(t *testing.T) {
	solvesAll(t, "e(X,X). w(X,Y,Z) :- X = f(Y), Y = g(Z).", []row{
		{"a = a.", "true |  | 1 0"}, {"a = b.", " |  | 1 0"}, {"a = 'a'.", "true |  | 1 0"}, {"1 = 1.", "true |  | 1 0"}, {"1 = 2.", " |  | 1 0"}, {"1 = -1.", " |  | 1 0"}, {"1 = '1'.", " |  | 1 0"}, {"-1 = - 1.", " |  | 1 0"}, {"0 = a.", " |  | 1 0"}, {"'' = 0.", " |  | 1 0"}, {"-0 = 0.", "true |  | 1 0"}, {"a = a(b).", " |  | 1 0"}, {"f(a) = g(a).", " |  | 1 0"}, {"f(a) = f(b).", " |  | 1 0"}, {"f(a) = f(a,a).", " |  | 1 0"}, {"f(a,b) = f(a,b).", "true |  | 1 0"}, {"[] = '[]'.", "true |  | 1 0"}, {"[a,b] = '.'(a,'.'(b,[])).", "true |  | 1 0"}, {"[] = {}.", " |  | 1 0"}, {"'X' = X.", "X = 'X' |  | 1 0"},
		{"X = X.", "X = X |  | 1 0"}, {"X = Y.", "X = Y, Y = Y |  | 1 0"}, {"X = a.", "X = a |  | 1 0"}, {"a = X.", "X = a |  | 1 0"}, {"f(X,b) = f(a,Y).", "X = a, Y = b |  | 1 0"}, {"f(X,X) = f(a,b).", " |  | 1 0"}, {"f(X,X) = f(Y,a).", "X = a, Y = a |  | 1 0"}, {"f(X,Y) = f(Y,X).", "X = Y, Y = Y |  | 1 0"}, {"f(X,Y,Z) = f(Y,Z,X).", "X = Z, Y = Z, Z = Z |  | 1 0"}, {"f(X,Y,Z) = f(Y,Z,1).", "X = 1, Y = 1, Z = 1 |  | 1 0"}, {"_ = 1.", "_ = 1 |  | 1 0"}, {"f(_,_) = f(1,2).", " |  | 1 0"}, {"f(_) = f(A), _ = 1.", "_ = 1, A = 1 |  | 3 0"},
		{"X = Y, X = 1.", "X = 1, Y = 1 |  | 3 0"}, {"X = Y, Y = X, X = 1.", "X = 1, Y = 1 |  | 5 0"}, {"X = Y, Y = Z, Z = X, f(X) = f(1).", "X = 1, Y = 1, Z = 1 |  | 7 0"}, {"X = f(Y), Y = 1.", "X = f(1), Y = 1 |  | 3 0"}, {"X = f(Y), X = f(1).", "X = f(1), Y = 1 |  | 3 0"}, {"X = 1, X = 2.", " |  | 3 0"}, {"X = f(Y), X = f(Z), Y = a.", "X = f(a), Y = a, Z = a |  | 5 0"}, {"X = f(A,B), X = f(B,C).", "X = f(C,C), A = C, B = C, C = C |  | 3 0"},
		{"X = f(X).", " |  | 1 0"}, {"f(X) = X.", " |  | 1 0"}, {"X = f(a,g(X)).", " |  | 1 0"}, {"X = [X].", " |  | 1 0"}, {"X = f(Y), Y = g(X).", " |  | 3 0"}, {"X = Y, X = f(Y).", " |  | 3 0"}, {"f(X,Y) = f(g(Y),g(X)).", " |  | 1 0"}, {"f(X,X) = f(Y,g(Y)).", " |  | 1 0"}, {"f(X,Y,X) = f(g(Y),Z,Z).", " |  | 1 0"}, {"X = f(X) ; X = 1.", "X = 1 |  | 3 0"}, {"X = f(Y), Y = f(Z), Z = f(X).", " |  | 5 0"}, {"X = f(Y), Y = f(Z), X = f(f(Z)).", "X = f(f(Z)), Y = f(Z), Z = Z |  | 5 0"}, {"X = f(Y), X = Z, (Z = Y ; Y = 1).", "X = f(1), Y = 1, Z = f(1) |  | 7 0"},
		{"e(X,f(X)).", " |  | 1 0"}, {"e(f(X),X).", " |  | 1 0"}, {"e(X,Y).", "X = _1, Y = _1 |  | 1 0"}, {"e(f(X),f(1)).", "X = 1 |  | 1 0"}, {"e(X,1).", "X = 1 |  | 1 0"}, {"e(1,X).", "X = 1 |  | 1 0"}, {"e(f(X),f(Y)).", "X = X, Y = X |  | 1 0"}, {"w(X,Y,X).", " |  | 4 0"}, {"w(X,Y,a).", "X = f(g(a)), Y = g(a) |  | 4 0"}, {"w(X,Y,Y).", " |  | 4 0"}, {"e(X,Y), e(Y,Z), e(Z,f(X)).", " |  | 5 0"},
	})
	// what was bound ahead of a clash is free again
	solvesAll(t, "e(f(X,a),X). e(X,X).", []row{{"e(f(b,Y),b).", "Y = a |  | 1 0"}, {"e(f(b,Y),Z).", "Y = a, Z = b / Y = Y, Z = f(b,Y) |  | 1 0"}, {"f(X,Y,a) = f(1,2,b) ; true.", "X = X, Y = Y |  | 3 0"}, {"e(Y,f(Y)) ; Y = 1.", "Y = 1 |  | 3 0"}})
}

// TestP11Order: clauses and ways in their order, the last way first, with goals and bindings as they were.
func TestP11Order(t *testing.T) {
	solvesAll(t, "p(3). p(1). q(X,Y) :- p(X), r(X,Y). p(2). r(1,a). r(3,b). r(3,c). r(X,d). s :- write(1), fail. s :- write(2). s :- write(3), fail. m(X,[X|T]). m(X,[Y|T]) :- m(X,T).", []row{
		{"p(X).", "X = 3 / X = 1 / X = 2 |  | 1 0"}, {"q(X,Y).", "X = 3, Y = b / X = 3, Y = c / X = 3, Y = d / X = 1, Y = a / X = 1, Y = d / X = 2, Y = d |  | 6 0"}, {"q(X,c).", "X = 3 |  | 6 0"}, {"s.", "true | 123 | 8 0"}, {"s, write(4), fail.", " | 1243 | 12 0"}, {"p(X), write(X), fail.", " | 312 | 11 0"}, {"p(X), write(X), X = 1 ; write(z).", "X = 1 / X = X | 312z | 13 0"},
		{"m(X,[1,2,3]).", "X = 1 / X = 2 / X = 3 |  | 4 0"}, {"m(X,[1,2,3]), m(X,[3,2]).", "X = 2 / X = 3 |  | 14 0"}, {"m(1,[X,Y]).", "X = 1, Y = Y / X = _7, Y = 1 |  | 3 0"}, {"(true ; write(b)), (write(a) ; write(c)), fail.", " | acbac | 16 0"},
	})
}

// TestP11Names: new variables' names are counted through the whole Solve, for each clause that is tried.
func TestP11Names(t *testing.T) {
	solvesAll(t, "v(X,Y).", []row{{"v(A,B).", "A = _1, B = _2 |  | 1 0"}, {"v(A,A).", "A = _2 |  | 1 0"}, {"v(A,B), v(C,D).", "A = _1, B = _2, C = _3, D = _4 |  | 3 0"}, {"v(A,1).", "A = _1 |  | 1 0"}, {"v(1,A).", "A = _2 |  | 1 0"}, {"v(_1,B).", "_1 = _2, B = _3 |  | 1 0"}, {"v(A,B), v(A,B).", "A = _3, B = _4 |  | 3 0"}, {"v(A,B) ; v(A,B).", "A = _1, B = _2 / A = _3, B = _4 |  | 3 0"}, {"v(f(A),B).", "A = A, B = _2 |  | 1 0"}})
	solvesAll(t, "a(Z,Y) :- b(X,Y,Z). b(A,B,C). none(X,Y,Z,U).", []row{{"b(X,Y,Z).", "X = _4, Y = _5, Z = _6 |  | 1 0"}, {"a(X,Y).", "X = _9, Y = _8 |  | 2 0"}, {"b(X,Y,Z), none.", " |  | 3 0"}, {"nothing, b(X,X,X) ; b(X,Y,Z).", "X = _14, Y = _15, Z = _16 |  | 4 0"}})
	// clauses whose head doesn't fit, by name, by number of Args, or by Args
	solvesAll(t, "k(1,X). j(X,Y,Z). k(X). k(2,X,X). k(2,X) :- X = f(Y,Z,Y). k(3,X).", []row{{"k(2,A).", "A = f(_8,_9,_8) |  | 2 0"}, {"k(3,A).", "A = _10 |  | 1 0"}, {"k(A,B).", "A = 1, B = _1 / A = 2, B = f(_8,_9,_8) / A = 3, B = _10 |  | 2 0"}})
	// the goal's own names are left out, and no others
	solvesAll(t, "v(A,B,C,D).", []row{
		{"v(A,B,C,D).", "A = _1, B = _2, C = _3, D = _4 |  | 1 0"}, {"v(_2,B,C,D).", "_2 = _1, B = _3, C = _4, D = _5 |  | 1 0"}, {"v(_3,_1,C,D).", "_3 = _2, _1 = _4, C = _5, D = _6 |  | 1 0"}, {"v(_4,_3,_2,_1).", "_4 = _5, _3 = _6, _2 = _7, _1 = _8 |  | 1 0"}, {"v(_5,_6,_8,D).", "_5 = _1, _6 = _2, _8 = _3, D = _4 |  | 1 0"}, {"v(_01,_0,_,__1).", "_01 = _1, _0 = _2, _ = _3, __1 = _4 |  | 1 0"}, {"v(_1a,_2_,'_3',D).", "_1a = _1, _2_ = _2, D = _4 |  | 1 0"}, {"v(A,_99999999999999999999999999999999999999,f(_2),_1), v(B,B,B,B).", "A = _3, _99999999999999999999999999999999999999 = _4, _2 = _2, _1 = _6, B = _10 |  | 3 0"}, {"v(A,B,C,D), X = f(_2), v(X,_2,_4,Y).", "A = _1, B = _3, C = _5, D = _6, X = f(_8), _2 = _8, _4 = _9, Y = _10 |  | 5 0"},
	})
	// a clause's variables are its own each time, also where they have names like new ones
	solvesAll(t, "v(_2,_1,X) :- w(X,_1). w(X,_2) :- X = g(_1,_3).", []row{{"v(A,B,C).", "A = _1, B = _8, C = g(_9,_10) |  | 3 0"}})
}

func TestP11Write(t *testing.T) {
	deep := func(n int, inside string) string {
		return strings.Repeat("f(", n) + inside + strings.Repeat(")", n)
	}
	solvesAll(t, "w(X) :- write(X), write(X).", []row{
		{"write(a).", "true | a | 1 0"}, {"write(a), write('B'), write(1 + 2).", "true | a'B'1 + 2 | 5 0"}, {"write('').", "true | '' | 1 0"}, {"write((a :- b,c)).", "true | a :- b,c | 1 0"}, {"write([1,2|X]).", "X = X | [1,2|X] | 1 0"}, {"write(X), X = 1, write(X).", "X = 1 | X1 | 5 0"}, {"write(X), w(X).", "X = _1 | X_1_1 | 6 0"}, {"w(f(X,Y)).", "X = X, Y = Y | f(X,Y)f(X,Y) | 4 0"}, {"write('a\\n').", "true | 'a\\n' | 1 0"}, {"write(-).", "true | - | 1 0"}, {"write(- = -), write(- 1), write(-1).", "true | (-) = (-)- 1-1 | 5 0"}, {"(write(a) ; write(b)), write(c), fail.", " | acbc | 10 0"}, {"write(write(a)).", "true | write(a) | 1 0"},
		{"X = " + deep(40, "Y") + ", Y = " + deep(19, "a") + ", write(X).", "X = " + deep(59, "a") + ", Y = " + deep(19, "a") + " | " + deep(59, "a") + " | 5 0"}, {"X = " + deep(40, "Y") + ", write(a), Y = " + deep(20, "a") + ", write(X).", " | a | 7 12"}, {"X = " + deep(40, "Y") + ", Y = " + deep(20, "a") + ", write(b).", " | b | 5 9"}, {"true ; X = " + deep(40, "X") + " ; X = " + deep(40, "Y") + ", Y = " + deep(20, "a") + " ; true.", "X = X, Y = Y |  | 8 9"}, {"X = " + deep(40, "Y") + ", Y = " + deep(20, "a") + ", fail ; write(c).", "X = X, Y = Y | c | 7 0"},
	})
}

// TestP11Proper: what is not proper can't be written, and what just is can.
func TestP11Proper(t *testing.T) {
	wide := strings.Repeat("a,", 1331)
	s := mustLoad(t, "w(X) :- write(X). three(f(X,X,X)) :- full(X).")
	loads(t, s, "full(g("+wide+"a)).", "1 0 0") // 1333 nodes: 3 * 1333 + 1 are MaxNodes
	loads(t, s, "more(g("+wide+"a,a)).", "1 0 0")
	full := "g(" + wide + "a)"
	solves(t, s, "three(X).", 9, 9, "X = f("+full+","+full+","+full+") |  | 2 0")
	solves(t, s, "three(X), w(X), fail.", 9, 9, " | f("+full+","+full+","+full+") | 7 0")
	for goal, want := range map[string]string{
		"three(X), Y = h(X).": " |  | 4 9", "three(X), Y = h(X), write(Y).": " |  | 6 12", "three(X), Y = h(X), w(Y).": " |  | 7 12", "three(X), Y = h(X), fail.": " |  | 6 0", "write(a), true ; three(X), Y = h(X).": "X = X, Y = Y | a | 8 9", "more(X), Y = f(X,X,X).": " |  | 3 9", "more(X), full(Y), Z = f(X,Y,Y).": " |  | 5 9",
	} {
		solves(t, s, goal, 99, 9, want)
	}
	if tale, e := s.Solve("more(X), full(Y), Z = g(X,Y).", 99, 9); e != api.OK || len(tale.Answers) != 1 {
		t.Errorf("terms that are proper one by one: %d answers, error %d", len(tale.Answers), e)
	}
}

func TestP11Answers(t *testing.T) {
	solvesAll(t, "", []row{
		{"X = (a , b).", "X = (a,b) |  | 1 0"}, {"X = (a ; b).", "X = (a ; b) |  | 1 0"}, {"X = (a :- b).", "X = (a :- b) |  | 1 0"}, {"X = (a = b).", "X = (a = b) |  | 1 0"}, {"X = (\\ a).", "X = (\\ a) |  | 1 0"}, {"X = a + b.", "X = a + b |  | 1 0"}, {"X = -, Y = (:-), Z = ','.", "X = -, Y = :-, Z = ',' |  | 5 0"}, {"X = (-).", "X = - |  | 1 0"}, {"X = (:-), Y = ','.", "X = :-, Y = ',' |  | 3 0"}, {"X = {a,b}.", "X = {a,b} |  | 1 0"}, {"X = [a,(b,c)].", "X = [a,(b,c)] |  | 1 0"}, {"X = 'it''s'.", "X = 'it''s' |  | 1 0"}, {"X = -1.", "X = -1 |  | 1 0"}, {"X = - 1.", "X = - 1 |  | 1 0"},
		{"Y = 1, X = 2, Z = Y.", "Y = 1, X = 2, Z = 1 |  | 5 0"}, {"f(Z,Y,Z,X) = f(1,2,1,3).", "Z = 1, Y = 2, X = 3 |  | 1 0"}, {"[A,B|C] = [1,2,3].", "A = 1, B = 2, C = [3] |  | 1 0"}, {"true ; X = 1.", "X = X / X = 1 |  | 3 0"}, {"X = f(Y,_).", "X = f(Y,_), Y = Y, _ = _ |  | 1 0"},
	})
}

func TestP11Operators(t *testing.T) {
	solvesAll(t, "o(P,K,N) :- op(P,K,N).", []row{
		{"op(700,xfx,likes), write(likes(a,b)).", "true | a likes b | 3 0"}, {"op(700,xfx,likes), fail ; write(likes(a,b)).", "true | a likes b | 5 0"}, {"o(700,xfx,likes), X = likes(1,2).", "X = (1 likes 2) |  | 4 0"}, {"X = likes(1,2), op(699,xfx,likes).", "X = 1 likes 2 |  | 3 0"}, {"X = 1 + 2, (write(X) ; op(0,yfx,+), write(X)).", "X = 1 + 2 / X = +(1,2) | 1 + 2+(1,2) | 7 0"}, {"P = 200, K = xf, N = !, op(P,K,N), write(!(a)).", "P = 200, K = xf, N = ! | a ! | 9 0"},
		{"op(-1,xfx,a).", " |  | 1 0"}, {"op(1201,xfx,a).", " |  | 1 0"}, {"op(999999999999999,xfx,a).", " |  | 1 0"}, {"op(1,xfxx,a).", " |  | 1 0"}, {"op(1,xfx,[]).", " |  | 1 0"}, {"op(1,[],a).", " |  | 1 0"}, {"op(1,xfx,',').", " |  | 1 0"}, {"op(0,xfx,'').", " |  | 1 0"}, {"op(1,xfx,[]) ; true.", "true |  | 3 0"}, {"op(0,xfx,nothing).", "true |  | 1 0"}, {"op(0,xfx,'a b').", "true |  | 1 0"},
		{"op(X,xfx,a).", " |  | 1 12"}, {"op(1,X,a).", " |  | 1 12"}, {"op(1,xfx,X).", " |  | 1 12"}, {"op(a,xfx,a).", " |  | 1 12"}, {"op(1,1,a).", " |  | 1 12"}, {"op(1,xfx,1).", " |  | 1 12"}, {"op(1,xfx,f(a)).", " |  | 1 12"}, {"op(1,f(xfx),a).", " |  | 1 12"}, {"op(1 + 1,xfx,a).", " |  | 1 12"}, {"op(9999,xfx,X).", " |  | 1 12"}, {"op(1,xfx,[a]).", " |  | 1 12"}, {"o(X,xfx,a).", " |  | 2 12"}, {"op('1',xfx,a).", " |  | 1 12"},
	})
	s := creed.New()
	solves(t, s, "op(700,xfx,likes), fail.", 9, 9, " |  | 3 0")
	solves(t, s, "op(300,fy,very), X.", 9, 9, " |  | 3 12")
	solves(t, s, "X = (very a likes very b).", 9, 9, "X = (very a likes very b) |  | 1 0")
	if text, e := s.Write(of("likes", atom("a"), atom("b"))); text != "a likes b" || e != api.OK {
		t.Errorf("Write: %s, %d", text, e)
	}
	for n := len(s.Ops()); n < api.MaxOps; n++ {
		solves(t, s, fmt.Sprint("op(1,xf,f", n, ")."), 9, 9, "true |  | 1 0")
	}
	solves(t, s, "op(1,xf,more).", 9, 9, " |  | 1 0")
	solves(t, s, "op(0,xf,f50), op(1,xf,more).", 9, 9, "true |  | 3 0")
}

// TestP1SolveShared: what stands in several places is looked through once; else these would not end.
func TestP1SolveShared(t *testing.T) {
	chain := func(name string, n int, last string) string {
		text := "("
		for i := range n {
			text += fmt.Sprintf("%s%d = f(%s%d,%s%d), ", name, i, name, i+1, name, i+1)
		}
		return text + name + fmt.Sprint(n) + " = " + last + ")"
	}
	s := mustLoad(t, "e(X,X). d(z,a). d(s(N),f(T,T)) :- d(N,T). g(z,T,T). g(s(N),A,T) :- g(N,f(A,A),T). o(X,Y) :- Y = f(X). p(f(X,Y),f(Y,X)) :- p(X,Y). p(a,a).")
	for goal, want := range map[string]api.Errno{
		chain("A", 50, "a") + ".": api.ErrTerm, chain("A", 50, "a") + ", write(A0).": api.ErrGoal, chain("A", 50, "a") + ", write(A40), fail.": api.OK,
		chain("A", 30, "a") + ", " + chain("B", 30, "a") + ", A0 = B0, fail.": api.OK, chain("A", 30, "X") + ", " + chain("B", 30, "Y") + ", A0 = B0, X = 1, Y = 1, write(ok), fail.": api.OK, chain("A", 30, "a") + ", " + chain("B", 30, "b") + ", A0 = B0.": api.OK, chain("A", 30, "X") + ", " + chain("B", 30, "Y") + ", e(A0,B0), e(g(A0,A1),g(B0,B1)), fail.": api.OK,
		chain("A", 50, "X") + ", X = g(A0).": api.OK, chain("A", 50, "X") + ", e(X,g(A0)).": api.OK, chain("A", 50, "X") + ", o(A0,X).": api.OK, chain("A", 30, "X") + ", " + chain("B", 30, "Y") + ", A0 = B0, X = g(B0).": api.OK, chain("A", 30, "X") + ", " + chain("B", 30, "A0") + ", B0 = A0.": api.OK,
		"N = " + strings.Repeat("s(", 55) + "z" + strings.Repeat(")", 55) + ", d(N,T), g(N,a,U), T = U, e(f(T,U),f(U,T)), p(T,U), fail.": api.OK,
	} {
		if tale, e := s.Solve(goal, api.MaxFuel, 9); e != want || len(tale.Answers) != 0 {
			t.Errorf("Solve(%s): %d answers, error %d, want %d", goal, len(tale.Answers), e, want)
		}
	}
	solves(t, s, chain("A", 30, "X")+", "+chain("B", 30, "Y")+", A0 = B0, X = 1, write(Y), fail.", 999, 9, " | 1 | 131 0")
}

// TestP1SolveLong: searches that go on, with terms that grow and grow, end with the fuel.
func TestP1SolveLong(t *testing.T) {
	for _, program := range []string{"n(X) :- n(f(f(f(X)))).", "n(X) :- Y = f(X,f(X)), n(Y).", "n(X) :- s(X,Y), n(Y). s(X,f(X)).", "n(X) :- s(X,Y), n(Y). s(X,Y) :- Y = f(X).", "n(X) :- n(X), n(X).", "n(X) :- n([X|X]). n(X).", "n(X) :- n(Y). n(X) :- X = 1.", "n(X) :- (n(X) ; n(X)), fail.", "n(X) :- X = f(Y), n(Y)."} {
		if tale, e := mustLoad(t, program).Solve("n(X).", api.MaxFuel, 1); e != api.ErrFuel || tale.Steps != api.MaxFuel || len(tale.Answers) != 0 {
			t.Errorf("%s: error %d, %d steps, %d answers", program, e, tale.Steps, len(tale.Answers))
		}
	}
	// a term far deeper than may be told, made the same as another one and looked through
	s := mustLoad(t, "n(0,X,X). n(s(A),X,Y) :- m(A,X,Y). m(A,X,Y) :- k(A,"+strings.Repeat("f(", 40)+"X"+strings.Repeat(")", 40)+",Y). k(A,X,Y) :- l(A,X,Y). l(A,X,Y) :- n(A,X,Y).")
	fifty := strings.Repeat("s(", 50) + "0" + strings.Repeat(")", 50)
	solves(t, s, "N = "+fifty+", n(N,a,X), n(N,X,Y), n(N,a,Z), n(N,Z,U), write(yes), Y = U, write(yes), V = g(Y), fail.", api.MaxFuel, 9, " | yesyes | 819 0")
	solves(t, s, "N = "+fifty+", n(N,A,X), n(N,X,Y), (A = Y ; write(no)), fail.", api.MaxFuel, 9, " | no | 411 0")
}

// TestManySolve: each call is one step for all others, Load and Solve too.
func TestManySolve(t *testing.T) {
	s := mustLoad(t, appends)
	var all sync.WaitGroup
	faults := make(chan string, 8*20*4)
	for range 8 {
		all.Go(func() {
			for i := range 20 {
				if n, e, at := s.Load("more(1)."); n != 1 || e != api.OK || at != 0 {
					faults <- fmt.Sprint("Load: ", n, e, at)
				}
				if tale, e := s.Solve("app(X,Y,[1,2,3]).", 99, 9); e != api.OK || len(tale.Answers) != 4 || tale.Steps != 4 {
					faults <- fmt.Sprint("Solve: ", tale, e)
				}
				tale, e := s.Solve(fmt.Sprint("op(", i%2*300, ",xfx,then), X = then(1,2), write(X)."), 99, 9)
				if want := []string{"then(1,2)", "1 then 2"}[i%2]; e != api.OK || len(tale.Answers) != 1 || tale.Answers[0] != "X = "+want || tale.Output != want {
					faults <- fmt.Sprint("Solve: ", tale, e)
				}
				s.Op(i%3*200, "xfx", "then")
				s.Ops()
			}
		})
	}
	all.Wait()
	close(faults)
	for fault := range faults {
		t.Error(fault)
	}
	if tale, e := s.Solve("more(X).", 9, 100); len(tale.Answers) != 100 || e != api.OK {
		t.Errorf("Solve: %d answers, error %d", len(tale.Answers), e)
	}
	loads(t, s, strings.Repeat("a. ", 100), "38 10 114")
}
