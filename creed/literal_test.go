package creed_test

import (
	"fmt"
	"maps"
	"math/rand/v2"
	"strconv"
	"strings"
	"testing"

	"creed/api"
	"creed/creed"
)

// literal is a search as the document tells it, word by word: with all copied, and nothing shared.
type literal struct {
	by          *creed.Session // has the operators
	clauses     []api.Term
	own         []string // the goal's variables
	given, work int
	fuel, most  int
	tale        api.Tale
	errno       api.Errno
	ended       bool
}

type bound map[string]api.Term

// tooMuch is how much work a literal search may make.
const tooMuch = 200000

func (p *literal) stop(e api.Errno) { p.ended, p.errno = true, e }

func (p *literal) tired() bool {
	p.work++
	return p.work > tooMuch
}

func walk(t api.Term, b bound) api.Term {
	for t.Kind == api.Variable {
		u, ok := b[t.Name]
		if !ok {
			return t
		}
		t = u
	}
	return t
}

func (p *literal) whole(t api.Term, b bound) api.Term {
	t = walk(t, b)
	if t.Kind != api.Compound || p.tired() {
		return t
	}
	u := api.Term{Kind: t.Kind, Name: t.Name}
	for _, a := range t.Args {
		u.Args = append(u.Args, p.whole(a, b))
	}
	return u
}

func (p *literal) stands(name string, t api.Term, b bound) bool {
	t = walk(t, b)
	if p.tired() || t.Kind == api.Variable && t.Name == name {
		return true
	}
	for _, a := range t.Args {
		if p.stands(name, a, b) {
			return true
		}
	}
	return false
}

func (p *literal) same(x, y api.Term, b bound) bool {
	x, y = walk(x, b), walk(y, b)
	switch {
	case p.tired():
		return false
	case x.Kind == api.Variable && y.Kind == api.Variable && x.Name == y.Name:
		return true
	case x.Kind == api.Variable:
		if p.stands(x.Name, y, b) {
			return false
		}
		b[x.Name] = y
		return true
	case y.Kind == api.Variable:
		return p.same(y, x, b)
	case x.Kind != y.Kind || x.Name != y.Name || x.Value != y.Value || len(x.Args) != len(y.Args):
		return false
	}
	for i := range x.Args {
		if !p.same(x.Args[i], y.Args[i], b) {
			return false
		}
	}
	return true
}

func variablesOf(t api.Term, names []string) []string {
	if t.Kind == api.Variable && !strings.Contains("|"+strings.Join(names, "|")+"|", "|"+t.Name+"|") {
		names = append(names, t.Name)
	}
	for _, a := range t.Args {
		names = variablesOf(a, names)
	}
	return names
}

func (p *literal) newName() string {
	for {
		p.given++
		name := "_" + strconv.Itoa(p.given)
		if !strings.Contains("|"+strings.Join(p.own, "|")+"|", "|"+name+"|") {
			return name
		}
	}
}

func renamed(t api.Term, names map[string]string) api.Term {
	if t.Kind == api.Variable {
		return variable(names[t.Name])
	}
	u := api.Term{Kind: t.Kind, Name: t.Name, Value: t.Value}
	for _, a := range t.Args {
		u.Args = append(u.Args, renamed(a, names))
	}
	return u
}

func (p *literal) answer(b bound) {
	var parts []string
	for _, name := range p.own {
		t := p.whole(variable(name), b)
		text, e := p.by.Write(t)
		if e == api.OK && t.Kind == api.Compound {
			text, e = p.by.Write(of("=", variable("V"), t))
			text = strings.TrimPrefix(text, "V = ")
		}
		if e != api.OK {
			p.stop(api.ErrTerm)
			return
		}
		parts = append(parts, name+" = "+text)
	}
	if len(parts) == 0 {
		parts = []string{"true"}
	}
	p.tale.Answers = append(p.tale.Answers, strings.Join(parts, ", "))
	if len(p.tale.Answers) == p.most {
		p.stop(api.OK)
	}
}

// run does the goals in all ways, till the search is ended.
func (p *literal) run(goals []api.Term, b bound) {
	if p.ended || p.work > tooMuch {
		return
	}
	if len(goals) == 0 {
		p.answer(b)
		return
	}
	if p.tale.Steps == p.fuel {
		p.stop(api.ErrFuel)
		return
	}
	p.tale.Steps++
	goal, rest := walk(goals[0], b), goals[1:]
	with := func(ahead ...api.Term) []api.Term { return append(ahead, rest...) }
	switch fmt.Sprint(goal.Kind, goal.Name, len(goal.Args)) {
	case "0true0":
		p.run(rest, b)
	case "0fail0":
	case "3,2":
		p.run(with(goal.Args[0], goal.Args[1]), b)
	case "3;2":
		p.run(with(goal.Args[0]), b)
		p.run(with(goal.Args[1]), b)
	case "3=2":
		if c := maps.Clone(b); p.same(goal.Args[0], goal.Args[1], c) {
			p.run(rest, c)
		}
	case "3write1":
		text, e := p.by.Write(p.whole(goal.Args[0], b))
		if e != api.OK {
			p.stop(api.ErrGoal)
			return
		}
		p.tale.Output += text
		p.run(rest, b)
	case "3op3":
		o, k, n := walk(goal.Args[0], b), walk(goal.Args[1], b), walk(goal.Args[2], b)
		if o.Kind != api.Integer || k.Kind != api.Atom || n.Kind != api.Atom {
			p.stop(api.ErrGoal)
		} else if p.by.Op(o.Value, k.Name, n.Name) == api.OK {
			p.run(rest, b)
		}
	default:
		p.byClauses(goal, rest, b)
	}
}

func (p *literal) byClauses(goal api.Term, rest []api.Term, b bound) {
	if goal.Kind == api.Variable || goal.Kind == api.Integer {
		p.stop(api.ErrGoal)
		return
	}
	for _, clause := range p.clauses {
		if p.ended {
			return
		}
		names := map[string]string{}
		for _, name := range variablesOf(clause, nil) {
			names[name] = p.newName()
		}
		head, todo := renamed(clause, names), rest
		if head.Kind == api.Compound && head.Name == ":-" && len(head.Args) == 2 {
			todo = append([]api.Term{head.Args[1]}, rest...)
			head = head.Args[0]
		}
		if c := maps.Clone(b); p.same(goal, head, c) {
			p.run(todo, c)
		}
	}
}

// chooser makes programs, by a counted source.
type chooser struct{ *rand.Rand }

func (c chooser) of(from string) string {
	words := strings.Fields(from)
	return words[c.IntN(len(words))]
}

func (c chooser) term(depth int, variables string) string {
	switch n := c.IntN(12); {
	case n < 6:
		return c.of(variables)
	case n < 8 || depth == 0:
		return c.of("a a a b [] 1 -1 (-)")
	case n == 8:
		return "[" + c.term(depth-1, variables) + "|" + c.term(depth-1, variables) + "]"
	case n == 9:
		return c.of("f h") + "(" + c.term(depth-1, variables) + ")"
	}
	return c.of("g k") + "(" + c.term(depth-1, variables) + "," + c.term(depth-1, variables) + ")"
}

func (c chooser) call(variables string) string {
	switch c.IntN(7) {
	case 0:
		return "r"
	case 1, 2:
		return "p(" + c.term(2, variables) + ")"
	}
	return "q(" + c.term(2, variables) + "," + c.term(2, variables) + ")"
}

func (c chooser) goal(depth int, variables string) string {
	switch n := c.IntN(24); {
	case n < 6 && depth > 0:
		return "(" + c.goal(depth-1, variables) + "," + c.goal(depth-1, variables) + ")"
	case n < 9 && depth > 0:
		return "(" + c.goal(depth-1, variables) + ";" + c.goal(depth-1, variables) + ")"
	case n < 14:
		return "(" + c.term(2, variables) + " = " + c.term(2, variables) + ")"
	case n == 14:
		return "write(" + c.term(2, variables) + ")"
	case n == 15:
		return c.of("true true fail")
	case n == 16 && c.IntN(6) == 0:
		return "op(" + c.of("0 200 700 699 1300") + "," + c.of("xfx xfy yf fy X") + "," + c.of("g f k h") + ")"
	case n == 17 && c.IntN(4) == 0:
		return c.of(variables)
	}
	return c.call(variables)
}

func (c chooser) program() string {
	text := ""
	for range 3 + c.IntN(7) {
		text += c.call("X Y Z X Y _1")
		if c.IntN(5) < 2 {
			text += " :- " + c.goal(2, "X Y Z X Y _2")
		}
		text += ".\n"
	}
	return text
}

// TestP11Literal holds Solve against the literal search.
func TestP11Literal(t *testing.T) {
	random := chooser{rand.New(rand.NewPCG(11, 10))}
	answered, outcomes := 0, map[api.Errno]int{}
	for range 20000 {
		program, goal := random.program(), random.goal(3, "X Y Z _1 _3")
		s, p := creed.New(), &literal{by: creed.New(), fuel: random.IntN(60), most: random.IntN(6)}
		n, e, at := s.Load(program)
		if e != api.OK {
			t.Fatalf("Load(%q): error %d at %d", program, e, at)
		}
		for from := 0; len(p.clauses) < n; {
			u, end, _, _ := s.Read(program[from:])
			p.clauses = append(p.clauses, u)
			from += end
		}
		u, _, e, _ := s.Read(goal + ".")
		if e != api.OK {
			t.Fatalf("Read(%q): error %d", goal, e)
		}
		p.own = variablesOf(u, nil)
		if p.most > 0 {
			p.run([]api.Term{u}, bound{})
		}
		tale, e := s.Solve(goal+".", p.fuel, p.most)
		if p.work > tooMuch {
			continue
		}
		outcomes[e]++
		answered += len(tale.Answers)
		if got, want := fmt.Sprint(strings.Join(tale.Answers, " / "), tale.Output, tale.Steps, e), fmt.Sprint(strings.Join(p.tale.Answers, " / "), p.tale.Output, p.tale.Steps, p.errno); got != want {
			t.Fatalf("by\n%sSolve(%s, %d, %d) = %s\nwant %s", program, goal, p.fuel, p.most, got, want)
		}
		if got, want := told(s.Ops()), told(p.by.Ops()); got != want {
			t.Fatalf("by\n%sSolve(%s): Ops %s\nwant %s", program, goal, got, want)
		}
	}
	for _, e := range []api.Errno{api.OK, api.ErrFuel, api.ErrGoal} {
		if outcomes[e] == 0 {
			t.Errorf("no search ended with %d", e)
		}
	}
	if answered < 10000 {
		t.Errorf("no more than %d answers", answered)
	}
	t.Log(outcomes, answered)
}
