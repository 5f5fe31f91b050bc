// Package reading: how a text is read as a term, by operators.
package reading

import (
	"strings"

	"creed/api"
	"creed/operators"
	"creed/signs"
	"creed/tokens"
)

// Fault is what the reader panics with where it gives up.
type Fault struct {
	Errno api.Errno
	Place int
}

func giveUp(e api.Errno, place int) { panic(Fault{Errno: e, Place: place}) }

type reader struct {
	text  string
	ops   *operators.Table
	token tokens.Token // the one that comes next
	open  int          // how many terms have begun and not ended
}

// Found is a term that was read, and where in the text it begins and ends, its END with it.
type Found struct {
	Term  api.Term
	Begin int
	End   int
}

// Next reads a text's first term that begins at from or, behind blanks, after it. It panics with a Fault, if there is none.
func Next(text string, from int, ops *operators.Table) Found {
	if len(text) > api.MaxText {
		giveUp(api.ErrLong, 0)
	}
	if stranger := signs.FirstStranger(text); stranger >= 0 {
		giveUp(api.ErrByte, stranger)
	}
	r := &reader{text: text, ops: ops, token: tokens.Next(text, from)}
	begin := r.token.Place
	if r.token.Kind == tokens.Nothing {
		giveUp(api.ErrEnd, begin)
	}
	t := r.term(api.MaxPriority)
	if r.token.Kind != tokens.End {
		r.refuse()
	}
	if depth(t) > api.MaxDepth {
		giveUp(api.ErrDeep, begin)
	}
	return Found{Term: t, Begin: begin, End: r.token.End}
}

// refuse gives up at the token that comes. That it is no token counts ahead of that it can't stand there.
func (r *reader) refuse() {
	if r.token.Kind == tokens.Faulty {
		giveUp(r.token.Errno, r.token.Place)
	}
	giveUp(api.ErrText, r.token.Place)
}

func (r *reader) advance() { r.token = tokens.Next(r.text, r.token.End) }

func (r *reader) take(mark string) {
	if !r.token.Is(mark) {
		r.refuse()
	}
	r.advance()
}

// took takes that mark, if it comes.
func (r *reader) took(mark string) bool {
	comes := r.token.Is(mark)
	if comes {
		r.advance()
	}
	return comes
}

// term reads a TERM of a priority of at most most.
func (r *reader) term(most int) api.Term {
	if r.open == 2*api.MaxDepth {
		if r.token.Kind == tokens.Faulty {
			r.refuse()
		}
		giveUp(api.ErrDeep, r.token.Place)
	}
	r.open++
	t, priority := r.operand(most)
	t = r.followers(t, priority, most)
	r.open--
	return t
}

// operand reads an operand, and tells its priority.
func (r *reader) operand(most int) (api.Term, int) {
	switch token := r.token; token.Kind {
	case tokens.Variable:
		r.advance()
		return api.Term{Kind: api.Variable, Name: strings.Clone(token.Name)}, 0
	case tokens.Number:
		r.advance()
		return api.Term{Kind: api.Integer, Value: token.Value}, 0
	case tokens.Mark:
		return r.bracketed(), 0
	case tokens.Word:
		return r.word(most)
	}
	r.refuse()
	return api.Term{}, 0
}

func (r *reader) bracketed() api.Term {
	switch {
	case r.took("("):
		t := r.term(api.MaxPriority)
		r.take(")")
		return t
	case r.took("["):
		if r.took("]") {
			return atom("[]")
		}
		return r.list()
	case r.took("{"):
		if r.took("}") {
			return atom("{}")
		}
		t := r.term(api.MaxPriority)
		r.take("}")
		return compound("{}", t)
	}
	r.refuse()
	return api.Term{}
}

// list reads what stands behind the bracket of a list that is not empty.
func (r *reader) list() api.Term {
	elements := r.elements()
	list := atom("[]")
	if r.took("|") {
		list = r.term(operators.ArgumentMost)
	}
	r.take("]")
	for i := len(elements) - 1; i >= 0; i-- {
		list = compound(".", elements[i], list)
	}
	return list
}

func (r *reader) elements() []api.Term {
	elements := []api.Term{r.term(operators.ArgumentMost)}
	for r.took(",") {
		elements = append(elements, r.term(operators.ArgumentMost))
	}
	return elements
}

// word reads an operand that begins with a word, and tells its priority.
func (r *reader) word(most int) (api.Term, int) {
	word := r.token
	if r.opens(word) {
		r.advance()
		r.take("(")
		args := r.elements()
		r.take(")")
		return compound(word.Name, args...), 0
	}
	if number, ok := r.negated(word); ok {
		r.token = number
		r.advance()
		return api.Term{Kind: api.Integer, Value: -number.Value}, 0
	}
	r.advance()
	front, ok := r.ops.Front(word.Name)
	if !ok || r.endsOperand() {
		return atom(word.Name), 0
	}
	if front.Priority > most {
		giveUp(api.ErrText, word.Place)
	}
	return compound(word.Name, r.term(front.Right())), front.Priority
}

// opens tells whether the word has its arguments right behind it.
func (r *reader) opens(word tokens.Token) bool {
	return strings.HasPrefix(r.text[word.End:], "(")
}

// negated is the number that the word makes a number below 0.
func (r *reader) negated(word tokens.Token) (tokens.Token, bool) {
	if word.Name != "-" || word.Quoted {
		return tokens.Token{}, false
	}
	next := tokens.Next(r.text, word.End)
	return next, next.Kind == tokens.Number && next.Place == word.End
}

// endsOperand tells whether, by what comes next, an operator in front has no operand and so is an atom.
func (r *reader) endsOperand() bool {
	next := r.token
	switch next.Kind {
	case tokens.Nothing, tokens.End:
		return true
	case tokens.Mark:
		return strings.Contains(")]},|", next.Name)
	case tokens.Word:
		_, follower := r.ops.Follower(next.Name)
		_, front := r.ops.Front(next.Name)
		_, negative := r.negated(next)
		return follower && !front && !negative && !r.opens(next)
	}
	return false
}

// followers goes on from left, of that priority, with the followers that come.
func (r *reader) followers(left api.Term, priority int, most int) api.Term {
	for {
		name := r.token.Name
		o, ok := r.follower()
		if !ok || o.Priority > most || priority > o.Left() {
			return left
		}
		r.advance()
		if o.Behind() {
			left = compound(name, left)
		} else {
			left = compound(name, left, r.term(o.Right()))
		}
		priority = o.Priority
	}
}

// follower is the operator that the token that comes is, behind a term.
func (r *reader) follower() (operators.Operator, bool) {
	if r.token.Kind == tokens.Word || r.token.Is(",") {
		return r.ops.Follower(r.token.Name)
	}
	return operators.Operator{}, false
}

// A name is cloned: a piece of the text would keep all of it.
func atom(name string) api.Term {
	return api.Term{Kind: api.Atom, Name: strings.Clone(name)}
}

func compound(name string, args ...api.Term) api.Term {
	return api.Term{Kind: api.Compound, Name: strings.Clone(name), Args: args}
}

func depth(t api.Term) int {
	deepest := 0
	for _, arg := range t.Args {
		deepest = max(deepest, depth(arg))
	}
	return deepest + 1
}
