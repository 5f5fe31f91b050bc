// Package writing: how a term is written as a text, by operators.
package writing

import (
	"strconv"
	"strings"

	"creed/api"
	"creed/operators"
	"creed/tokens"
)

type writer struct {
	text strings.Builder
	ops  *operators.Table // nil: all is written without operators, lists and curly brackets too
}

// Text is the text of a proper term, where one of a priority of at most most is asked for.
func Text(t api.Term, ops *operators.Table, most int) string {
	w := &writer{ops: ops}
	w.term(t, most)
	return w.text.String()
}

// Canonical is the text of a proper term with no operators, no list and no curly notation.
func Canonical(t api.Term) string {
	w := &writer{}
	w.term(t, api.MaxPriority)
	return w.text.String()
}

func (w *writer) put(text string) { w.text.WriteString(text) }

func (w *writer) term(t api.Term, most int) {
	o := w.operator(t)
	w.enclosed(t, o, o.Priority > most)
}

// left writes what stands to the left of an operator.
func (w *writer) left(t api.Term, of operators.Operator) {
	o := w.operator(t)
	w.enclosed(t, o, o.Priority > of.Left() || takes(o, of) || w.isOperator(t))
}

// right writes what stands to the right of an operator.
func (w *writer) right(t api.Term, of operators.Operator) {
	o := w.operator(t)
	w.enclosed(t, o, o.Priority > of.Right() || w.isOperator(t))
}

// takes tells whether the last operand of o would take the operator that comes, as its own.
func takes(o, comes operators.Operator) bool {
	return (o.Kind == operators.XFY || o.Kind == operators.FY) && o.Priority == comes.Priority
}

// operator is the one that a term is written with; of priority 0, if with none.
func (w *writer) operator(t api.Term) operators.Operator {
	if w.ops == nil || t.Kind != api.Compound || isPair(t) {
		return operators.Operator{}
	}
	front, isFront := w.ops.Front(t.Name)
	follower, follows := w.ops.Follower(t.Name)
	switch {
	case len(t.Args) == 1 && isFront:
		return front
	case len(t.Args) == 1 && follows && follower.Behind():
		return follower
	case len(t.Args) == 2 && follows && !follower.Behind():
		return follower
	}
	return operators.Operator{}
}

// isOperator tells whether a term is an atom that would be read as an operator beside another one.
func (w *writer) isOperator(t api.Term) bool {
	if t.Kind != api.Atom {
		return false
	}
	_, front := w.ops.Front(t.Name)
	_, follower := w.ops.Follower(t.Name)
	return front || follower
}

// enclosed writes a term, with o if that is of a priority, in brackets or without.
func (w *writer) enclosed(t api.Term, o operators.Operator, brackets bool) {
	if brackets {
		w.put("(")
	}
	if o.Priority > 0 {
		w.operated(t, o)
	} else {
		w.bare(t)
	}
	if brackets {
		w.put(")")
	}
}

func (w *writer) operated(t api.Term, o operators.Operator) {
	first, last := t.Args[0], t.Args[len(t.Args)-1]
	switch {
	case o.InFront():
		w.name(t.Name)
		w.put(" ")
		w.right(last, o)
	case o.Behind():
		w.left(first, o)
		w.put(" ")
		w.name(t.Name)
	case t.Name == ",":
		w.left(first, o)
		w.put(",")
		w.right(last, o)
	default:
		w.left(first, o)
		w.put(" ")
		w.name(t.Name)
		w.put(" ")
		w.right(last, o)
	}
}

// bare writes a term that has no operator.
func (w *writer) bare(t api.Term) {
	switch {
	case t.Kind == api.Atom:
		w.atom(t.Name)
	case t.Kind == api.Integer:
		w.put(strconv.Itoa(t.Value))
	case t.Kind == api.Variable:
		w.put(t.Name)
	case w.ops != nil && isPair(t):
		w.list(t)
	case w.ops != nil && t.Name == "{}" && len(t.Args) == 1:
		w.put("{")
		w.term(t.Args[0], api.MaxPriority)
		w.put("}")
	default:
		w.call(t)
	}
}

func (w *writer) list(t api.Term) {
	ahead := "["
	for ; isPair(t); t = t.Args[1] {
		w.put(ahead)
		w.term(t.Args[0], operators.ArgumentMost)
		ahead = ","
	}
	if t.Kind != api.Atom || t.Name != "[]" {
		w.put("|")
		w.term(t, operators.ArgumentMost)
	}
	w.put("]")
}

func isPair(t api.Term) bool {
	return t.Kind == api.Compound && t.Name == "." && len(t.Args) == 2
}

func (w *writer) call(t api.Term) {
	w.name(t.Name)
	ahead := "("
	for _, arg := range t.Args {
		w.put(ahead)
		w.term(arg, operators.ArgumentMost)
		ahead = ","
	}
	w.put(")")
}

func (w *writer) atom(name string) {
	if name == "[]" || name == "{}" {
		w.put(name)
		return
	}
	w.name(name)
}

// name writes an operator's or a compound's name. Here `[]` and `{}` are quoted, since bare they would be read as whole terms.
func (w *writer) name(name string) {
	if tokens.IsWord(name) {
		w.put(name)
		return
	}
	w.put("'")
	for i := range len(name) {
		w.put(quotedText(name[i]))
	}
	w.put("'")
}

// quotedText is how a quoted name tells a byte.
func quotedText(b byte) string {
	switch b {
	case '\'':
		return `''`
	case '\\':
		return `\\`
	case '\n':
		return `\n`
	case '\t':
		return `\t`
	}
	return string(rune(b))
}
