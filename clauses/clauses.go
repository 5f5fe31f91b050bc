// Package clauses: what a search goes by: clauses, and which calls have a meaning of their own.
package clauses

import "creed/api"

// Label is what a term is, but for what its Args are.
type Label struct {
	Kind  int
	Name  string
	Value int
	Args  int // how many
}

// Pattern is a term whose variables have no names, but numbers from 0 on (as Value), in the order in which they first stand.
type Pattern struct {
	Label Label
	Args  []Pattern
}

// Clause is a head and, if there is one, a body.
type Clause struct {
	Head      Pattern
	Body      *Pattern
	Variables int // how many
}

// Of is the clause that a term tells, if its head is one.
func Of(t api.Term) (Clause, bool) {
	parts := []api.Term{t}
	if t.Kind == api.Compound && t.Name == ":-" && len(t.Args) == 2 {
		parts = t.Args
	}
	n := numbering{numbers: map[string]int{}}
	head := n.pattern(parts[0])
	if MeaningOf(head.Label) != ByClauses {
		return Clause{}, false
	}
	c := Clause{Head: head}
	if len(parts) == 2 {
		body := n.pattern(parts[1])
		c.Body = &body
	}
	c.Variables = len(n.names)
	return c, true
}

// Goal is the pattern of a goal, and the names of its variables by their numbers.
func Goal(t api.Term) (Pattern, []string) {
	n := numbering{numbers: map[string]int{}}
	return n.pattern(t), n.names
}

// numbering gives numbers to the variables of a clause, or of a goal.
type numbering struct {
	numbers map[string]int
	names   []string
}

func (n *numbering) number(name string) int {
	number, known := n.numbers[name]
	if !known {
		number = len(n.names)
		n.numbers[name] = number
		n.names = append(n.names, name)
	}
	return number
}

func (n *numbering) pattern(t api.Term) Pattern {
	if t.Kind == api.Variable {
		return Pattern{Label: Label{Kind: api.Variable, Value: n.number(t.Name)}}
	}
	p := Pattern{Label: Label{Kind: t.Kind, Name: t.Name, Value: t.Value, Args: len(t.Args)}}
	for _, arg := range t.Args {
		p.Args = append(p.Args, n.pattern(arg))
	}
	return p
}
