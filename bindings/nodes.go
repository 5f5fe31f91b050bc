// Package bindings: the terms of a search, whose variables are bound as it goes on, and set free again as it goes back.
package bindings

import (
	"creed/api"
	"creed/clauses"
)

// Node is a term of a search. It may stand in many places.
type Node struct {
	label clauses.Label // of a new variable Value tells the how manieth it is, from 1 on
	args  []*Node
	same  *Node // what it was made the same as: of a variable what it is bound to
	born  int   // the how manieth node of its search it is
	mark  int   // how far the last look for terms without end came with it
}

// now is what stands for a node by the bindings as they are.
func (n *Node) now() *Node {
	for n.same != nil {
		n = n.same
	}
	return n
}

func (n *Node) isVariable() bool { return n.label.Kind == api.Variable }

// Frame has the variables of the goal, or of one use of a clause.
type Frame struct {
	of    *Bindings
	ahead int     // how many new variables there were ahead of these
	nodes []*Node // by their numbers; nil: one that nothing has asked for
}

// Variable is what stands for the variable of that number.
func (f *Frame) Variable(number int) *Node {
	if f.nodes[number] == nil {
		f.nodes[number] = f.of.node(clauses.Label{Kind: api.Variable, Value: f.ahead + number + 1})
	}
	return f.nodes[number]
}

// node is a pattern with these variables.
func (f *Frame) node(p *clauses.Pattern) *Node {
	if p.Label.Kind == api.Variable {
		return f.Variable(p.Label.Value)
	}
	n := f.of.node(p.Label)
	n.args = make([]*Node, len(p.Args))
	for i := range p.Args {
		n.args[i] = f.node(&p.Args[i])
	}
	return n
}

// Part is a term of a search that need not be a node yet. So of a body no more is copied than what the search comes to.
type Part struct {
	pattern *clauses.Pattern
	frame   *Frame
	node    *Node // nil: the pattern with the frame's variables
}

// PartOf is a pattern with a frame's variables.
func PartOf(p *clauses.Pattern, f *Frame) Part { return Part{pattern: p, frame: f} }

// Now is what stands for a part by the bindings as they are.
func (p Part) Now() Part {
	if p.node == nil && p.pattern.Label.Kind != api.Variable {
		return p
	}
	return Part{node: p.Node().now()}
}

// Label is a part's label.
func (p Part) Label() clauses.Label {
	if p.node == nil {
		return p.pattern.Label
	}
	return p.node.label
}

// Arg is one of a part's Args, from 0 on.
func (p Part) Arg(i int) Part {
	if p.node == nil {
		return Part{pattern: &p.pattern.Args[i], frame: p.frame}
	}
	return Part{node: p.node.args[i]}
}

// Node is a part as a node.
func (p Part) Node() *Node {
	if p.node == nil {
		return p.frame.node(p.pattern)
	}
	return p.node
}
