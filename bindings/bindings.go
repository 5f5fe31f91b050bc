package bindings

import (
	"creed/api"
	"creed/clauses"
)

// Bindings tells what was bound in one search, and how many new variables there were.
type Bindings struct {
	bound []*Node // in the order in which they were
	given int     // how many new variables there were
	taken []int   // the numbers that a new variable's name can't have, rising
	nodes int     // how many nodes there were
	looks int     // how many looks for terms without end there were
}

// New begins a search: nothing is bound, and the goal has variables of those names.
func New(names []string) (*Bindings, *Frame) {
	b := &Bindings{taken: newNumbers(names)}
	f := &Frame{of: b}
	for _, name := range names {
		f.nodes = append(f.nodes, b.node(clauses.Label{Kind: api.Variable, Name: name}))
	}
	return b, f
}

func (b *Bindings) node(l clauses.Label) *Node {
	b.nodes++
	return &Node{label: l, born: b.nodes}
}

// Mark is a place to which Undo can go back.
func (b *Bindings) Mark() int { return len(b.bound) }

// Undo sets free what was bound since that mark.
func (b *Bindings) Undo(mark int) {
	for _, n := range b.bound[mark:] {
		n.same = nil
	}
	clear(b.bound[mark:])
	b.bound = b.bound[:mark]
}

func (b *Bindings) bind(n, to *Node) {
	n.same = to
	b.bound = append(b.bound, n)
}

// bindYounger lets the older of two stand for both: the other way round it would be further and further to what stands for a term that is met again and again.
func (b *Bindings) bindYounger(x, y *Node) {
	if x.born > y.born {
		b.bind(x, y)
	} else {
		b.bind(y, x)
	}
}

// MakeSame makes two terms the same, if it can. What it bound where it can't stays, till Undo.
func (b *Bindings) MakeSame(first, second Part) bool {
	mark, before := b.Mark(), b.nodes
	return b.join(first.Node(), second.Node()) && b.haveEnds(mark, before)
}

// Call is a goal to be done by clauses.
type Call struct {
	node   *Node
	before int // how many nodes there were before it was taken
}

// Call is a goal that is taken, to be done by clauses.
func (b *Bindings) Call(goal Part) *Call {
	c := &Call{before: b.nodes}
	c.node = goal.Node()
	return c
}

// Fit makes a call and a clause's head the same, if it can, and gives the clause's variables, which are new ones. The bindings are to be as they were when the call was taken. What it bound where it can't stays, till Undo.
func (b *Bindings) Fit(call *Call, c *clauses.Clause) (*Frame, bool) {
	ahead := b.given
	b.given += c.Variables // whether the head fits or not
	if call.node.label != c.Head.Label {
		return nil, false
	}
	f := &Frame{of: b, ahead: ahead, nodes: make([]*Node, c.Variables)}
	mark := b.Mark()
	for i, arg := range call.node.args {
		if !b.match(arg, &c.Head.Args[i], f) {
			return nil, false
		}
	}
	return f, b.haveEnds(mark, call.before)
}

// match makes a node and a piece of a head the same.
func (b *Bindings) match(n *Node, p *clauses.Pattern, f *Frame) bool {
	n = n.now()
	switch {
	case p.Label.Kind == api.Variable:
		return b.matchVariable(n, p.Label.Value, f)
	case n.isVariable():
		b.bind(n, f.node(p))
		return true
	case n.label != p.Label:
		return false
	}
	for i, arg := range n.args {
		if !b.match(arg, &p.Args[i], f) {
			return false
		}
	}
	return true
}

// matchVariable makes a node and a head's variable the same. A variable that first comes here stands nowhere else yet: it need not be made, to be bound.
func (b *Bindings) matchVariable(n *Node, number int, f *Frame) bool {
	if f.nodes[number] == nil && !n.isVariable() {
		f.nodes[number] = n
		return true
	}
	return b.join(n, f.Variable(number))
}

// join makes two nodes the same, but doesn't see whether a variable is bound to a term in which it stands.
// Of two compounds too the one stands for the other from then on: so nothing is looked through twice, and it ends with terms without end too.
func (b *Bindings) join(first, second *Node) bool {
	pairs := [][2]*Node{{first, second}}
	for len(pairs) > 0 {
		last := len(pairs) - 1
		x, y := pairs[last][0].now(), pairs[last][1].now()
		pairs = pairs[:last]
		switch {
		case x == y:
		case x.isVariable():
			b.bind(x, y)
		case y.isVariable():
			b.bind(y, x)
		case x.label != y.label:
			return false
		case len(x.args) > 0:
			b.bindYounger(x, y)
			for i := len(x.args) - 1; i >= 0; i-- {
				pairs = append(pairs, [2]*Node{x.args[i], y.args[i]})
			}
		}
	}
	return true
}
