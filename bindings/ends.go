package bindings

// look is one look for terms without end.
type look struct {
	begun int // the mark of a node that is being looked through
	ended int // the mark of one that was
	floor int // nodes born up to there need no look
}

// haveEnds tells whether none of the variables bound since that mark stands in what it is bound to. Before those bindings there were that many nodes, and all terms had ends.
// It is asked once, behind all bindings of a goal: terms without end can't make two terms the same that else are not.
func (b *Bindings) haveEnds(mark, before int) bool {
	b.looks++
	l := look{begun: 2 * b.looks, ended: 2*b.looks + 1, floor: before}
	for _, n := range b.bound[mark:] {
		if n.born <= before {
			// Only where no older node was bound do the older ones hold no newer one.
			l.floor = 0
		}
	}
	for _, n := range b.bound[mark:] {
		if n.isVariable() && !l.hasEnd(n.now()) {
			return false
		}
	}
	return true
}

// visit is a node that is being looked through, and which of its Args comes next.
type visit struct {
	node *Node
	next int
}

// hasEnd tells whether a node stands nowhere within itself. What this look has been through is not looked through again; and since a term may be far deeper than calls should be, it calls nothing within.
func (l look) hasEnd(n *Node) bool {
	path := l.enter(nil, n)
	for len(path) > 0 {
		top := &path[len(path)-1]
		if top.next == len(top.node.args) {
			top.node.mark = l.ended
			path = path[:len(path)-1]
			continue
		}
		arg := top.node.args[top.next].now()
		top.next++
		if arg.mark == l.begun {
			return false
		}
		path = l.enter(path, arg)
	}
	return true
}

// enter goes into a node, if there is something to be looked through.
func (l look) enter(path []visit, n *Node) []visit {
	if n.mark == l.ended || n.born <= l.floor || len(n.args) == 0 {
		return path
	}
	n.mark = l.begun
	return append(path, visit{node: n})
}
