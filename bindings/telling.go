package bindings

import (
	"slices"
	"sort"
	"strconv"
	"strings"

	"creed/api"
)

// Term is a node as a term, if that is a proper one.
func (b *Bindings) Term(n *Node) (api.Term, bool) {
	nodes := api.MaxNodes
	return b.term(n, api.MaxDepth, &nodes)
}

// term comes to no more than that many nodes: what stands in many places is told as often.
func (b *Bindings) term(n *Node, depth int, nodes *int) (api.Term, bool) {
	*nodes--
	if depth == 0 || *nodes < 0 {
		return api.Term{}, false
	}
	n = n.now()
	if n.isVariable() {
		return api.Term{Kind: api.Variable, Name: b.name(n)}, true
	}
	t := api.Term{Kind: n.label.Kind, Name: n.label.Name, Value: n.label.Value, Args: make([]api.Term, len(n.args))}
	for i, arg := range n.args {
		told, ok := b.term(arg, depth-1, nodes)
		if !ok {
			return api.Term{}, false
		}
		t.Args[i] = told
	}
	return t, true
}

func (b *Bindings) name(n *Node) string {
	if n.label.Name != "" {
		return n.label.Name
	}
	return "_" + strconv.Itoa(numberOf(n.label.Value, b.taken))
}

// numberOf is the number in a new variable's name: the nth of those that are not taken. Of taken[i] there are taken[i]-i numbers not above it that are free, or are it.
func numberOf(n int, taken []int) int {
	return n + sort.Search(len(taken), func(i int) bool { return taken[i]-i > n })
}

// newNumbers are the numbers in those of the names that a new variable would have, rising.
func newNumbers(names []string) []int {
	var numbers []int
	for _, name := range names {
		digits, ok := strings.CutPrefix(name, "_")
		number, err := strconv.Atoi(digits)
		// A name like _07 is no new variable's.
		if ok && err == nil && number > 0 && strconv.Itoa(number) == digits {
			numbers = append(numbers, number)
		}
	}
	slices.Sort(numbers)
	return numbers
}
