package bindings

import (
	"slices"
	"strconv"
	"testing"

	"creed/api"
	"creed/clauses"
)

func TestNumberOf(t *testing.T) {
	for _, names := range [][]string{nil, {"_1"}, {"_2"}, {"_1", "_2"}, {"_4", "_1", "X", "_2"}, {"_7", "_3", "_5"}, {"_1", "_3", "_4", "_5", "_9"}, {"_", "_0", "_01", "_x", "X1", "_-1", "_+2", "_1_"}} {
		taken, number := newNumbers(names), 0
		for n := 1; n < 20; n++ {
			number++
			for slices.Contains(names, "_"+strconv.Itoa(number)) {
				number++
			}
			if got := numberOf(n, taken); got != number {
				t.Errorf("by %v the name %d has the number %d, want %d", names, n, got, number)
			}
		}
	}
}

func variable(number int) clauses.Pattern {
	return clauses.Pattern{Label: clauses.Label{Kind: api.Variable, Value: number}}
}

func of(name string, args ...clauses.Pattern) clauses.Pattern {
	return clauses.Pattern{Label: clauses.Label{Kind: api.Compound, Name: name, Args: len(args)}, Args: args}
}

// TestUndo: what was bound is free again, also what was bound ahead of a clash.
func TestUndo(t *testing.T) {
	b, f := New([]string{"X", "Y"})
	part := func(p clauses.Pattern) Part { return PartOf(&p, f) }
	begin := b.Mark()
	if !b.MakeSame(part(variable(0)), part(of("f", variable(1)))) {
		t.Fatal("X = f(Y) fails")
	}
	mark := b.Mark()
	if b.MakeSame(part(of("g", variable(1), variable(0))), part(of("g", of("h"), variable(1)))) {
		t.Error("g(Y,X) = g(h,Y) is done")
	}
	b.Undo(mark)
	if u, ok := b.Term(f.Variable(1)); !ok || u.Kind != api.Variable || u.Name != "Y" {
		t.Errorf("Y is %v", u)
	}
	if u, ok := b.Term(f.Variable(0)); !ok || u.Name != "f" {
		t.Errorf("X is %v", u)
	}
	b.Undo(begin)
	if u, ok := b.Term(f.Variable(0)); !ok || u.Kind != api.Variable || u.Name != "X" {
		t.Errorf("X is %v", u)
	}
}

// TestOlder: an older term, into which a newer one is bound in the same go, is looked through too.
func TestOlder(t *testing.T) {
	b, f := New([]string{"X", "Y"})
	part := func(p clauses.Pattern) Part { return PartOf(&p, f) }
	old := part(of("f", variable(0))).Node()
	g := &Frame{of: b, nodes: make([]*Node, 1)}
	young := of("g", variable(0), variable(0))
	// the new variable is bound to f(X), and X to g of the new variable
	if b.MakeSame(PartOf(&young, g), Part{node: &Node{label: young.Label, args: []*Node{old, old}}}) != true {
		t.Fatal("g(Z,Z) = g(f(X),f(X)) fails")
	}
	if b.MakeSame(part(variable(0)), PartOf(&young, g)) {
		t.Error("X = g(f(X),f(X)) is done")
	}
}
