package operators

import "testing"

func TestSides(t *testing.T) {
	for name, want := range map[string]struct {
		left, right     int
		inFront, behind bool
	}{
		"fy": {9, 10, true, false}, "fx": {9, 9, true, false},
		"xfx": {9, 9, false, false}, "xfy": {9, 10, false, false}, "yfx": {10, 9, false, false},
		"yf": {10, 9, false, true}, "xf": {9, 9, false, true},
	} {
		kind, ok := kindOf(name)
		o := Operator{Priority: 10, Kind: kind}
		if !ok || o.InFront() != want.inFront || o.Behind() != want.behind {
			t.Errorf("%s: in front %v, behind %v", name, o.InFront(), o.Behind())
		}
		if !want.inFront && o.Left() != want.left || !want.behind && o.Right() != want.right {
			t.Errorf("%s: sides of %d and %d", name, o.Left(), o.Right())
		}
	}
}

func TestSorts(t *testing.T) {
	ops := New()
	if _, ok := ops.Front("+"); ok {
		t.Error("+ is in front")
	}
	if _, ok := ops.Follower("\\"); ok {
		t.Error("\\ follows")
	}
	if o, ok := ops.Follower("-"); !ok || o != (Operator{500, YFX}) {
		t.Errorf("- follows as %v", o)
	}
	if o, ok := ops.Front("-"); !ok || o != (Operator{200, FY}) {
		t.Errorf("- is in front as %v", o)
	}
}
