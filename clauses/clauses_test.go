package clauses

import (
	"reflect"
	"testing"

	"creed/api"
)

func variable(name string) api.Term { return api.Term{Kind: api.Variable, Name: name} }

func of(name string, args ...api.Term) api.Term {
	return api.Term{Kind: api.Compound, Name: name, Args: args}
}

func number(n int) Pattern { return Pattern{Label: Label{Kind: api.Variable, Value: n}} }

func pattern(name string, args ...Pattern) Pattern {
	return Pattern{Label: Label{Kind: api.Compound, Name: name, Args: len(args)}, Args: args}
}

func TestOf(t *testing.T) {
	head, body := of("f", variable("Y"), variable("X"), variable("Y")), of("g", variable("Z"), variable("X"))
	wantHead, wantBody := pattern("f", number(0), number(1), number(0)), pattern("g", number(2), number(1))
	if c, ok := Of(head); !ok || !reflect.DeepEqual(c, Clause{Head: wantHead, Variables: 2}) {
		t.Errorf("a head: %+v, %v", c, ok)
	}
	if c, ok := Of(of(":-", head, body)); !ok || !reflect.DeepEqual(c, Clause{Head: wantHead, Body: &wantBody, Variables: 3}) {
		t.Errorf("a head and a body: %+v, %v", c, ok)
	}
	for _, u := range []api.Term{variable("X"), {Kind: api.Integer, Value: 1}, {Name: "true"}, of("=", head, body), of(":-", variable("X"), body), of(":-", of(",", head, head), body)} {
		if c, ok := Of(u); ok || !reflect.DeepEqual(c, Clause{}) {
			t.Errorf("%v: %+v, %v", u, c, ok)
		}
	}
}

func TestGoal(t *testing.T) {
	p, names := Goal(of("f", variable("B"), of("g", variable("A"), variable("B")), api.Term{Kind: api.Integer, Value: -7}))
	want := pattern("f", number(0), pattern("g", number(1), number(0)), Pattern{Label: Label{Kind: api.Integer, Value: -7}})
	if !reflect.DeepEqual(p, want) || !reflect.DeepEqual(names, []string{"B", "A"}) {
		t.Errorf("%+v, %v", p, names)
	}
}

func TestMeaningOf(t *testing.T) {
	for _, c := range []struct {
		label Label
		want  Meaning
	}{
		{Label{Kind: api.Variable}, NoGoal}, {Label{Kind: api.Variable, Name: "true"}, NoGoal}, {Label{Kind: api.Integer, Value: 1}, NoGoal},
		{Label{Name: "true"}, True}, {Label{Name: "fail"}, Fail}, {Label{Name: ","}, ByClauses}, {Label{Name: "a"}, ByClauses},
		{Label{Kind: api.Compound, Name: ",", Args: 2}, Both}, {Label{Kind: api.Compound, Name: ";", Args: 2}, Either}, {Label{Kind: api.Compound, Name: "=", Args: 2}, Same}, {Label{Kind: api.Compound, Name: "write", Args: 1}, Write}, {Label{Kind: api.Compound, Name: "op", Args: 3}, Op},
		{Label{Kind: api.Compound, Name: ",", Args: 3}, ByClauses}, {Label{Kind: api.Compound, Name: "write", Args: 2}, ByClauses}, {Label{Kind: api.Compound, Name: "true", Args: 1}, ByClauses},
	} {
		if got := MeaningOf(c.label); got != c.want {
			t.Errorf("%+v: %d, want %d", c.label, got, c.want)
		}
	}
}
