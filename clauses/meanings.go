package clauses

import "creed/api"

// Meaning is what a goal asks for.
type Meaning uint8

const (
	ByClauses Meaning = iota // what the clauses say: so it is with all calls that have no meaning of their own
	NoGoal
	True
	Fail
	Both
	Either
	Same
	Write
	Op
)

var calls = [...]struct {
	label   Label
	meaning Meaning
}{
	{Label{Kind: api.Atom, Name: "true"}, True},
	{Label{Kind: api.Atom, Name: "fail"}, Fail},
	{Label{Kind: api.Compound, Name: ",", Args: 2}, Both},
	{Label{Kind: api.Compound, Name: ";", Args: 2}, Either},
	{Label{Kind: api.Compound, Name: "=", Args: 2}, Same},
	{Label{Kind: api.Compound, Name: "write", Args: 1}, Write},
	{Label{Kind: api.Compound, Name: "op", Args: 3}, Op},
}

// MeaningOf tells what a goal of that label asks for.
func MeaningOf(l Label) Meaning {
	if l.Kind == api.Variable || l.Kind == api.Integer {
		return NoGoal
	}
	for _, c := range calls {
		if c.label == l {
			return c.meaning
		}
	}
	return ByClauses
}
