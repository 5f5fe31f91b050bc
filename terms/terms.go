// Package terms: which terms are proper.
package terms

import (
	"creed/api"
	"creed/signs"
	"creed/tokens"
)

// IsName tells whether an atom may have that name.
func IsName(name string) bool {
	return len(name) <= api.MaxName && signs.FirstStranger(name) < 0
}

// Proper tells whether a term is one in all its parts, not too deep, and not of too many nodes.
func Proper(t api.Term) bool {
	nodes := api.MaxNodes
	return proper(t, api.MaxDepth, &nodes)
}

// proper looks at no more than that many nodes: lists that stand in several places, or in themselves, may make a term endless.
func proper(t api.Term, depth int, nodes *int) bool {
	*nodes--
	if depth == 0 || *nodes < 0 || !sound(t) {
		return false
	}
	for i := range t.Args {
		if !proper(t.Args[i], depth-1, nodes) {
			return false
		}
	}
	return true
}

// sound tells whether a term is one of its Kind, but for what its Args are.
func sound(t api.Term) bool {
	if t.Kind != api.Integer && t.Value != 0 || t.Kind != api.Compound && len(t.Args) > 0 {
		return false
	}
	switch t.Kind {
	case api.Atom:
		return IsName(t.Name)
	case api.Integer:
		return t.Name == "" && t.Value >= -api.MaxInt && t.Value <= api.MaxInt
	case api.Variable:
		return IsName(t.Name) && tokens.IsVariable(t.Name)
	case api.Compound:
		return IsName(t.Name) && len(t.Args) > 0
	}
	return false
}
