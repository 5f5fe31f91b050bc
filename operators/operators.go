// Package operators: the operators by which terms are read and written, and how they change.
package operators

import (
	"cmp"
	"slices"
	"strings"

	"creed/api"
	"creed/terms"
)

// ArgumentMost is one below the comma's priority: it parts arguments, and elements.
const ArgumentMost = 999

// Kind is an operator's type.
type Kind uint8

const (
	FY Kind = iota
	FX
	XFX
	XFY
	YFX
	YF
	XF
)

var kindNames = [...]string{FY: "fy", FX: "fx", XFX: "xfx", XFY: "xfy", YFX: "yfx", YF: "yf", XF: "xf"}

var first = [...]api.Op{
	{Priority: 1200, Kind: "xfx", Name: ":-"},
	{Priority: 1100, Kind: "xfy", Name: ";"},
	{Priority: 1000, Kind: "xfy", Name: ","},
	{Priority: 900, Kind: "fy", Name: "\\"},
	{Priority: 700, Kind: "xfx", Name: "="},
	{Priority: 700, Kind: "xfx", Name: "<"},
	{Priority: 700, Kind: "xfx", Name: ">"},
	{Priority: 700, Kind: "xfx", Name: "is"},
	{Priority: 500, Kind: "yfx", Name: "+"},
	{Priority: 500, Kind: "yfx", Name: "-"},
	{Priority: 400, Kind: "yfx", Name: "*"},
	{Priority: 400, Kind: "yfx", Name: "/"},
	{Priority: 200, Kind: "xfy", Name: "^"},
	{Priority: 200, Kind: "fy", Name: "-"},
}

// Operator is what a name is an operator of.
type Operator struct {
	Priority int
	Kind     Kind
}

// InFront tells whether it stands in front of its operand; else it is a follower.
func (o Operator) InFront() bool { return o.Kind == FY || o.Kind == FX }

// Behind tells whether it stands behind its operand.
func (o Operator) Behind() bool { return o.Kind == YF || o.Kind == XF }

// Left is the greatest priority that what stands to its left may have.
func (o Operator) Left() int {
	if o.Kind == YFX || o.Kind == YF {
		return o.Priority
	}
	return o.Priority - 1
}

// Right is the greatest priority that what stands to its right may have.
func (o Operator) Right() int {
	if o.Kind == FY || o.Kind == XFY {
		return o.Priority
	}
	return o.Priority - 1
}

// Table holds the operators of one Session.
type Table struct {
	fronts    map[string]Operator
	followers map[string]Operator
}

// New makes a table of the operators that a Session begins with.
func New() *Table {
	t := &Table{fronts: map[string]Operator{}, followers: map[string]Operator{}}
	for _, o := range first {
		kind, _ := kindOf(o.Kind)
		t.put(Operator{Priority: o.Priority, Kind: kind}, o.Name)
	}
	return t
}

// Front tells the operator in front of that name.
func (t *Table) Front(name string) (Operator, bool) {
	o, ok := t.fronts[name]
	return o, ok
}

// Follower tells the operator of that name that is between or behind.
func (t *Table) Follower(name string) (Operator, bool) {
	o, ok := t.followers[name]
	return o, ok
}

// Set turns a name's operator of the sort that kind is of.
func (t *Table) Set(priority int, kind string, name string) api.Errno {
	k, known := kindOf(kind)
	if !known || priority < 0 || priority > api.MaxPriority || !mayBeTurned(name) {
		return api.ErrOp
	}
	o := Operator{Priority: priority, Kind: k}
	_, there := t.sort(o)[name]
	if !there && priority != 0 && len(t.fronts)+len(t.followers) >= api.MaxOps {
		return api.ErrMany
	}
	t.put(o, name)
	return api.OK
}

// All tells the operators by name, of one name that in front first.
func (t *Table) All() []api.Op {
	all := make([]api.Op, 0, len(t.fronts)+len(t.followers))
	for name, o := range t.fronts {
		all = append(all, o.told(name))
	}
	for name, o := range t.followers {
		all = append(all, o.told(name))
	}
	// Those in front stand ahead already, and a stable sort leaves it so.
	slices.SortStableFunc(all, func(a, b api.Op) int { return cmp.Compare(a.Name, b.Name) })
	return all
}

func (o Operator) told(name string) api.Op {
	return api.Op{Priority: o.Priority, Kind: kindNames[o.Kind], Name: name}
}

func (t *Table) sort(o Operator) map[string]Operator {
	if o.InFront() {
		return t.fronts
	}
	return t.followers
}

func (t *Table) put(o Operator, name string) {
	if o.Priority == 0 {
		delete(t.sort(o), name)
		return
	}
	// A piece of a caller's greater text would keep all of that text.
	t.sort(o)[strings.Clone(name)] = o
}

func kindOf(name string) (Kind, bool) {
	for k, n := range kindNames {
		if n == name {
			return Kind(k), true
		}
	}
	return 0, false
}

func mayBeTurned(name string) bool {
	switch name {
	case "", ",", "|", "[]", "{}":
		return false
	}
	return terms.IsName(name)
}
