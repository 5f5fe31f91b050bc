// Package searching: how the answers to a goal are looked for, by clauses.
package searching

import (
	"strings"

	"creed/api"
	"creed/bindings"
	"creed/clauses"
	"creed/operators"
	"creed/writing"
)

// answerMost is the greatest priority that what an answer tells may have: one below the priority that `=` begins with.
const answerMost = 699

// outcome is what came of a goal.
type outcome uint8

const (
	done outcome = iota
	failed
	noGoal
)

// outcomeOf is what came of a goal that can be done, or fails.
func outcomeOf(ok bool) outcome {
	if ok {
		return done
	}
	return failed
}

// task is a goal, and the goals behind it.
type task struct {
	goal bindings.Part
	rest *task
}

// way is one that has not been taken.
type way struct {
	mark int            // where the bindings were
	todo *task          // the goals
	call *bindings.Call // if not nil, a goal ahead of those, to be done by one of the clauses from next on
	next int
}

type search struct {
	clauses   []clauses.Clause
	ops       *operators.Table
	bindings  *bindings.Bindings
	names     []string        // of the goal's variables
	variables *bindings.Frame // the goal's
	todo      *task
	ways      []way
	fuel      int
	answers   []string
	output    strings.Builder
	steps     int
}

// Solve looks for at most most answers to a goal, in at most fuel steps. It may turn the operators.
func Solve(goal api.Term, all []clauses.Clause, ops *operators.Table, fuel int, most int) (api.Tale, api.Errno) {
	pattern, names := clauses.Goal(goal)
	s := &search{clauses: all, ops: ops, names: names, fuel: fuel}
	s.bindings, s.variables = bindings.New(names)
	s.add(bindings.PartOf(&pattern, s.variables))
	e := s.run(most)
	return api.Tale{Answers: s.answers, Output: s.output.String(), Steps: s.steps}, e
}

// add puts a goal ahead of the others.
func (s *search) add(goal bindings.Part) { s.todo = &task{goal: goal, rest: s.todo} }

// run searches till there are most answers, no way is left, or the search is cut off.
func (s *search) run(most int) api.Errno {
	for left := true; left && len(s.answers) < most; {
		switch {
		case s.todo == nil:
			text, ok := s.answer()
			if !ok {
				return api.ErrTerm
			}
			s.answers = append(s.answers, text)
			left = s.back()
		case s.steps == s.fuel:
			return api.ErrFuel
		default:
			s.steps++
			switch s.take() {
			case noGoal:
				return api.ErrGoal
			case failed:
				left = s.back()
			}
		}
	}
	return api.OK
}

// take takes the first goal.
func (s *search) take() outcome {
	goal := s.todo.goal.Now()
	s.todo = s.todo.rest
	switch clauses.MeaningOf(goal.Label()) {
	case clauses.NoGoal:
		return noGoal
	case clauses.True:
		return done
	case clauses.Fail:
		return failed
	case clauses.Both:
		s.add(goal.Arg(1))
		s.add(goal.Arg(0))
		return done
	case clauses.Either:
		s.ways = append(s.ways, way{mark: s.bindings.Mark(), todo: &task{goal: goal.Arg(1), rest: s.todo}})
		s.add(goal.Arg(0))
		return done
	case clauses.Same:
		return outcomeOf(s.bindings.MakeSame(goal.Arg(0), goal.Arg(1)))
	case clauses.Write:
		return s.write(goal.Arg(0).Node())
	case clauses.Op:
		return s.turn(goal.Arg(0).Now().Label(), goal.Arg(1).Now().Label(), goal.Arg(2).Now().Label())
	}
	return outcomeOf(s.byClauses(s.bindings.Call(goal), 0))
}

func (s *search) write(n *bindings.Node) outcome {
	t, ok := s.bindings.Term(n)
	if !ok {
		return noGoal
	}
	s.output.WriteString(writing.Text(t, s.ops, api.MaxPriority))
	return done
}

// turn turns an operator.
func (s *search) turn(priority, kind, name clauses.Label) outcome {
	if priority.Kind != api.Integer || kind.Kind != api.Atom || name.Kind != api.Atom {
		return noGoal
	}
	return outcomeOf(s.ops.Set(priority.Value, kind.Name, name.Name) == api.OK)
}

// byClauses goes on by the first clause from next on whose head fits the call, and leaves the later ones as another way.
func (s *search) byClauses(call *bindings.Call, next int) bool {
	mark := s.bindings.Mark()
	for ; next < len(s.clauses); next++ {
		c := &s.clauses[next]
		frame, fits := s.bindings.Fit(call, c)
		if !fits {
			s.bindings.Undo(mark)
			continue
		}
		s.ways = append(s.ways, way{mark: mark, todo: s.todo, call: call, next: next + 1})
		if c.Body != nil {
			s.add(bindings.PartOf(c.Body, frame))
		}
		return true
	}
	return false
}

// back goes back to the last way that has not been taken, if there is one.
func (s *search) back() bool {
	for len(s.ways) > 0 {
		last := len(s.ways) - 1
		w := s.ways[last]
		s.ways = s.ways[:last]
		s.bindings.Undo(w.mark)
		s.todo = w.todo
		if w.call == nil || s.byClauses(w.call, w.next) {
			return true
		}
	}
	return false
}

// answer tells what the goal's variables are bound to, if that can be written.
func (s *search) answer() (string, bool) {
	if len(s.names) == 0 {
		return "true", true
	}
	parts := make([]string, len(s.names))
	for i, name := range s.names {
		t, ok := s.bindings.Term(s.variables.Variable(i))
		if !ok {
			return "", false
		}
		parts[i] = name + " = " + writing.Text(t, s.ops, answerMost)
	}
	return strings.Join(parts, ", "), true
}
