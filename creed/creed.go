// Package creed: terms with operators that change, read, written, and solved: see DOC.md.
package creed

import (
	"sync"

	"creed/api"
	"creed/clauses"
	"creed/operators"
	"creed/reading"
	"creed/searching"
	"creed/terms"
	"creed/writing"
)

// Session has operators and clauses.
type Session struct {
	mu      sync.Mutex
	self    *Session // set by New alone, so that a copy isn't taken for what New made
	ops     *operators.Table
	clauses []clauses.Clause
}

// mostAnswers is how many answers Solve can be asked for.
const mostAnswers = 100

// New makes a Session (P3).
func New() *Session {
	s := &Session{ops: operators.New()}
	s.self = s
	return s
}

func (s *Session) made() bool { return s != nil && s.self == s }

// Op turns an operator (P4).
func (s *Session) Op(priority int, kind string, name string) api.Errno {
	if !s.made() {
		return api.ErrClosed
	}
	s.mu.Lock()
	defer s.mu.Unlock()
	return s.ops.Set(priority, kind, name)
}

// Ops tells the operators (P5).
func (s *Session) Ops() []api.Op {
	if !s.made() {
		return nil
	}
	s.mu.Lock()
	defer s.mu.Unlock()
	return s.ops.All()
}

// Read reads a text's first term (P7).
func (s *Session) Read(text string) (api.Term, int, api.Errno, int) {
	if !s.made() {
		return api.Term{}, 0, api.ErrClosed, 0
	}
	s.mu.Lock()
	defer s.mu.Unlock()
	found, e, place := s.read(text, 0)
	return found.Term, found.End, e, place
}

// read catches the fault with which the reader gives up. Any other panic is none of the reader's, and goes on.
func (s *Session) read(text string, from int) (found reading.Found, e api.Errno, place int) {
	defer func() {
		switch fault := recover().(type) {
		case nil:
		case reading.Fault:
			e, place = fault.Errno, fault.Place
		default:
			panic(fault)
		}
	}()
	return reading.Next(text, from, s.ops), api.OK, 0
}

// Write writes a term by the operators (P6).
func (s *Session) Write(t api.Term) (string, api.Errno) {
	if !s.made() {
		return "", api.ErrClosed
	}
	s.mu.Lock()
	defer s.mu.Unlock()
	if !terms.Proper(t) {
		return "", api.ErrTerm
	}
	return writing.Text(t, s.ops, api.MaxPriority), api.OK
}

// Canonical writes a term without operators (P6).
func (s *Session) Canonical(t api.Term) (string, api.Errno) {
	if !s.made() {
		return "", api.ErrClosed
	}
	s.mu.Lock()
	defer s.mu.Unlock()
	if !terms.Proper(t) {
		return "", api.ErrTerm
	}
	return writing.Canonical(t), api.OK
}

// Load takes clauses in (P9).
func (s *Session) Load(text string) (int, api.Errno, int) {
	if !s.made() {
		return 0, api.ErrClosed, 0
	}
	s.mu.Lock()
	defer s.mu.Unlock()
	taken, from := 0, 0
	for {
		found, e, place := s.read(text, from)
		switch e {
		case api.OK:
		case api.ErrEnd:
			return taken, api.OK, 0
		default:
			return taken, e, place
		}
		if e := s.takeIn(found.Term); e != api.OK {
			return taken, e, found.Begin
		}
		taken++
		from = found.End
	}
}

// takeIn takes one clause in.
func (s *Session) takeIn(t api.Term) api.Errno {
	c, ok := clauses.Of(t)
	if !ok {
		return api.ErrGoal
	}
	if len(s.clauses) == api.MaxClauses {
		return api.ErrMany
	}
	s.clauses = append(s.clauses, c)
	return api.OK
}

// Solve looks for answers (P10).
func (s *Session) Solve(goal string, fuel int, most int) (api.Tale, api.Errno) {
	if !s.made() {
		return api.Tale{}, api.ErrClosed
	}
	s.mu.Lock()
	defer s.mu.Unlock()
	if fuel < 0 || fuel > api.MaxFuel || most < 0 || most > mostAnswers {
		return api.Tale{}, api.ErrArg
	}
	found, e, _ := s.read(goal, 0)
	if e != api.OK {
		return api.Tale{}, e
	}
	return searching.Solve(found.Term, s.clauses, s.ops, fuel, most)
}
