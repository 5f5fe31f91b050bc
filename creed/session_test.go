package creed_test

import (
	"fmt"
	"slices"
	"strings"
	"sync"
	"testing"

	"creed/api"
	"creed/creed"
)

// dup copies what p points at, lock and all: vet refuses that said plainly.
func dup[T any](p *T) *T {
	v := *p
	return &v
}

func TestP1Closed(t *testing.T) {
	sessions := map[string]*creed.Session{"nil": nil, "zero": {}, "copy": dup(creed.New())}
	for name, s := range sessions {
		if e := s.Op(1, "fy", "a"); e != api.ErrClosed {
			t.Errorf("%s: Op: %d", name, e)
		}
		if e := s.Op(-1, "", ""); e != api.ErrClosed {
			t.Errorf("%s: Op of what may not be: %d", name, e)
		}
		if l := s.Ops(); len(l) != 0 {
			t.Errorf("%s: Ops: %v", name, l)
		}
		for _, text := range []string{"a.", "", "\x00", strings.Repeat("a", 5000)} {
			u, to, e, at := s.Read(text)
			if shown(u) != "''" || to != 0 || e != api.ErrClosed || at != 0 {
				t.Errorf("%s: Read(%.9q): %s, %d, %d, %d", name, text, shown(u), to, e, at)
			}
		}
		if text, e := s.Write(api.Term{Kind: 9}); text != "" || e != api.ErrClosed {
			t.Errorf("%s: Write: %q, %d", name, text, e)
		}
		if text, e := s.Canonical(api.Term{Name: "a"}); text != "" || e != api.ErrClosed {
			t.Errorf("%s: Canonical: %q, %d", name, text, e)
		}
		if n, e, at := s.Load("a."); n != 0 || e != api.ErrClosed || at != 0 {
			t.Errorf("%s: Load: %d, %d, %d", name, n, e, at)
		}
		if tale, e := s.Solve("true.", -1, -1); e != api.ErrClosed || len(tale.Answers) != 0 || tale.Output != "" || tale.Steps != 0 {
			t.Errorf("%s: Solve: %v, %d", name, tale, e)
		}
	}
}

// TestP1Ends: long texts of one piece again and again, and all bytes, end without a panic.
func TestP1Ends(t *testing.T) {
	s := creed.New()
	for _, piece := range []string{"(", "[", "{", "f(", "- ", "-", "\\ ", "a+", "a^", "a,", "[a|", "'", "''", "'\\", "% \n", "%", "0", "-0", "a", "A", "+", ". ", ".", ",", "|", ")", "\"", "a-(", "- -1 -", "f(a,", "\n"} {
		text := strings.Repeat(piece, api.MaxText/len(piece))
		for _, text := range []string{text, text + ".", text[:len(text)-len(text)%2-1] + "."} {
			if _, to, e, at := s.Read(text); to > len(text) || at < 0 || at > len(text) || e == api.OK && at != 0 || e != api.OK && to != 0 {
				t.Errorf("Read(%.9q): %d, %d, %d", text, to, e, at)
			}
		}
	}
	for b := range 256 {
		s.Read(string([]byte{byte(b)}))
		s.Op(b, string([]byte{byte(b)}), string([]byte{byte(b)}))
	}
}

// TestP2NewMemory: what is done to an answer is seen by nobody else, in the spare room of its lists neither.
func TestP2NewMemory(t *testing.T) {
	s := creed.New()
	const text = "f(a,g(b,[c,d,e,h(i)|T]),{j}) + - k * (l,m,n) :- o."
	u, _, e, _ := s.Read(text)
	want := shown(u)
	if e != api.OK {
		t.Fatal(e)
	}
	spoilSpare(u.Args)
	if got := shown(u); got != want {
		t.Errorf("a list's spare room is another's: %s, want %s", got, want)
	}
	spoilAll(u.Args)
	if again, _, _, _ := s.Read(text); shown(again) != want {
		t.Errorf("Read again: %s, want %s", shown(again), want)
	}

	ops := s.Ops()
	before := slices.Clone(ops)
	ops = ops[:cap(ops)]
	for i := range ops {
		ops[i] = api.Op{Priority: 7, Kind: "xf", Name: "spoilt"}
	}
	if after := s.Ops(); !slices.Equal(after, before) {
		t.Errorf("Ops again: %v, want %v", after, before)
	}
}

func spoilSpare(args []api.Term) {
	for _, a := range args {
		spoilSpare(a.Args)
	}
	spare := args[len(args):cap(args)]
	for i := range spare {
		spare[i].Name = "spoilt"
	}
}

func spoilAll(args []api.Term) {
	for i := range args {
		spoilAll(args[i].Args)
		args[i] = api.Term{Name: "spoilt"}
	}
}

// TestP2Apart: Sessions know nothing of each other.
func TestP2Apart(t *testing.T) {
	one, two := creed.New(), creed.New()
	mustOp(t, one, 0, "xfx", ":-")
	mustOp(t, one, 100, "xfx", "is")
	mustOp(t, one, 100, "xfx", "and")
	if l := told(two.Ops()); l != beginning {
		t.Errorf("the other Session's Ops: %s", l)
	}
	if l := told(creed.New().Ops()); l != beginning {
		t.Errorf("a later Session's Ops: %s", l)
	}
	if _, _, e, at := two.Read("a and b."); e != api.ErrText || at != 2 {
		t.Errorf("the other Session's Read: %d, %d", e, at)
	}
	if text, e := two.Write(of("and", atom("a"), atom("b"))); text != "and(a,b)" || e != api.OK {
		t.Errorf("the other Session's Write: %s, %d", text, e)
	}
}

// TestManyGoroutines: each call is one step for all others.
func TestManyGoroutines(t *testing.T) {
	s := creed.New()
	var all sync.WaitGroup
	faults := make(chan string, 8*200)
	for n := range 8 {
		all.Go(func() {
			for i := range 200 {
				s.Op((i+n)%2*300, "xfx", "then")
				s.Op(i%2*300, "fy", fmt.Sprint("own", n))
				if l := s.Ops(); len(l) < 14 || len(l) > 14+9 || !slices.IsSortedFunc(l, func(a, b api.Op) int { return strings.Compare(a.Name, b.Name) }) {
					faults <- fmt.Sprint("Ops: ", l)
				}
				u, to, e, at := s.Read("a then b.")
				if !(shown(u) == "'then'('a','b')" && to == 9 && e == api.OK || e == api.ErrText && at == 2) {
					faults <- fmt.Sprint("Read: ", u, to, e, at)
				}
				then := of("then", atom("a"), atom("b"))
				if text, e := s.Write(then); text != "a then b" && text != "then(a,b)" || e != api.OK {
					faults <- fmt.Sprint("Write: ", text, e)
				}
				if text, e := s.Canonical(then); text != "then(a,b)" || e != api.OK {
					faults <- fmt.Sprint("Canonical: ", text, e)
				}
			}
		})
	}
	all.Wait()
	close(faults)
	for fault := range faults {
		t.Error(fault)
	}
}
