package creed_test

import (
	"fmt"
	"strings"
	"testing"

	"creed/api"
	"creed/creed"
)

// beginning: the operators of P3, as Ops tells them.
const beginning = "400 yfx *; 500 yfx +; 1000 xfy ,; 200 fy -; 500 yfx -; 400 yfx /; 1200 xfx :-; 1100 xfy ;; 700 xfx <; 700 xfx =; 700 xfx >; 900 fy \\; 200 xfy ^; 700 xfx is"

func told(ops []api.Op) string {
	var all []string
	for _, o := range ops {
		all = append(all, fmt.Sprintf("%d %s %s", o.Priority, o.Kind, o.Name))
	}
	return strings.Join(all, "; ")
}

func mustOp(t *testing.T, s *creed.Session, priority int, kind, name string) {
	t.Helper()
	if e := s.Op(priority, kind, name); e != api.OK {
		t.Fatalf("Op(%d, %s, %q): %d", priority, kind, name, e)
	}
}

func TestP3New(t *testing.T) {
	if l := told(creed.New().Ops()); l != beginning {
		t.Errorf("Ops: %s\nwant %s", l, beginning)
	}
}

func TestP4Refused(t *testing.T) {
	s := creed.New()
	for _, c := range []struct {
		priority   int
		kind, name string
	}{
		{-1, "fy", "a"}, {1201, "xfx", "a"}, {-1 << 63, "xf", "a"}, {1<<63 - 1, "xf", "a"},
		{1, "", "a"}, {1, "y", "a"}, {1, "yfy", "a"}, {1, "xfxx", "a"}, {1, "Fy", "a"}, {1, " fy", "a"}, {1, "fx\x00", "a"},
		{1, "fy", ""}, {1, "xfy", ","}, {0, "xfy", ","}, {1000, "fy", ","}, {1, "xfy", "|"}, {1, "yf", "[]"}, {1, "fx", "{}"}, {0, "fx", "{}"},
		{1, "fy", "a\x00"}, {1, "fy", "\r"}, {1, "fy", "\x7f"}, {1, "fy", "é"}, {1, "fy", "\x1f"}, {1, "fy", "\x0b"}, {1, "fy", strings.Repeat("x", api.MaxName+1)}, {0, "fy", strings.Repeat(" ", api.MaxName+1)},
	} {
		if e := s.Op(c.priority, c.kind, c.name); e != api.ErrOp {
			t.Errorf("Op(%d, %q, %q): %d", c.priority, c.kind, c.name, e)
		}
	}
	if l := told(s.Ops()); l != beginning {
		t.Errorf("what was refused turned Ops: %s", l)
	}
}

// call: what Op is called with.
type call struct {
	priority   int
	kind, name string
}

func TestP4Turns(t *testing.T) {
	long := strings.Repeat("x", api.MaxName)
	for _, c := range []struct {
		calls []call
		name  string
		want  string
	}{
		{[]call{{1, "fy", "a"}}, "a", "1 fy a"},
		{[]call{{1200, "fx", long}}, long, "1200 fx " + long},
		{[]call{{1, "fy", "a"}, {2, "fx", "a"}}, "a", "2 fx a"},
		{[]call{{1, "yf", "a"}, {2, "fx", "a"}}, "a", "2 fx a; 1 yf a"},
		{[]call{{1, "yf", "a"}, {2, "xfx", "a"}}, "a", "2 xfx a"},
		{[]call{{3, "yfx", "a"}, {2, "xf", "a"}}, "a", "2 xf a"},
		{[]call{{3, "xfy", "a"}, {0, "xf", "a"}}, "a", ""},
		{[]call{{3, "xfy", "a"}, {0, "fx", "a"}}, "a", "3 xfy a"},
		{[]call{{3, "fy", "a"}, {0, "xfx", "a"}}, "a", "3 fy a"},
		{[]call{{0, "fy", "a"}}, "a", ""},
		{[]call{{0, "yf", "-"}}, "-", "200 fy -"},
		{[]call{{0, "fx", "-"}}, "-", "500 yfx -"},
		{[]call{{5, "xfx", "\t\n A~"}}, "\t\n A~", "5 xfx \t\n A~"},
		{[]call{{5, "xfx", "."}, {6, "fy", "[ ]"}}, ".", "5 xfx ."},
	} {
		s := creed.New()
		for _, o := range c.calls {
			mustOp(t, s, o.priority, o.kind, o.name)
		}
		var of []api.Op
		for _, o := range s.Ops() {
			if o.Name == c.name {
				of = append(of, o)
			}
		}
		if got := told(of); got != c.want {
			t.Errorf("%v: %s, want %s", c.calls, got, c.want)
		}
	}
}

func TestP4Many(t *testing.T) {
	s := creed.New()
	for n := len(s.Ops()); n < api.MaxOps; n++ {
		mustOp(t, s, 1, "xfx", fmt.Sprint("f", n))
	}
	for _, c := range []struct {
		priority   int
		kind, name string
		want       api.Errno
	}{
		{1, "xfx", "more", api.ErrMany}, {1, "fy", "+", api.ErrMany}, {1, "yf", "\\", api.ErrMany},
		{1201, "xfx", "more", api.ErrOp}, {1, "fyf", "more", api.ErrOp}, {1, "xfx", "[]", api.ErrOp},
		{0, "xfx", "more", api.OK}, {0, "fy", "+", api.OK}, {9, "yf", "f50", api.OK}, {9, "fx", "-", api.OK}, {9, "yfx", "-", api.OK},
		{9, "fx", "f50", api.ErrMany}, {0, "xfx", "f50", api.OK}, {9, "fx", "f50", api.OK}, {1, "xfx", "f50", api.ErrMany},
	} {
		if e := s.Op(c.priority, c.kind, c.name); e != c.want {
			t.Errorf("Op(%d, %s, %s): %d, want %d", c.priority, c.kind, c.name, e, c.want)
		}
	}
	if n := len(s.Ops()); n != api.MaxOps {
		t.Errorf("%d operators", n)
	}
}

func TestP5Order(t *testing.T) {
	s := creed.New()
	for _, name := range []string{"b", "B", "ab", "a", "a b", "~", " ", "\n", "aa", "Z"} {
		mustOp(t, s, 5, "xf", name)
		mustOp(t, s, 6, "fy", name)
	}
	names := ""
	for _, o := range s.Ops() {
		names += o.Kind + o.Name + "|"
	}
	want := "fy\n|xf\n|fy |xf |yfx*|yfx+|xfy,|fy-|yfx-|yfx/|xfx:-|xfy;|xfx<|xfx=|xfx>|fyB|xfB|fyZ|xfZ|fy\\|xfy^|fya|xfa|fya b|xfa b|fyaa|xfaa|fyab|xfab|fyb|xfb|xfxis|fy~|xf~|"
	if names != want {
		t.Errorf("Ops: %q\nwant %q", names, want)
	}
}
