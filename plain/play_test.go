package plain

import (
	"encoding/hex"
	"fmt"
	"slices"
	"strconv"
	"strings"
	"testing"

	"commonage/api"
	"commonage/calls"
	"commonage/pslot"
	"commonage/world"
)

// A pair is a Plain and a World of one plan, the test that they are in, and the slot that goes on, where steps are at large.
type pair struct {
	t    *testing.T
	p    api.Plan
	u    *Plain
	w    *world.World
	s, i int
}

// plan is a plan of a sign for each session, g or b (Bad).
func plan(lease int, signs string, bridges ...api.Bridge) api.Plan {
	p := api.Plan{Lease: lease, Bridges: bridges}
	for _, c := range signs {
		p.Bad = append(p.Bad, c == 'b')
	}
	return p
}

func link(from, to int) api.Bridge { return api.Bridge{From: from, To: to} }

// begin is a new pair of a plan.
func begin(t *testing.T, p api.Plan) *pair {
	t.Helper()
	u, e := New(p)
	w, f := world.New(p)
	if e != api.OK || f != api.OK || u == nil || w == nil {
		t.Fatal(p, u, e, f)
	}
	x := &pair{t: t, p: p, u: u, w: w}
	x.areSame("at first")
	return x
}

// does has a step befall both, and fails unless they answer the same, and are the same behind it. A World's one whom nobody trusts does nothing here.
func (x *pair) does(s api.Step) (api.Out, bool) {
	x.t.Helper()
	got, is := x.u.Do(s)
	var want api.Out
	var ok bool
	if s.Kind != api.SBad {
		want, ok = x.w.Do(s)
	}
	if text(got, is) != text(want, ok) {
		x.t.Fatalf("%v: %+v tells %s, want %s", x.p, s, text(got, is), text(want, ok))
	}
	x.areSame(s)
	return got, is
}

// areSame fails unless the Plain's processes, and how far they are, are the World's.
func (x *pair) areSame(behind any) {
	x.t.Helper()
	for n := range x.p.Bad {
		if got, want := x.u.Procs(n), x.procs(n); !slices.Equal(got, want) {
			x.t.Fatalf("%v: %+v: session %d has\n%v, want\n%v", x.p, behind, n, got, want)
		}
		for i := range 8 {
			if got, want := x.u.Phase(n, i), x.w.Host(n, i).Phase(); got != want {
				x.t.Fatalf("%v: %+v: %d.%d is at %d, want %d", x.p, behind, n, i, got, want)
			}
		}
	}
}

// procs are the World's processes of a session, as its bytes tell.
func (x *pair) procs(n int) []api.Proc {
	x.t.Helper()
	b, e := x.w.Raw(n)
	if e != api.OK {
		x.t.Fatal(n, e)
	}
	var l []api.Proc
	for i := range 8 {
		p, is := pslot.Decode(b[24*i : 24*i+24])
		if is == api.DBad {
			x.t.Fatal(n, i, b)
		}
		l = append(l, p)
	}
	return l
}

// play is a new pair of a plan, which these lines befell.
func play(t *testing.T, p api.Plan, script string) *pair {
	t.Helper()
	x := begin(t, p)
	x.plays(script)
	return x
}

// plays has these lines befall both, one after the other, each a step, or several ones, and behind => what is told of the last one; of the others, and where there is no =>, nothing is told.
func (x *pair) plays(script string) {
	x.t.Helper()
	for _, line := range strings.Split(script, "\n") {
		line, want, _ := strings.Cut(strings.TrimSpace(line), " => ")
		l := steps(x.t, line)
		for n, s := range l {
			got, is := told(x.does(s)), "-"
			if n == len(l)-1 && want != "" {
				is = want
			}
			if got != is {
				x.t.Errorf("%s: step %d tells %s, want %s", line, n, got, is)
			}
		}
	}
}

// steps reads a line: a step as chapter 26 has it, `do` and a call, which goes in and is done by the next two picks, or `pick` of one several times (`pick 0.1 x3`).
func steps(t *testing.T, line string) []api.Step {
	t.Helper()
	head, rest, _ := strings.Cut(line, " ")
	switch head {
	case "":
		return nil
	case "do":
		l := steps(t, rest)
		return append(l, pick(l[0].S, l[0].P), pick(l[0].S, l[0].P))
	case "pick":
		at, times, ok := strings.Cut(rest, " x")
		n := 1
		if ok {
			n = number(t, times)
		}
		s, p := place(t, at)
		return slices.Repeat([]api.Step{pick(s, p)}, n)
	case "tick":
		return []api.Step{tick(number(t, rest))}
	case "type":
		at, b, _ := strings.Cut(rest, " ")
		s, p := place(t, at)
		d, err := hex.DecodeString(strings.TrimSuffix(b, "-"))
		if err != nil {
			t.Fatal(line)
		}
		return []api.Step{types(s, p, d...)}
	}
	s, p := place(t, head)
	c, ok := calls.Parse(rest)
	if !ok {
		t.Fatal(line)
	}
	return []api.Step{call(s, p, c)}
}

func place(t *testing.T, text string) (session, slot int) {
	t.Helper()
	a, b, _ := strings.Cut(text, ".")
	return number(t, a), number(t, b)
}

func number(t *testing.T, text string) int {
	t.Helper()
	n, err := strconv.Atoi(text)
	if err != nil {
		t.Fatal(text)
	}
	return n
}

// told is what is told of a step, as chapter 26 has it: - of nothing.
func told(o api.Out, ok bool) string {
	if !ok {
		if text(o, ok) != text(api.Out{}, false) {
			return text(o, ok)
		}
		return "-"
	}
	t := fmt.Sprint(o.Session, ".", o.Slot)
	if o.Back {
		t += " " + calls.Name(o.Sys.Op)
		if o.E == api.OK {
			t += fmt.Sprint(" =", o.N)
		} else {
			t += fmt.Sprint(" !", int(o.E)-100)
		}
		if len(o.B) > 0 {
			t += ":" + hex.EncodeToString(o.B)
		}
	}
	if len(o.Sigs) > 0 {
		t += " caught " + strings.ReplaceAll(strings.Trim(fmt.Sprint(o.Sigs), "[]"), " ", ",")
	}
	if o.Dies > 0 {
		t += fmt.Sprint(" died ", o.Dies)
	}
	return t
}

// text tells all that is answered.
func text(o api.Out, ok bool) string {
	s := o.Sys
	return fmt.Sprint(ok, " ", o.Session, ".", o.Slot, " ", s.Op, " ", s.A, " ", s.B, s.D, " ", o.N, " ", int(o.E), o.B, " ", o.Back, o.Sigs, o.Dies)
}

// state tells all that is to be seen of u.
func state(u *Plain, sessions int) string {
	var l []any
	for n := range sessions {
		l = append(l, u.Procs(n))
		for i := range 8 {
			l = append(l, u.Phase(n, i))
		}
	}
	return fmt.Sprintln(l...)
}

func sys(op, a, b int, d ...byte) api.Sys { return api.Sys{Op: op, A: a, B: b, D: d} }

func call(s, p int, x api.Sys) api.Step { return api.Step{Kind: 1, S: s, P: p, Sys: x} }

func pick(s, p int) api.Step { return api.Step{Kind: 2, S: s, P: p} }

func tick(n int) api.Step { return api.Step{Kind: 3, N: n} }

func types(s, p int, b ...byte) api.Step { return api.Step{Kind: 4, S: s, P: p, B: b} }

func bad(s int, c api.Call) api.Step { return api.Step{Kind: 5, S: s, Call: c} }

// run is n bytes, each one more than the one ahead.
func run(first byte, n int) []byte {
	b := make([]byte, n)
	for i := range b {
		b[i] = first + byte(i)
	}
	return b
}
