package world

import (
	"encoding/hex"
	"fmt"
	"slices"
	"strconv"
	"strings"
	"testing"

	"commonage/api"
	"commonage/calls"
)

// A room is a World of a plan, the test that it is in, and the slot that goes on, where steps are at large.
type room struct {
	*World
	t    *testing.T
	p    api.Plan
	s, i int
}

// plan is a plan of a sign for each session, g or b (Bad).
func plan(lease int, signs string, bridges ...api.Bridge) api.Plan {
	p := api.Plan{Lease: lease, Bridges: bridges}
	for _, c := range signs {
		p.Bad = append(p.Bad, c == 'b')
	}
	return p
}

func link(from, to int) api.Bridge { return api.Bridge{From: from, To: to} }

// begin is a new World of a plan.
func begin(t *testing.T, p api.Plan) *room {
	t.Helper()
	w, e := New(p)
	if e != api.OK || w == nil {
		t.Fatal(p, w, e)
	}
	return &room{World: w, t: t, p: p}
}

// play is a new World of a plan, which these lines befell.
func play(t *testing.T, p api.Plan, script string) *room {
	t.Helper()
	w := begin(t, p)
	w.plays(script)
	return w
}

// plays has these lines befall w, one after the other, each a step, or several ones, and behind => what is told of the last one; of the others, and where there is no =>, nothing is told.
func (w *room) plays(script string) {
	w.t.Helper()
	for _, line := range strings.Split(script, "\n") {
		line, want, _ := strings.Cut(strings.TrimSpace(line), " => ")
		l := w.steps(line)
		for n, s := range l {
			got, is := told(w.Do(s)), "-"
			if n == len(l)-1 && want != "" {
				is = want
			}
			if got != is {
				w.t.Errorf("%s: step %d tells %s, want %s", line, n, got, is)
			}
		}
	}
}

// playsIn does so of a session, which stands there as S.
func (w *room) playsIn(session int, script string) {
	w.t.Helper()
	w.plays(strings.ReplaceAll(script, "S", strconv.Itoa(session)))
}

// steps reads a line: a step as chapter 26 has it, `do` and a call, which goes in and is done by the next two picks, or `pick` of one several times (`pick 0.1 x3`).
func (w *room) steps(line string) []api.Step {
	w.t.Helper()
	head, rest, _ := strings.Cut(line, " ")
	switch head {
	case "":
		return nil
	case "do":
		l := w.steps(rest)
		return append(l, pick(l[0].S, l[0].P), pick(l[0].S, l[0].P))
	case "pick":
		at, times, _ := strings.Cut(rest, " x")
		s, p := w.place(at)
		n := 1
		if times != "" {
			n = w.number(times)
		}
		return slices.Repeat([]api.Step{pick(s, p)}, n)
	case "tick":
		return []api.Step{tick(w.number(rest))}
	case "type":
		at, b, _ := strings.Cut(rest, " ")
		s, p := w.place(at)
		return []api.Step{types(s, p, w.bytes(b)...)}
	case "bad":
		s, c, _ := strings.Cut(rest, " ")
		return []api.Step{bad(w.number(s), w.kernCall(c))}
	}
	s, p := w.place(head)
	x, ok := calls.Parse(rest)
	if !ok {
		w.t.Fatal(line)
	}
	return []api.Step{call(s, p, x)}
}

// kernCall reads a call of the kernel, as chapter 26 has it.
func (w *room) kernCall(text string) api.Call {
	w.t.Helper()
	words := strings.Split(text, " ")
	var c api.Call
	fields := map[rune]*int{'C': &c.Cap, 'A': &c.At, 'N': &c.N, 'T': &c.To, 'O': &c.On}
	for op, shape := range []string{1: "read CAN", 2: "write CAB", 3: "copy CATON", 4: "grant CTOAN", 5: "revoke C", 6: "alloc ", 7: "free N", 8: "enter N", 9: "leave NA", 10: "now "} {
		name, names, _ := strings.Cut(shape, " ")
		if name != words[0] {
			continue
		}
		c.Op = op
		for n, letter := range names {
			if letter == 'B' {
				c.B = w.bytes(words[1+n])
			} else {
				*fields[letter] = w.number(words[1+n])
			}
		}
	}
	return c
}

func (w *room) place(text string) (session, slot int) {
	w.t.Helper()
	a, b, _ := strings.Cut(text, ".")
	return w.number(a), w.number(b)
}

func (w *room) number(text string) int {
	w.t.Helper()
	n, err := strconv.Atoi(text)
	if err != nil {
		w.t.Fatal(text)
	}
	return n
}

func (w *room) bytes(text string) []byte {
	w.t.Helper()
	b, err := hex.DecodeString(strings.TrimSuffix(text, "-"))
	if err != nil {
		w.t.Fatal(text)
	}
	return b
}

// told is what is told of a step, as chapter 26 has it: - of nothing.
func told(o api.Out, ok bool) string {
	if !ok {
		if text(o, ok) != text(api.Out{}, false) {
			return text(o, ok)
		}
		return "-"
	}
	t := fmt.Sprint(o.Session, ".", o.Slot)
	if o.Back {
		t += " " + calls.Name(o.Sys.Op)
		if o.E == api.OK {
			t += fmt.Sprint(" =", o.N)
		} else {
			t += fmt.Sprint(" !", int(o.E)-100)
		}
		if len(o.B) > 0 {
			t += ":" + hex.EncodeToString(o.B)
		}
	}
	if len(o.Sigs) > 0 {
		t += " caught " + strings.ReplaceAll(strings.Trim(fmt.Sprint(o.Sigs), "[]"), " ", ",")
	}
	if o.Dies > 0 {
		t += fmt.Sprint(" died ", o.Dies)
	}
	return t
}

// text tells all that is answered.
func text(o api.Out, ok bool) string {
	s := o.Sys
	return fmt.Sprint(ok, " ", o.Session, ".", o.Slot, " ", s.Op, s.A, s.B, s.D, " ", o.N, int(o.E), o.B, " ", o.Back, o.Sigs, o.Dies)
}

func sys(op, a, b int, d ...byte) api.Sys { return api.Sys{Op: op, A: a, B: b, D: d} }

func call(s, p int, x api.Sys) api.Step { return api.Step{Kind: 1, S: s, P: p, Sys: x} }

func pick(s, p int) api.Step { return api.Step{Kind: 2, S: s, P: p} }

func tick(n int) api.Step { return api.Step{Kind: 3, N: n} }

func types(s, p int, b ...byte) api.Step { return api.Step{Kind: 4, S: s, P: p, B: b} }

func bad(s int, c api.Call) api.Step { return api.Step{Kind: 5, S: s, Call: c} }

// writes is a stranger's write, by its Cap of a place, to a byte on.
func writes(s, place, at int, b ...byte) api.Step {
	return bad(s, api.Call{Op: api.KWrite, Cap: 256 + place, At: at, B: b})
}

// run is n bytes, each one more than the one ahead.
func run(first byte, n int) []byte {
	b := make([]byte, n)
	for i := range b {
		b[i] = first + byte(i)
	}
	return b
}

// raw is what a session's commons are, or, behind the sessions, a bridge.
func (w *room) raw(region int) []byte {
	w.t.Helper()
	b, e := w.Raw(region)
	if region >= len(w.p.Bad) {
		b, e = w.Bridge(region - len(w.p.Bad))
	}
	if e != api.OK {
		w.t.Fatal(region, e)
	}
	return b
}

// regions are how many there are.
func (w *room) regions() int { return len(w.p.Bad) + len(w.p.Bridges) }

// all is what all regions have.
func (w *room) all() [][]byte {
	w.t.Helper()
	var l [][]byte
	for n := range w.regions() {
		l = append(l, w.raw(n))
	}
	return l
}

// gate tells who holds a session's section, with which stamp, since when, and who waits for it.
func (w *room) gate(session int) string {
	x := w.Kern().Sect(session)
	who, stamp, since, ok := x.Holder()
	return fmt.Sprint(who, stamp, since, ok, x.Queue())
}

// session tells all that is to be seen of a session, but for the bridges.
func (w *room) session(s int) string {
	w.t.Helper()
	l := []any{w.raw(s), w.gate(s)}
	for i := range 9 {
		l = append(l, w.Kern().Space().Names(9*s+i))
	}
	for i := range 8 {
		h := w.Host(s, i)
		l = append(l, h.Phase(), h.Commons().Bad())
	}
	return fmt.Sprintln(l...)
}

// state tells all that is to be seen of w.
func (w *room) state() string {
	w.t.Helper()
	t := fmt.Sprintln(w.Kern().Now(), w.all())
	for s := range w.p.Bad {
		t += w.session(s)
	}
	return t
}

// bridgesOf are the bridges that a session shares, in order.
func bridgesOf(p api.Plan, s int) []int {
	var l []int
	for n, b := range p.Bridges {
		if b.From == s || b.To == s {
			l = append(l, n)
		}
	}
	return l
}
