package plain

import (
	"fmt"
	"go/parser"
	"go/token"
	"math"
	"os"
	"slices"
	"strings"
	"testing"

	"commonage/api"
	"commonage/world"
)

var wild = []int{math.MinInt, math.MinInt + 1, -1 << 62, -1 << 32, -65536, -257, -9, -8, -2, -1, 0, 1, 2, 3, 4, 5, 6, 7, 8, 9, 10, 11, 15, 16, 18, 31, 32, 33, 40, 63, 64, 255, 256, 257, 999, 1000, 1001, 65535, 65536, 1 << 31, 1 << 32, 1<<32 + 1, 1 << 62, math.MaxInt - 1, math.MaxInt}

// checks fails unless New and Run both refuse a plan, or none of them does, and the World does so, too.
func checks(t *testing.T, p api.Plan, ok bool) {
	t.Helper()
	want := api.ErrArg
	if ok {
		want = api.OK
	}
	was := fmt.Sprint(p)
	if e := world.Check(p); e != want {
		t.Error(p, "Check", e)
	}
	if u, e := New(p); e != want || (u != nil) != ok {
		t.Error(p, "New", u, e)
	}
	if l, e := Run(p, call(0, 0, sys(api.UPid, 0, 0)), pick(0, 0), pick(0, 0)); e != want || len(l) > 0 != ok {
		t.Error(p, "Run", l, e)
	}
	if is := fmt.Sprint(p); is != was {
		t.Error(was, "is", is)
	}
}

// Promise 23.1: a plan is refused as by a World: it has 1 to 4 sessions and a lease of 1 to 1,000.
func TestNew(t *testing.T) {
	if api.ErrArg != 1 {
		t.Error(api.ErrArg)
	}
	for n := range 7 {
		for _, lease := range wild {
			p := api.Plan{Bad: make([]bool, n), Lease: lease}
			if n > 0 {
				p.Bad[n-1] = lease%2 == 0
			}
			checks(t, p, n >= 1 && n <= 4 && lease >= 1 && lease <= 1000)
		}
	}
	checks(t, api.Plan{}, false)
	checks(t, api.Plan{Lease: 1}, false)
	checks(t, api.Plan{Bad: make([]bool, 300), Lease: 1}, false)
}

// Promise 23.1: a bridge joins two unlike sessions, wherever it stands among the others; there are at most four.
func TestNewBridges(t *testing.T) {
	for n := 1; n <= 4; n++ {
		signs := "gggg"[:n]
		for _, from := range wild {
			for _, to := range wild {
				isIn := from >= 0 && from < n && to >= 0 && to < n
				checks(t, plan(5, signs, link(from, to)), isIn && from != to)
			}
		}
	}
	for n := range 7 {
		checks(t, plan(5, "ggg", slices.Repeat([]api.Bridge{link(1, 0)}, n)...), n <= 4)
		checks(t, plan(5, "g", slices.Repeat([]api.Bridge{link(0, 1)}, n)...), n == 0)
		for i := range n {
			for _, wrong := range []api.Bridge{link(1, 1), link(0, 3), link(3, 0), link(-1, 2), link(2, -1)} {
				l := slices.Repeat([]api.Bridge{link(2, 1)}, n)
				l[i] = wrong
				checks(t, plan(5, "ggg", l...), false)
			}
		}
	}
}

// plans are all of up to three sessions with up to three bridges, and some with four.
func plans() []api.Plan {
	l := []api.Plan{
		plan(7, "gggg"), plan(7, "bbbb", link(0, 1), link(1, 2), link(2, 3), link(3, 0)), plan(7, "gbgb", link(3, 2), link(3, 2), link(3, 2), link(3, 2)),
		plan(7, "ggbg", link(0, 3), link(3, 0), link(0, 3), link(1, 3)), plan(7, "gb", link(1, 0), link(0, 1), link(0, 1), link(1, 0)),
	}
	for n := 1; n <= 3; n++ {
		some := [][]api.Bridge{nil}
		for range 4 {
			var more [][]api.Bridge
			for _, x := range some {
				p := plan(1+len(l)%1000, "ggg"[:n], x...)
				p.Bad[len(l)%n] = len(l)%3 > 0
				l = append(l, p)
				for from := range n {
					for by := 1; by < n; by++ {
						more = append(more, append(slices.Clone(x), link(from, (from+by)%n)))
					}
				}
			}
			some = more
		}
	}
	return l
}

// Promise 23.1: whatever the plan, what a session begins with is what a World's does: one process in slot 0, whose descriptors name the terminal and its ends of the bridges, and nobody wants anything.
func TestBegins(t *testing.T) {
	for _, p := range plans() {
		x := begin(t, p)
		for n := range p.Bad {
			want := make([]api.Proc, 8)
			want[0] = api.Proc{State: 1, Fds: [8]int{1}}
			for _, b := range p.Bridges {
				if b.From == n || b.To == n {
					at := slices.Index(want[0].Fds[:], 0)
					want[0].Fds[at] = at + 1
				}
			}
			if got := x.u.Procs(n); !slices.Equal(got, want) {
				t.Fatal(p, n, got)
			}
			for i := range 8 {
				if got := x.u.Phase(n, i); got != 0 {
					t.Fatal(p, n, i, got)
				}
			}
		}
	}
}

// Promise 23.1: what each descriptor names at first, as a process finds it.
func TestUsesWhatItBeginsWith(t *testing.T) {
	play(t, plan(5, "gbg", link(0, 2), link(2, 0), link(1, 2), link(0, 2)), `
		do 0.0 write 1 10 => 0.0 write =1
		do 0.0 write 3 2021 => 0.0 write =2
		do 1.0 write 1 303132 => 1.0 write =3
		do 2.0 write 2 40414243 => 2.0 write =4
		do 2.0 read 1 32 => 2.0 read =1:10
		do 2.0 read 4 32 => 2.0 read =2:2021
		do 2.0 read 3 32 => 2.0 read =3:303132
		do 0.0 read 2 32 => 0.0 read =4:40414243
		do 0.0 read 1 1 => 0.0 read !9
		do 0.0 write 2 01 => 0.0 write !9
		do 0.0 write 0 01 => 0.0 write !9
		do 2.0 write 1 10 => 2.0 write !9
		do 0.0 read 0 0 => 0.0 read =0
		do 1.0 dup 2 => 1.0 dup !9
		do 0.0 dup 4 => 0.0 dup !9
		do 2.0 dup 5 => 2.0 dup !9
		do 1.0 parent => 1.0 parent =-1
		do 1.0 getgroup => 1.0 getgroup =0
		do 1.0 mask 0 => 1.0 mask =0
		do 1.0 wait => 1.0 wait !10
		do 1.0 kill 1 0 => 1.0 kill !3
		do 1.0 front 0 => 1.0 front =0
	`)
}

// Promise 23.1: Procs tells the eight slots of a session, the zero Proc of a free one, as they are now; none of no session.
func TestProcs(t *testing.T) {
	x := play(t, plan(5, "gb", link(1, 0)), `
		do 1.0 pipe => 1.0 pipe =50
		do 1.0 mask 6 => 1.0 mask =0
		do 1.0 sig 3 1 => 1.0 sig =0
		do 1.0 sig 4 2 => 1.0 sig =0
		do 1.0 fork => 1.0 fork =1
		do 1.0 fork => 1.0 fork =2
		do 1.0 fork => 1.0 fork =3
		do 1.0 group 2 2 => 1.0 group =0
		do 1.0 kill 2 14 => 1.0 kill =0
		pick 1.2
		do 1.0 kill 2 1 => 1.0 kill =0
		do 1.1 exit 300 => 1.1 exit =0
		do 1.3 fork => 1.3 fork =4
		do 1.3 exit 0 => 1.3 exit =0
		do 1.0 wait => 1.0 wait =300
		do 1.0 dup2 2 1 => 1.0 dup2 =1
	`)
	want := make([]api.Proc, 8)
	want[0] = api.Proc{State: 1, Mask: 6, Ignored: 8, Caught: 16, Fds: [8]int{1, 3, 3, 4}}
	want[2] = api.Proc{State: 3, Parent: 1, Group: 2, Pending: 2, Mask: 6, Ignored: 8, Caught: 16, Fds: [8]int{1, 2, 3, 4}}
	want[3] = api.Proc{State: 2, Parent: 1, Mask: 6, Ignored: 8, Caught: 16}
	want[4] = api.Proc{State: 1, Mask: 6, Ignored: 8, Caught: 16, Fds: [8]int{1, 2, 3, 4}}
	if got := x.u.Procs(1); !slices.Equal(got, want) {
		t.Error(got)
	}
	if got := x.u.Procs(0); len(got) != 8 || got[0] != (api.Proc{State: 1, Fds: [8]int{1, 2}}) {
		t.Error(got)
	}
	for _, n := range wild {
		if got := x.u.Procs(n); len(got) > 0 != (n == 0 || n == 1) {
			t.Error(n, got)
		}
	}
	for n := range 5 {
		if got := begin(t, plan(5, "gggg"[:max(1, n)])).u.Procs(n); len(got) > 0 != (n == 0) {
			t.Error(n, got)
		}
	}
}

// Promise 23.1: Phase is a Host's: idle, wanting, in, or blocked; 0 of no slot, and of no session.
func TestPhase(t *testing.T) {
	x := play(t, plan(5, "gg"), `
		do 1.0 fork => 1.0 fork =1
		do 1.0 fork => 1.0 fork =2
		do 1.0 fork => 1.0 fork =3
		do 1.1 exit 0 => 1.1 exit =0
		1.0 read 0 1
		1.1 pid
		1.2 pid
		1.3 pid
		pick 1.0 x2
		pick 1.2
		pick 1.3
	`)
	for _, s := range wild {
		for _, i := range wild {
			want := 0
			if s == 1 && i >= 0 && i < 4 {
				want = []int{api.HBlocked, api.HIdle, api.HIn, api.HWant}[i]
			}
			if got := x.u.Phase(s, i); got != want {
				t.Error(s, i, got)
			}
		}
	}
	if got := [...]int{api.HIdle, api.HWant, api.HIn, api.HBlocked}; got != [...]int{0, 1, 2, 3} {
		t.Error(got)
	}
}

// Promise 23.1: SBad is nothing, whatever it asks and wherever, also where there is one whom nobody trusts.
func TestBadIsNothing(t *testing.T) {
	p := plan(2, "gb", link(1, 0))
	script := `
		1.0 fork
		pick 1.0
		pick 1.0
		1.0 read 0 2
		1.1 write 1 0506
		pick 1.0
		pick 1.1
		tick 1
		pick 1.0
		type 1.0 07
		pick 1.1
		pick 1.0
		pick 1.1
		0.0 read 1 8
		pick 0.0
		pick 0.0
		pick 1.0
		pick 1.0
	`
	u, _ := New(p)
	with, _ := New(p)
	outs := 0
	for _, line := range strings.Split(script, "\n") {
		for _, s := range steps(t, strings.TrimSpace(line)) {
			for op := range 12 {
				for _, c := range []api.Call{{Op: op}, {Op: op, Cap: 256, N: 1, To: 257, B: []byte{9}}, {Op: op, Cap: 257, At: 2, N: 1, B: []byte{1}}} {
					for _, n := range []int{-1, 0, 1, 2} {
						// All but the Kind may be as of any other step.
						x := s
						x.Kind, x.S, x.Call = api.SBad, n, c
						if o, ok := with.Do(x); told(o, ok) != "-" {
							t.Fatal(x, o)
						}
					}
				}
			}
			if got, want := text(with.Do(s)), text(u.Do(s)); got != want {
				t.Fatalf("%+v: %s, want %s", s, got, want)
			} else if strings.HasPrefix(got, "true") {
				outs++
			}
			if got, want := state(with, 2), state(u, 2); got != want {
				t.Fatalf("%+v: %s, want %s", s, got, want)
			}
		}
	}
	if outs != 4 {
		t.Error(outs)
	}
	// Neither does it let time go on, nor is it one of those that are told.
	l, e := Run(plan(5, "b"), bad(0, api.Call{Op: api.KWrite, Cap: 256, B: []byte{9}}), api.Step{Kind: 5, N: 9}, call(0, 0, sys(api.UGetGroup, 0, 0)), pick(0, 0), bad(0, api.Call{Op: api.KEnter}), pick(0, 0))
	if len(l) != 1 || told(l[0], true) != "0.0 getgroup =0" || e != api.OK {
		t.Error(l, e)
	}
}

// Promise 23.1: a step that names no session, or no slot, and one of no kind, is nothing.
func TestNothing(t *testing.T) {
	for _, n := range wild {
		x := play(t, plan(3, "gg"), `
			type 0.0 01
			0.0 read 0 1
			1.0 pid
			pick 1.0
		`)
		was := state(x.u, 2)
		for _, kind := range []int{1, 2, 4} {
			if n < 0 || n > 1 {
				x.does(api.Step{Kind: kind, S: n, Sys: sys(api.UFork, 0, 0), B: []byte{2}})
				x.does(api.Step{Kind: kind, S: n, P: n, Sys: sys(api.UFork, 0, 0), B: []byte{2}})
			}
			if n < 0 || n > 7 {
				x.does(api.Step{Kind: kind, P: n, Sys: sys(api.UFork, 0, 0), B: []byte{2}})
				x.does(api.Step{Kind: kind, S: 1, P: n, Sys: sys(api.UFork, 0, 0), B: []byte{2}})
			}
		}
		if n < 1 || n > 4 {
			x.does(api.Step{Kind: n, N: 9, Sys: sys(api.UFork, 0, 0), B: []byte{2}})
			x.does(api.Step{Kind: n, S: 1, N: 9, Sys: sys(api.UFork, 0, 0), B: []byte{2}})
		}
		if is := state(x.u, 2); is != was {
			t.Error(n, is, was)
		}
		x.plays(`
			pick 1.0 => 1.0 pid =0
			pick 0.0
			pick 0.0 => 0.0 read =1:01
			do 0.0 read 0 1
			type 0.7 03
			pick 0.0 x2
			pick 0.0 => 0.0 read =1:03
		`)
	}
}

// Promise 23.1: a tick names no session and no slot; time goes on by what it says, but by no less than 0, and no more than 1,000.
func TestTick(t *testing.T) {
	for _, n := range wild {
		for _, lease := range []int{1, 2, 16, 1000} {
			x := play(t, plan(lease, "g"), `
				do 0.0 fork => 0.0 fork =1
				0.0 pid
				0.1 pid
				pick 0.0
			`)
			x.does(api.Step{Kind: 3, S: n, P: n, N: n})
			x.does(pick(0, 1))
			want := api.HWant
			if n >= lease {
				want = api.HIn
			}
			if got := x.u.Phase(0, 1); got != want {
				t.Error(n, lease, got)
			}
			x.does(tick(-1000))
			x.does(pick(0, 1))
			if got := x.u.Phase(0, 1); got != want && !(want == api.HIn && got == api.HIdle) {
				t.Error(n, lease, got)
			}
		}
	}
}

// Promise 23.1: it is never later than 2^30, so that nobody is passed by from then on.
func TestEndOfTime(t *testing.T) {
	x := play(t, plan(1000, "g"), "do 0.0 fork => 0.0 fork =1")
	for n := range 1<<30/1000 - 1 {
		x.u.Do(tick(1000 + n))
		x.w.Do(tick(1000 + n))
	}
	// It is 2^30 less 1,824.
	x.plays(`
		0.0 pid
		0.1 pid
		pick 0.0
		tick 1000
		pick 0.1
		pick 0.1 => 0.1 pid =1
		pick 0.0 x2
		0.1 pid
		tick 1000
		pick 0.1
		tick 1000
		tick 1000
		pick 0.1 x3
	`)
	if got := [2]int{x.u.Phase(0, 0), x.u.Phase(0, 1)}; got != [2]int{api.HIn, api.HWant} {
		t.Error(got)
	}
	x.plays("pick 0.0 => 0.0 pid =0")
}

// Promise 23.1: what is typed goes into the terminal of a session, as far as there is room, whichever slot is named; of more than 32 bytes nothing does.
func TestType(t *testing.T) {
	x := begin(t, plan(5, "gg"))
	for _, n := range []int{0, 1, 31, 32, 33, 34, 64, 300} {
		for i := range 8 {
			x.does(types(1, i, run(7, n)...))
			want := "1.0 read =" + fmt.Sprint(n) + ":" + fmt.Sprintf("%x", run(7, n))
			if n == 0 || n > 32 {
				want = "1.0 read !11"
			}
			x.plays("do 1.0 now 0 1 => 1.0 now =0")
			x.plays("do 1.0 read 0 32 => " + want)
		}
	}
	x.plays(`
		type 1.0 000102030405060708090a0b0c0d0e0f101112131415161718191a1b
		type 1.7 2021222324
		type 1.0 30
		do 1.0 read 0 30 => 1.0 read =30:000102030405060708090a0b0c0d0e0f101112131415161718191a1b2021
		type 1.0 404142
		do 1.0 read 0 32 => 1.0 read =5:2223404142
		do 0.0 now 0 1 => 0.0 now =0
		do 0.0 read 0 32 => 0.0 read !11
	`)
}

// Promise 23.1: Run has all its steps befall a new Plain, and tells all Outs, in order.
func TestRun(t *testing.T) {
	p := plan(5, "gg", link(1, 0))
	l := []api.Step{call(1, 0, sys(api.UWrite, 1, 0, 4, 5)), call(0, 0, sys(api.UFork, 0, 0)), pick(0, 0), pick(1, 0), pick(1, 0), tick(1), pick(0, 0), pick(0, 0), call(0, 1, sys(api.URead, 1, 8)), pick(0, 1), {}, pick(0, 1)}
	for range 2 {
		got, e := Run(p, l...)
		want, f := world.Run(p, l...)
		if fmt.Sprint(got) != fmt.Sprint(want) || e != api.OK || f != api.OK {
			t.Error(got, want, e, f)
		}
		var said []string
		for _, o := range got {
			said = append(said, told(o, true))
		}
		if got := strings.Join(said, "; "); got != "1.0 write =2; 0.0 fork =1; 0.1 read =2:0405" {
			t.Error(got)
		}
	}
	for _, l := range [][]api.Step{nil, {}, l[:3], {tick(4)}} {
		if got, e := Run(p, l...); len(got) != 0 || e != api.OK {
			t.Error(got, e)
		}
	}
	if got, e := Run(plan(0, "g"), l...); got != nil || e != api.ErrArg {
		t.Error(got, e)
	}
}

// Rule 3: what is handed in is not changed, nor the room behind it, and not kept.
func TestHandedIn(t *testing.T) {
	p := plan(5, "gg", link(0, 1))
	p.Bad, p.Bridges = append(p.Bad, true)[:2], append(p.Bridges, link(7, 7))[:1]
	u, _ := New(p)
	if fmt.Sprint(p.Bad[:3], p.Bridges[:2]) != "[false false true] [{0 1} {7 7}]" {
		t.Error(p.Bad[:3], p.Bridges[:2])
	}
	p.Bad[0], p.Bridges[0], p.Lease = true, link(1, 0), 0
	d, b := append(run(20, 3), 99)[:3], append(run(40, 2), 99)[:2]
	u.Do(call(0, 0, sys(api.UWrite, 1, 0, d...)))
	s := api.Step{Kind: 1, Sys: api.Sys{Op: api.UWrite, A: 1, D: d}}
	s.P = 1
	u.Do(s)
	u.Do(types(0, 0, b...))
	if fmt.Sprint(d[:4], b[:3]) != "[20 21 22 99] [40 41 99]" {
		t.Error(d[:4], b[:3])
	}
	for n := range d {
		d[n] = 1
	}
	b[0] = 1
	u.Do(pick(0, 0))
	o, ok := u.Do(pick(0, 0))
	if got, want := text(o, ok), text(api.Out{Sys: sys(api.UWrite, 1, 0, 20, 21, 22), N: 3, Back: true}, true); got != want {
		t.Errorf("%s, want %s", got, want)
	}
	u.Do(call(0, 0, sys(api.URead, 0, 8)))
	u.Do(pick(0, 0))
	if got := told(u.Do(pick(0, 0))); got != "0.0 read =2:2829" {
		t.Error(got)
	}
}

// Rule 3: what is answered is new memory, its spare room too.
func TestAnswers(t *testing.T) {
	p := plan(5, "gg", link(0, 1))
	u, _ := New(p)
	was := state(u, 2)
	for n := range 2 {
		l := u.Procs(n)
		for i := range l[:cap(l)] {
			l[:cap(l)][i] = api.Proc{State: 9, Fds: [8]int{9, 9, 9}}
		}
	}
	if is := state(u, 2); is != was {
		t.Error(is, was)
	}
	does := func(x api.Sys) api.Out {
		u.Do(call(0, 0, x))
		u.Do(pick(0, 0))
		o, _ := u.Do(pick(0, 0))
		return o
	}
	spoil := func(l []byte) {
		for i := range l[:cap(l)] {
			l[:cap(l)][i] = 99
		}
	}
	does(sys(api.USig, 3, 2))
	u.Do(types(0, 0, 5, 6, 7, 8))
	o := does(sys(api.URead, 0, 2, 1, 2, 3))
	if got := text(o, true); got != text(api.Out{Sys: sys(api.URead, 0, 2, 1, 2, 3), N: 2, B: []byte{5, 6}, Back: true}, true) {
		t.Error(got)
	}
	spoil(o.Sys.D)
	if fmt.Sprint(o.B) != "[5 6]" {
		t.Error(o.B)
	}
	spoil(o.B)
	if got := does(sys(api.URead, 0, 2)); fmt.Sprint(got.B) != "[7 8]" {
		t.Error(got)
	}
	o = does(sys(api.UKill, 0, 3))
	if fmt.Sprint(o.Sigs) != "[3]" {
		t.Error(o)
	}
	for i := range o.Sigs[:cap(o.Sigs)] {
		o.Sigs[:cap(o.Sigs)][i] = 9
	}
	if o = does(sys(api.UKill, 0, 3)); fmt.Sprint(o.Sigs) != "[3]" {
		t.Error(o)
	}
	o = does(sys(api.UWrite, 1, 0, 1, 2, 3))
	spoil(o.Sys.D)
	u.Do(call(1, 0, sys(api.URead, 1, 8)))
	u.Do(pick(1, 0))
	if got := told(u.Do(pick(1, 0))); got != "1.0 read =3:010203" {
		t.Error(got)
	}
}

// Two Plains have nothing in common.
func TestApart(t *testing.T) {
	p := plan(5, "gg", link(0, 1))
	a, _ := New(p)
	b, _ := New(p)
	was := state(b, 2)
	for _, line := range []string{"do 0.0 fork", "do 0.1 write 1 0506", "type 0.0 07", "do 0.0 group 0 3", "do 0.0 front 3", "0.1 pid", "pick 0.1", "tick 9"} {
		for _, s := range steps(t, line) {
			a.Do(s)
		}
	}
	if is := state(b, 2); is != was {
		t.Error(is, was)
	}
	for _, line := range []string{"do 0.0 now 0 1", "do 1.0 now 1 1", "do 0.0 read 0 8 => 0.0 read !11", "do 1.0 read 1 8 => 1.0 read !11"} {
		line, want, ok := strings.Cut(line, " => ")
		for n, s := range steps(t, line) {
			if got := told(b.Do(s)); n == 2 && ok && got != want {
				t.Error(line, got)
			}
		}
	}
}

// Promise 23.2: what it answers can't be the kernel's, for it leans on none of what a World is made of but sections, signals and rings.
func TestLeansOn(t *testing.T) {
	files, err := os.ReadDir(".")
	if err != nil {
		t.Fatal(err)
	}
	for _, f := range files {
		if !strings.HasSuffix(f.Name(), ".go") || strings.HasSuffix(f.Name(), "_test.go") {
			continue
		}
		a, err := parser.ParseFile(token.NewFileSet(), f.Name(), nil, parser.ImportsOnly)
		if err != nil {
			t.Fatal(err)
		}
		for _, i := range a.Imports {
			path := strings.Trim(i.Path.Value, `"`)
			if name, ok := strings.CutPrefix(path, "commonage/"); ok && !slices.Contains([]string{"api", "sect", "sig", "ring"}, name) {
				t.Error(f.Name(), path)
			}
		}
	}
}
