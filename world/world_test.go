package world

import (
	"bytes"
	"fmt"
	"math"
	"math/rand"
	"slices"
	"testing"

	"commonage/api"
	"commonage/audit"
	"commonage/host"
	"commonage/ofile"
	"commonage/pslot"
)

var wild = []int{math.MinInt, math.MinInt + 1, -1 << 62, -1 << 32, -65536, -257, -9, -8, -2, -1, 0, 1, 2, 3, 4, 5, 6, 7, 8, 9, 10, 11, 15, 16, 18, 31, 32, 33, 40, 63, 64, 255, 256, 257, 999, 1000, 1001, 65535, 65536, 1 << 31, 1 << 32, 1<<32 + 1, 1 << 62, math.MaxInt - 1, math.MaxInt}

// Promise 22.3: kinds of steps, and the error, have the document's numbers.
func TestNumbers(t *testing.T) {
	if got := [...]int{api.SCall, api.SPick, api.STick, api.SType, api.SBad}; got != [...]int{1, 2, 3, 4, 5} {
		t.Error(got)
	}
	if api.ErrArg != 1 {
		t.Error(api.ErrArg)
	}
}

// checks fails unless Check, Boot, New and Run all refuse a plan, or none of them does.
func checks(t *testing.T, p api.Plan, ok bool) {
	t.Helper()
	want := api.ErrArg
	if ok {
		want = api.OK
	}
	was := fmt.Sprint(p)
	if e := Check(p); e != want {
		t.Error(p, "Check", e)
	}
	if got := fmt.Sprint(Boot(p)); (got == fmt.Sprint(api.Boot{})) == ok {
		t.Error(p, "Boot", got)
	}
	if w, e := New(p); e != want || (w != nil) != ok {
		t.Error(p, "New", w, e)
	}
	if l, e := Run(p, call(0, 0, sys(api.UPid, 0, 0)), pick(0, 0), pick(0, 0)); e != want || len(l) > 0 != ok {
		t.Error(p, "Run", l, e)
	}
	if is := fmt.Sprint(p); is != was {
		t.Error(was, "is", is)
	}
}

// Promises 22.1, 22.2, 22.3: a plan has 1 to 4 sessions and a lease of 1 to 1,000.
func TestCheck(t *testing.T) {
	for n := range 7 {
		for _, lease := range wild {
			p := api.Plan{Bad: make([]bool, n), Lease: lease}
			if n > 0 {
				p.Bad[n-1] = lease%2 == 0
			}
			checks(t, p, n >= 1 && n <= 4 && lease >= 1 && lease <= 1000)
		}
	}
	checks(t, api.Plan{}, false)
	checks(t, api.Plan{Lease: 1}, false)
	checks(t, api.Plan{Bad: make([]bool, 300), Lease: 1}, false)
}

// Promises 22.1, 22.2, 22.3: a bridge joins two unlike sessions, wherever it stands among the others; there are at most four.
func TestCheckBridges(t *testing.T) {
	for n := 1; n <= 4; n++ {
		signs := "gggg"[:n]
		for _, from := range wild {
			for _, to := range wild {
				isIn := from >= 0 && from < n && to >= 0 && to < n
				checks(t, plan(5, signs, link(from, to)), isIn && from != to)
			}
		}
	}
	for n := range 7 {
		checks(t, plan(5, "ggg", slices.Repeat([]api.Bridge{link(1, 0)}, n)...), n <= 4)
		checks(t, plan(5, "g", slices.Repeat([]api.Bridge{link(0, 1)}, n)...), n == 0)
		for i := range n {
			for _, wrong := range []api.Bridge{link(1, 1), link(0, 3), link(3, 0), link(-1, 2), link(2, -1)} {
				l := slices.Repeat([]api.Bridge{link(2, 1)}, n)
				l[i] = wrong
				checks(t, plan(5, "ggg", l...), false)
			}
		}
	}
}

// plans are all of up to three sessions with up to three bridges, and some with four.
func plans() []api.Plan {
	var l []api.Plan
	for n := 1; n <= 3; n++ {
		var all []api.Bridge
		for from := range n {
			for to := range n {
				if from != to {
					all = append(all, link(from, to))
				}
			}
		}
		some := [][]api.Bridge{nil}
		for len(some) > 0 {
			var more [][]api.Bridge
			for _, x := range some {
				p := plan(1+len(l)%1000, "ggg"[:n], x...)
				p.Bad[len(l)%n] = len(l)%3 > 0
				l = append(l, p)
				for _, b := range all {
					if len(x) < 3 {
						more = append(more, append(slices.Clone(x), b))
					}
				}
			}
			some = more
		}
	}
	for _, p := range []api.Plan{
		plan(7, "gggg"), plan(7, "bbbb", link(0, 1), link(1, 2), link(2, 3), link(3, 0)), plan(7, "gbgb", link(3, 2), link(3, 2), link(3, 2), link(3, 2)),
		plan(7, "ggbg", link(0, 3), link(3, 0), link(0, 3), link(1, 3)), plan(7, "gb", link(1, 0), link(0, 1), link(0, 1), link(1, 0)),
	} {
		l = append(l, p)
	}
	return l
}

// Promise 22.1: Boot by hand.
func TestBoot(t *testing.T) {
	for _, x := range []struct {
		p    api.Plan
		want string
	}{
		{plan(1, "g"), "{[20] [0 0 0 0 0 0 0 0 0] [[0]] 1 [{0 0 0 492 [0]}]}"},
		{plan(1000, "bb", link(0, 1)), "{[20 20] [0 0 0 0 0 0 0 0 0 1 1 1 1 1 1 1 1 1] [[0] [1]] 1000 [{0 0 0 492 [0]} {1 0 0 492 [1]} {0 8 0 40 [0 1]}]}"},
		{plan(5, "ggbg", link(3, 1), link(1, 3), link(3, 1), link(0, 2)), "{[20 20 20 20] [0 0 0 0 0 0 0 0 0 1 1 1 1 1 1 1 1 1 2 2 2 2 2 2 2 2 2 3 3 3 3 3 3 3 3 3] [[0] [1] [2] [3]] 5 [{0 0 0 492 [0]} {1 0 0 492 [1]} {2 0 0 492 [2]} {3 0 0 492 [3]} {3 8 0 40 [3 1]} {1 9 0 40 [1 3]} {3 10 0 40 [3 1]} {0 11 0 40 [0 2]}]}"},
	} {
		if got := fmt.Sprint(Boot(x.p)); got != x.want {
			t.Errorf("Boot of %v: %s, want %s", x.p, got, x.want)
		}
	}
}

// Promise 22.1: Boot is as the chapter says, whatever the plan, and who is Bad makes no other one.
func TestBoots(t *testing.T) {
	for _, p := range plans() {
		want := api.Boot{Lease: p.Lease}
		for s := range p.Bad {
			want.Frames = append(want.Frames, 20)
			for range 9 {
				want.Envs = append(want.Envs, s)
			}
			want.Sects = append(want.Sects, []int{s})
			want.Shared = append(want.Shared, api.Share{Session: s, Frame: 0, Lo: 0, N: 492, To: []int{s}})
		}
		for b, x := range p.Bridges {
			want.Shared = append(want.Shared, api.Share{Session: x.From, Frame: 8 + b, Lo: 0, N: 40, To: []int{x.From, x.To}})
		}
		if got := Boot(p); fmt.Sprint(got) != fmt.Sprint(want) {
			t.Errorf("Boot of %v: %v, want %v", p, got, want)
		}
	}
}

// Rule 3: Boot answers new memory, and no two of its lists share any.
func TestBootIsNew(t *testing.T) {
	p := plan(5, "ggg", link(0, 1), link(0, 1), link(1, 2))
	want := fmt.Sprint(Boot(p))
	c := Boot(p)
	var l []*[]int
	l = append(l, &c.Frames, &c.Envs)
	for n := range c.Sects {
		l = append(l, &c.Sects[n])
	}
	for n := range c.Shared {
		l = append(l, &c.Shared[n].To)
	}
	for n, x := range l {
		for i := range (*x)[:cap(*x)] {
			(*x)[:cap(*x)][i] = 100 + n
		}
	}
	for n, x := range l {
		for _, got := range (*x)[:cap(*x)] {
			if got != 100+n {
				t.Error(n, *x)
			}
		}
	}
	if got := fmt.Sprint(Boot(p)); got != want || fmt.Sprint(p) != fmt.Sprint(plan(5, "ggg", link(0, 1), link(0, 1), link(1, 2))) {
		t.Error(got, p)
	}
}

// Promise 22.1, 22.2: the World's kernel is the one of that Boot: its environments, their Caps, its sections, the lease, the frames.
func TestKern(t *testing.T) {
	for _, p := range plans() {
		w := begin(t, p)
		k, n := w.Kern(), len(p.Bad)
		if k == nil || k != w.Kern() || k.Now() != 0 || k.Regions().Len() != n+len(p.Bridges) {
			t.Fatal(p, k)
		}
		for env := -1; env <= 9*n; env++ {
			s, ok := k.Session(env)
			if want := env >= 0 && env < 9*n; ok != want || want && s != env/9 {
				t.Fatal(p, env, s, ok)
			}
			if !ok {
				continue
			}
			var caps []api.Cap
			for _, name := range k.Space().Names(env) {
				c, _ := k.Space().Get(env, name)
				caps = append(caps, c)
			}
			want := []api.Cap{{Obj: s, Rights: 3, N: 492}}
			for _, b := range bridgesOf(p, s) {
				want = append(want, api.Cap{Obj: n + b, Rights: 3, N: 40})
			}
			if !slices.Equal(caps, want) {
				t.Fatal(p, env, caps)
			}
		}
		for s := range n + 1 {
			if (k.Sect(s) != nil) != (s < n) {
				t.Fatal(p, s)
			}
		}
		if t.Failed() {
			t.Fatal(p)
		}
	}
}

// Promise 22.1: a session's section is for its own environments, those of its slots and the one behind, and who holds it for the lease is passed by.
func TestSections(t *testing.T) {
	for _, lease := range []int{1, 2, 7, 1000} {
		k := begin(t, plan(lease, "gbg", link(0, 1))).Kern()
		enter := func(env, s int) api.Answer { return k.Do(env, api.Call{Op: api.KEnter, N: s}) }
		for s := range 3 {
			for env := range 27 {
				a := enter(env, s)
				if env/9 != s && a.E != api.ErrSect || env/9 == s && a.E != api.OK || a.N > 0 != (env == 9*s) {
					t.Error(s, env, a)
				}
			}
		}
		k.Tick(lease - 1)
		if a := enter(1, 0); a.N > 0 && lease > 1 {
			t.Error(lease, a)
		}
		k.Tick(1)
		if a := enter(1, 0); a.N != 2 {
			t.Error(lease, a)
		}
	}
}

// Promise 22.1: each session has 20 frames, none of which is used at first.
func TestFrames(t *testing.T) {
	w := begin(t, plan(3, "gbg", link(1, 2)))
	for s := range 3 {
		for n := range 21 {
			a := w.Kern().Do(9*s+n%9, api.Call{Op: api.KAlloc})
			if n < 20 && (a.N != n || a.E != api.OK) || n == 20 && a.E != api.ErrFull {
				t.Error(s, n, a)
			}
		}
	}
}

// Promise 22.2: what a session begins with, byte by byte.
func TestBytes(t *testing.T) {
	w := begin(t, plan(5, "gg", link(0, 1), link(1, 0)))
	for s, files := range [][]byte{{2, 4, 1, 0, 179, 191, 0, 0, 1, 5, 1, 0, 179, 191, 0, 0}, {1, 4, 1, 0, 179, 190, 0, 0, 2, 5, 1, 0, 179, 192, 0, 0}} {
		want := make([]byte, 492)
		copy(want, []byte{1, 0, 0, 0, 0, 0, 0, 0, 0, 0, 0, 0, 1, 2, 3, 0, 0, 0, 0, 0, 167, 195, 0, 0})
		copy(want[192:], append([]byte{3, 0, 1, 0, 179, 188, 0, 0}, files...))
		copy(want[448:], []byte{1, 0, 0, 1, 1, 197, 206, 0})
		copy(want[488:], []byte{0, 211, 213, 0})
		if got := w.raw(s); !bytes.Equal(got, want) {
			t.Errorf("session %d has\n%v, want\n%v", s, got, want)
		}
		want = append([]byte{1, 0, 0, 1, 1, 197, 206, 0}, make([]byte, 32)...)
		if got := w.raw(2 + s); !bytes.Equal(got, want) {
			t.Errorf("bridge %d has\n%v, want\n%v", s, got, want)
		}
	}
	w = begin(t, plan(5, "b"))
	want := audit.Blank()
	row, _ := pslot.Encode(api.Proc{State: 1, Fds: [8]int{1}})
	copy(want, row)
	row, _ = ofile.Encode(api.File{Kind: 3, Refs: 1})
	copy(want[192:], row)
	if got := w.raw(0); !bytes.Equal(got, want) {
		t.Errorf("alone it has\n%v, want\n%v", got, want)
	}
}

// Promise 22.2: whatever the plan, each session begins with one process, which has the terminal and its ends of the bridges, in their order, and all is sound.
func TestBegins(t *testing.T) {
	for _, p := range plans() {
		w := begin(t, p)
		b := opened(p)
		for s := range p.Bad {
			if got, want := w.raw(s), b.pages[s].raw(); !bytes.Equal(got, want) {
				t.Errorf("%v: session %d has\n%v, want\n%v", p, s, got, want)
			}
			if faults := audit.Faults(w.raw(s)); len(faults) > 0 {
				t.Error(p, s, faults)
			}
		}
		for n := range p.Bridges {
			if got, want := w.raw(len(p.Bad)+n), append([]byte{1, 0, 0, 1, 1, 197, 206, 0}, make([]byte, 32)...); !bytes.Equal(got, want) {
				t.Errorf("%v: bridge %d has\n%v, want\n%v", p, n, got, want)
			}
		}
		if t.Failed() {
			t.FailNow()
		}
	}
}

// Promise 22.2: at first nobody wants anything, nothing is known to be bad, nobody is in a section, and it is the time 0.
func TestBeginsIdle(t *testing.T) {
	w := begin(t, plan(5, "gbg", link(0, 1), link(2, 1)))
	for s := range 3 {
		if got := w.gate(s); got != "0 0 0 false []" {
			t.Error(s, got)
		}
		for i := range 8 {
			if h := w.Host(s, i); h.Phase() != 0 || len(h.Commons().Bad()) > 0 {
				t.Error(s, i, h.Phase(), h.Commons().Bad())
			}
		}
	}
	if now := w.Kern().Now(); now != 0 {
		t.Error(now)
	}
}

// Promise 22.2: each of the first processes may use what it begins with, and has nothing beside that.
func TestUsesWhatItBeginsWith(t *testing.T) {
	play(t, plan(5, "ggg", link(0, 2), link(2, 0), link(1, 2), link(0, 2)), `
		do 0.0 write 1 10 => 0.0 write =1
		do 0.0 write 3 2021 => 0.0 write =2
		do 1.0 write 1 303132 => 1.0 write =3
		do 2.0 write 2 40414243 => 2.0 write =4
		do 2.0 read 1 32 => 2.0 read =1:10
		do 2.0 read 4 32 => 2.0 read =2:2021
		do 2.0 read 3 32 => 2.0 read =3:303132
		do 0.0 read 2 32 => 0.0 read =4:40414243
		do 0.0 read 1 1 => 0.0 read !9
		do 2.0 write 1 10 => 2.0 write !9
		do 0.0 read 0 0 => 0.0 read =0
		do 1.0 dup 2 => 1.0 dup !9
		do 0.0 dup 4 => 0.0 dup !9
		do 2.0 dup 5 => 2.0 dup !9
		do 1.0 parent => 1.0 parent =-1
		do 1.0 getgroup => 1.0 getgroup =0
		do 1.0 mask 0 => 1.0 mask =0
		do 1.0 wait => 1.0 wait !10
		do 1.0 kill 1 0 => 1.0 kill !3
	`)
}

// Promise 22.2, 22.3: each Host is of its session, its slot and its environment; it is always the same one, and has a Commons of its own.
func TestHosts(t *testing.T) {
	w := begin(t, plan(5, "gbg", link(0, 2)))
	var l []*host.Host
	for s := range 3 {
		for i := range 8 {
			h := w.Host(s, i)
			if h == nil || h != w.Host(s, i) || slices.Contains(l, h) || slices.ContainsFunc(l, func(g *host.Host) bool { return g.Commons() == h.Commons() }) {
				t.Fatal(s, i, h)
			}
			l = append(l, h)
			if ok := h.Commons().SetProc(i, api.Proc{State: 1, Group: 2}); !ok || w.raw(s)[24*i+2] != 2 {
				t.Error(s, i, w.raw(s))
			}
			w.Do(call(s, i, sys(api.UPid, 0, 0)))
			w.Do(pick(s, i))
			if who, _, _, ok := w.Kern().Sect(s).Holder(); who != 9*s+i || !ok || h.Phase() != api.HIn {
				t.Error(s, i, who, ok, h.Phase())
			}
			if got := told(w.Do(pick(s, i))); got != fmt.Sprintf("%d.%d pid =%d", s, i, i) {
				t.Error(got)
			}
		}
	}
	for _, a := range wild {
		for _, b := range wild {
			if h := w.Host(a, b); (h != nil) != (a >= 0 && a < 3 && b >= 0 && b < 8) {
				t.Error(a, b, h)
			}
		}
	}
}

// Promise 22.3: Raw and Bridge answer the bytes as the kernel has them, ErrArg of what is none.
func TestRaw(t *testing.T) {
	for _, p := range plans() {
		w := begin(t, p)
		for n := range w.regions() {
			want, _ := w.Kern().Regions().Raw(n)
			if got := w.raw(n); !bytes.Equal(got, want) || len(got) != 492 && n < len(p.Bad) || len(got) != 40 && n >= len(p.Bad) {
				t.Error(p, n, got)
			}
		}
		// Regions that another one adds are no sessions, and no bridges.
		for range 4 {
			if _, e := w.Kern().Regions().Add(0, 40); e != api.OK {
				t.Error(p, e)
			}
		}
		for _, n := range wild {
			b, e := w.Raw(n)
			if ok := n >= 0 && n < len(p.Bad); (e == api.OK) != ok || !ok && (e != api.ErrArg || b != nil) {
				t.Error(p, n, b, e)
			}
			b, e = w.Bridge(n)
			if ok := n >= 0 && n < len(p.Bridges); (e == api.OK) != ok || !ok && (e != api.ErrArg || b != nil) {
				t.Error(p, n, b, e)
			}
		}
	}
}

// Promise 22.3: Raw and Bridge go by what is there now, whoever wrote it; they tell who is asked for.
func TestRawIsNow(t *testing.T) {
	w := begin(t, plan(5, "bbb", link(0, 1), link(2, 1)))
	for n, s := range []api.Step{writes(0, 0, 491, 7), writes(1, 0, 491, 8), writes(2, 0, 491, 9), writes(0, 1, 39, 10), writes(2, 1, 39, 11)} {
		w.Do(s)
		if b := w.raw(n); b[len(b)-1] != byte(7+n) {
			t.Error(n, b)
		}
	}
	w.Do(writes(1, 2, 38, 12))
	if b := w.raw(4); b[38] != 12 || b[39] != 11 {
		t.Error(b)
	}
}

// Promise 22.3: a call is the slot's Host's Start: it wants from then on, just as it was told, and nobody else does.
func TestCall(t *testing.T) {
	w := begin(t, plan(5, "gg"))
	was := w.all()
	w.plays("1.0 read 0 8")
	for s := range 2 {
		for i := range 8 {
			want := 0
			if s == 1 && i == 0 {
				want = 1
			}
			if got := w.Host(s, i).Phase(); got != want {
				t.Error(s, i, got)
			}
		}
	}
	if is := w.all(); !slices.EqualFunc(is, was, bytes.Equal) || w.gate(1) != "0 0 0 false []" {
		t.Error(is, w.gate(1))
	}
	// Neither does one start who is not idle, nor one who is not there.
	w.plays(`
		1.0 pid
		1.1 pid
		0.7 pid
		pick 1.1 x3
		pick 0.7 x3
		pick 1.0 x2
	`)
	if got := w.Host(1, 0).Phase(); got != api.HBlocked {
		t.Error(got)
	}
	w.plays(`
		type 1.0 0506
		pick 1.0 x2
		pick 1.0 => 1.0 read =2:0506
	`)
	for _, x := range []api.Sys{sys(api.UPid, 7, -3, 1, 2), sys(19, 1<<40, math.MinInt, 4), sys(-1, 0, 0), {}} {
		w.Do(call(0, 0, x))
		w.Do(pick(0, 0))
		e := api.EINVAL
		if x.Op == api.UPid {
			e = api.OK
		}
		if got, want := text(w.Do(pick(0, 0))), text(api.Out{Sys: x, E: e, Back: true}, true); got != want {
			t.Errorf("%s, want %s", got, want)
		}
	}
}

// Promise 22.3: a pick is the slot's Host's, one step of it; its Out tells the session, too, whether or not there is a return.
func TestPick(t *testing.T) {
	for s := range 4 {
		w := begin(t, plan(5, "gbgb"))
		for phase, line := range []string{1: "S.0 pid", 2: "pick S.0", 3: "pick S.0 => S.0 pid =0"} {
			w.playsIn(s, line)
			if got := w.Host(s, 0).Phase(); got != phase%3 {
				t.Error(s, got, phase)
			}
		}
		w.playsIn(s, `
			do S.0 fork => S.0 fork =1
			do S.1 sig 6 2 => S.1 sig =0
			do S.0 kill 1 6 => S.0 kill =0
			pick S.1 => S.1 caught 6
			do S.0 kill 1 5 => S.0 kill =0
			pick S.1 => S.1 died 5
			do S.0 wait => S.0 wait =389
		`)
	}
}

// Promise 22.3: a tick is the kernel's, of N, whatever else it names; it is the same time for all sessions.
func TestTick(t *testing.T) {
	for _, n := range wild {
		for _, at := range []int{-1, 0, 2, 8, math.MaxInt} {
			w := begin(t, plan(5, "gg"))
			w.Do(tick(3))
			s := api.Step{Kind: 3, N: n, S: at, P: at, B: make([]byte, 40), Sys: sys(api.UExit, 0, 0), Call: api.Call{Op: api.KEnter}}
			if got := text(w.Do(s)); got != text(api.Out{}, false) {
				t.Error(n, at, got)
			}
			if now := w.Kern().Now(); now != 3+min(max(n, 0), 1000) {
				t.Error(n, at, now)
			}
			if got := w.gate(0); got != "0 0 0 false []" || w.Host(0, 0).Phase() != 0 {
				t.Error(n, at, got)
			}
		}
	}
	w := begin(t, plan(5, "gg"))
	w.Kern().Tick(1000)
	for range 1 << 20 {
		w.Do(tick(1000))
	}
	w.Do(tick(1000))
	if now := w.Kern().Now(); now != 1000*(1<<20+2) {
		t.Error(now)
	}
	for range 1 << 16 {
		w.Do(tick(1000))
	}
	if now := w.Kern().Now(); now != 1<<30 {
		t.Error(now)
	}
}

// Promise 22.3: what is typed comes to the session's terminal, whichever of its slots is named, with a process or without; of more than 32 bytes nothing.
func TestType(t *testing.T) {
	for n := range 40 {
		for i := range 8 {
			w := begin(t, plan(5, "gg", link(0, 1)))
			was := w.state()
			b := run(1, n)
			if got := text(w.Do(types(1, i, b...))); got != text(api.Out{}, false) {
				t.Error(n, i, got)
			}
			want := make([]byte, 40)
			copy(want, []byte{1, 0, byte(n), 1, 1, 197, byte(206 + n), 0})
			copy(want[8:], b)
			if n > 32 {
				if is := w.state(); is != was {
					t.Errorf("%d: %s, want %s", n, is, was)
				}
				continue
			}
			if got := w.raw(1)[448:488]; !bytes.Equal(got, want) {
				t.Error(n, i, got, want)
			}
			if got := w.raw(0); !bytes.Equal(got, opened(w.p).pages[0].raw()) {
				t.Error(n, i, got)
			}
		}
	}
	// Of what is typed behind what is there, as much goes in as there is room for.
	play(t, plan(5, "g"), `
		type 0.0 000102030405060708090a0b0c0d0e0f101112131415161718191a1b1c
		type 0.3 fafbfcfdfeff
		type 0.7 09
		do 0.0 read 0 32 => 0.0 read =32:000102030405060708090a0b0c0d0e0f101112131415161718191a1b1cfafbfc
		0.0 read 0 2
		pick 0.0 x3
		type 0.4 -
		pick 0.0
		type 0.4 07
		pick 0.0 x2
		pick 0.0 => 0.0 read =1:07
	`)
}

// Promise 22.3: what is typed is put by the Commons of the slot's own Host: where this one knows the terminal to be bad, nothing is.
func TestTypeByWhom(t *testing.T) {
	w := begin(t, plan(5, "b"))
	row := w.raw(0)[448:488]
	w.Do(writes(0, 0, 448, 9))
	w.Do(types(0, 3, 1))
	w.Do(writes(0, 0, 448, row...))
	for i, want := range []byte{1, 2, 3, 3, 4, 5, 6, 7} {
		w.Do(types(0, i, 5))
		if got := w.raw(0)[450]; got != want {
			t.Error(i, got, want)
		}
	}
}

// Promise 22.3: the one whom nobody trusts asks the kernel as environment 9 times the session and 8, if its session is Bad; nothing is told.
func TestBad(t *testing.T) {
	for s := range 4 {
		w := begin(t, plan(5, "bgbg", link(0, 1), link(2, 3), link(1, 2)))
		was := w.all()
		steps := []api.Step{writes(s, 0, 30, 7, 8), bad(s, api.Call{Op: api.KEnter, N: s}), bad(s, api.Call{Op: api.KRevoke, Cap: 257}), bad(s, api.Call{Op: api.KAlloc})}
		for _, x := range steps {
			x.P = []int{0, 8, -1, math.MinInt}[s]
			if got := text(w.Do(x)); got != text(api.Out{}, false) {
				t.Error(s, got)
			}
		}
		used := 0
		if s%2 == 0 {
			copy(was[s][30:], []byte{7, 8})
			used = 1
		}
		if is := w.all(); !slices.EqualFunc(is, was, bytes.Equal) {
			t.Error(s, is)
		}
		for n := range 4 {
			who, _, _, ok := w.Kern().Sect(n).Holder()
			if isIn := n == s && used == 1; ok != isIn || ok && who != 9*s+8 {
				t.Error(s, n, who, ok)
			}
			for i := range 9 {
				want := 1 + len(bridgesOf(w.p, n))
				if i == 8 && n == s {
					want -= used
				}
				if got := len(w.Kern().Space().Names(9*n + i)); got != want {
					t.Error(s, n, i, got, want)
				}
			}
		}
		if a := w.Kern().Do(9*s, api.Call{Op: api.KAlloc}); a.N != used {
			t.Error(s, a)
		}
	}
}

// Promise 22.3: what names no session or no slot is nothing, and so are other kinds.
func TestNothing(t *testing.T) {
	w := begin(t, plan(5, "bgb", link(0, 1)))
	w.plays(`
		do 0.0 fork => 0.0 fork =1
		0.0 pid
		pick 0.0
		0.1 write 1 0102
		pick 0.1
		1.0 read 0 3
		type 2.0 05
		bad 2 write 256 192 09
		tick 3
	`)
	was := w.state()
	nothing := func(s api.Step) {
		t.Helper()
		got := text(w.Do(s))
		if is := w.state(); is != was || got != text(api.Out{}, false) {
			t.Fatalf("%+v: %s, %s, want %s", s, got, is, was)
		}
	}
	full := api.Step{N: 7, B: []byte{1, 2}, Sys: sys(api.UPid, 0, 0), Call: api.Call{Op: api.KWrite, Cap: 256, B: []byte{9}}}
	for _, s := range wild {
		for _, p := range []int{0, 1, -1, 7, 8} {
			for kind := 1; kind <= 5; kind++ {
				x := full
				x.Kind, x.S, x.P = kind, s, p
				if (s < 0 || s > 2) && kind != 3 {
					nothing(x)
				}
			}
		}
		for kind := range 5 {
			for session := range 3 {
				x := full
				x.Kind, x.S, x.P = kind, session, s
				if (s < 0 || s > 7) && kind != 3 {
					nothing(x)
				}
			}
		}
		if s < 1 || s > 5 {
			for session := -1; session < 4; session++ {
				x := full
				x.Kind, x.S = s, session
				nothing(x)
			}
		}
	}
	x := full
	x.Kind, x.S = 5, 1
	nothing(x)
	nothing(api.Step{})
	nothing(types(2, 0, make([]byte, 33)...))
}

// Promise 22.3: behind a fork that returned the Host of the new process is idle, with a new Commons, to which nothing is bad; no other Host is another one.
func TestFresh(t *testing.T) {
	for s := range 2 {
		w := begin(t, plan(5, "bb"))
		// All but one know file 9 to be bad.
		for i := range 8 {
			if i == 5 {
				continue
			}
			w.Do(writes(s, 0, 264, 9))
			w.Do(types(s, i))
			w.Do(writes(s, 0, 264, 0))
			if got := w.Host(s, i).Commons().Bad(); fmt.Sprint(got) != "[{2 9}]" {
				t.Error(i, got)
			}
		}
		for child := 1; child < 8; child++ {
			was := w.commons()
			w.playsIn(s, fmt.Sprint("do S.0 fork => S.0 fork =", child))
			for n, c := range w.commons() {
				if same := n != 8*s+child; (c == was[n]) != same {
					t.Error(child, n, same)
				}
			}
			h := w.Host(s, child)
			if bad := h.Commons().Bad(); len(bad) > 0 || h.Phase() != 0 {
				t.Error(child, bad, h.Phase())
			}
		}
	}
}

// commons are those of all Hosts, by session and slot.
func (w *room) commons() []any {
	var l []any
	for s := range w.p.Bad {
		for i := range 8 {
			l = append(l, w.Host(s, i).Commons())
		}
	}
	return l
}

// Promise 22.3: a new process begins idle, wherever the Host of its slot was left by one who is gone: it wants nothing, waits for nothing, and holds up nobody.
func TestFreshOfAny(t *testing.T) {
	for phase, lines := range []string{
		`pick 0.1`,
		`0.1 read 0 1`,
		`0.1 read 0 1
		pick 0.1`,
		`0.1 read 0 1
		pick 0.1 x2`,
	} {
		w := play(t, plan(5, "b"), `
			do 0.0 fork => 0.0 fork =1
			`+lines)
		if got := w.Host(0, 1).Phase(); got != phase {
			t.Error(phase, got)
		}
		w.Do(writes(0, 0, 24, make([]byte, 24)...))
		w.plays(`
			tick 5
			do 0.0 fork => 0.0 fork =1
			type 0.0 0506
			pick 0.1 x3
			do 0.1 pid => 0.1 pid =1
		`)
		if got := w.raw(0)[450]; got != 2 {
			t.Error(phase, got)
		}
	}
}

// Promise 22.3: where the Host of the new process' slot waits in the queue, it is out of it.
func TestFreshIsOut(t *testing.T) {
	w := play(t, plan(5, "b"), `
		do 0.0 fork => 0.0 fork =1
		0.0 fork
		pick 0.0
		0.1 pid
		pick 0.1
	`)
	w.Do(writes(0, 0, 24, make([]byte, 24)...))
	if got := w.gate(0); got != "0 2 0 true [1]" {
		t.Error(got)
	}
	w.plays("pick 0.0 => 0.0 fork =1")
	if got, phase := w.gate(0), w.Host(0, 1).Phase(); got != "0 0 0 false []" || phase != 0 {
		t.Error(got, phase)
	}
}

// Promise 22.3: nothing but a fork that went well makes a Host fresh: not one that did not, nor another call that tells the number of a slot.
func TestNotFresh(t *testing.T) {
	w := begin(t, plan(5, "bg", link(1, 0)))
	same := func(line string) {
		t.Helper()
		was := w.commons()
		w.plays(line)
		if !slices.Equal(w.commons(), was) {
			t.Error(line)
		}
	}
	for n := 1; n < 8; n++ {
		w.plays(fmt.Sprintf("do 0.0 fork => 0.0 fork =%d", n))
	}
	for _, line := range []string{
		"do 0.0 fork => 0.0 fork !11", "do 0.3 pid => 0.3 pid =3", "do 0.3 dup 0 => 0.3 dup =2", "do 0.3 dup2 0 3 => 0.3 dup2 =3", "do 0.3 group 3 3 => 0.3 group =0",
		"do 0.3 getgroup => 0.3 getgroup =3", "do 0.3 mask 4 => 0.3 mask =0", "do 0.3 mask 6 => 0.3 mask =4", "do 0.4 parent => 0.4 parent =0", "do 0.3 front 2 => 0.3 front !1",
		"do 1.0 write 1 010203 => 1.0 write =3", "do 0.3 read 1 3 => 0.3 read =3:010203", "do 0.3 kill 4 3 => 0.3 kill =0", "pick 0.4 => 0.4 died 3", "do 0.0 wait => 0.0 wait =1155",
	} {
		same(line)
	}
	// Nor one that is told EIO, since its slot is bad, where N is 0.
	w.plays("0.3 fork")
	w.Do(writes(0, 0, 72, 9))
	same("pick 0.3 => 0.3 fork !5")
	// One is told it, too, that dies of a signal with it.
	w.plays(`
		0.2 fork
		do 0.0 kill 2 9 => 0.0 kill =0
	`)
	was := w.commons()
	w.plays(`
		pick 0.2
		pick 0.2 => 0.2 fork =4 died 9
	`)
	for n, c := range w.commons() {
		if (c == was[n]) != (n != 4) {
			t.Error(n)
		}
	}
}

// Promise 22.3: Run is a new World's Do of all these, and answers what was told, in order.
func TestRun(t *testing.T) {
	for _, p := range []api.Plan{plan(5, "g"), plan(1, "bgb", link(0, 1))} {
		if l, e := Run(p); len(l) != 0 || e != api.OK {
			t.Error(p, l, e)
		}
	}
	r := rand.New(rand.NewSource(1))
	outs := 0
	for range 100 {
		p := somePlan(r, "gb")
		w := begin(t, p)
		var l []api.Step
		for range 200 {
			l = append(l, anyStep(r, p))
		}
		was := fmt.Sprint(l)
		var want []string
		for _, s := range l {
			if o, ok := w.Do(s); ok {
				want = append(want, text(o, ok))
			}
		}
		got, e := Run(p, l...)
		var texts []string
		for _, o := range got {
			texts = append(texts, text(o, true))
		}
		if !slices.Equal(texts, want) || e != api.OK || fmt.Sprint(l) != was {
			t.Fatal(texts, want, e)
		}
		outs += len(want)
	}
	if outs < 500 {
		t.Error(outs)
	}
}

// Rule 3: a plan that is handed in is not changed, nor kept.
func TestPlanIsOnesOwn(t *testing.T) {
	signs := []bool{true, false, true, true}
	links := []api.Bridge{link(0, 1), link(1, 0), link(3, 3)}
	p := api.Plan{Bad: signs[:2:3], Bridges: links[:2:3], Lease: 5}
	w := begin(t, p)
	Boot(p)
	Run(p, pick(0, 0))
	if fmt.Sprint(signs, links) != "[true false true true] [{0 1} {1 0} {3 3}]" {
		t.Error(signs, links)
	}
	signs[0], signs[1] = false, true
	links[0], links[1] = link(1, 0), link(0, 0)
	w.Do(writes(0, 0, 0, 9))
	w.Do(writes(1, 0, 0, 9))
	if a, b := w.raw(0)[0], w.raw(1)[0]; a != 9 || b != 1 {
		t.Error(a, b)
	}
	if _, e := w.Bridge(1); e != api.OK {
		t.Error(e)
	}
}

// Rule 3: a step that is handed in is not changed, nor kept, nor the room behind its lists; what is answered is new memory.
func TestStepIsOnesOwn(t *testing.T) {
	w := begin(t, plan(5, "b"))
	w.plays("do 0.0 pipe => 0.0 pipe =33")
	room := run(1, 16)
	d := room[4:8:12]
	for _, s := range []api.Step{call(0, 0, sys(api.UWrite, 2, 0, d...)), {Kind: 1, Sys: api.Sys{Op: api.UWrite, A: 2, D: d}}, types(0, 0, d...), {Kind: 4, B: d}, writes(0, 0, 400, d...), {Kind: 5, Call: api.Call{Op: api.KWrite, Cap: 256, At: 400, B: d}}} {
		w.Do(s)
		if !bytes.Equal(room, run(1, 16)) {
			t.Error(s, room)
		}
	}
	clear(room)
	w.Do(pick(0, 0))
	o, ok := w.Do(pick(0, 0))
	if got, want := text(o, ok), text(api.Out{Sys: sys(api.UWrite, 2, 0, 5, 6, 7, 8), N: 4, Back: true}, true); got != want {
		t.Errorf("%s, want %s", got, want)
	}
	clear(o.Sys.D[:cap(o.Sys.D)])
	w.Do(call(0, 0, sys(api.URead, 1, 2)))
	w.Do(pick(0, 0))
	o, ok = w.Do(pick(0, 0))
	if got := told(o, ok); got != "0.0 read =2:0506" {
		t.Error(got)
	}
	clear(o.B[:cap(o.B)])
	w.plays(`
		do 0.0 read 1 9 => 0.0 read =2:0708
		do 0.0 read 0 32 => 0.0 read =8:0506070805060708
	`)
	if got := w.raw(0)[400:404]; !bytes.Equal(got, []byte{5, 6, 7, 8}) {
		t.Error(got)
	}
}

// Rule 3: the bytes that Raw and Bridge answer are one's own, and so are the Outs of Run.
func TestAnswersAreOnesOwn(t *testing.T) {
	w := begin(t, plan(5, "bb", link(0, 1)))
	for n := range 3 {
		want := slices.Clone(w.raw(n))
		b := w.raw(n)
		b = b[:cap(b)]
		for i := range b {
			b[i] ^= 85
		}
		if got := w.raw(n); !bytes.Equal(got, want) {
			t.Error(n, got)
		}
	}
	l := []api.Step{call(0, 0, sys(api.UWrite, 1, 0, 5, 6)), pick(0, 0), pick(0, 0), call(1, 0, sys(api.URead, 1, 2)), pick(1, 0), pick(1, 0)}
	a, _ := Run(w.p, l...)
	clear(a[0].Sys.D)
	clear(a[1].B)
	b, _ := Run(w.p, l...)
	if got := told(b[0], true) + fmt.Sprint(b[0].Sys.D) + told(b[1], true); got != "0.0 write =2[5 6]1.0 read =2:0506" {
		t.Error(got)
	}
}
