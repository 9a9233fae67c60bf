package world

import (
	"bytes"
	"fmt"
	"math/rand"
	"slices"
	"strings"
	"testing"

	"commonage/api"
	"commonage/audit"
	"commonage/calls"
	"commonage/ring"
)

// Promise 22.4 (W1): what a session's processes do with each other, from fork to wait.
func TestSession(t *testing.T) {
	play(t, plan(5, "g"), `
		do 0.0 pipe => 0.0 pipe =33
		do 0.0 fork => 0.0 fork =1
		do 0.1 close 1 => 0.1 close =0
		do 0.0 close 2 => 0.0 close =0
		0.0 read 1 8
		pick 0.0 x3
		do 0.1 write 2 0102030405 => 0.1 write =5
		pick 0.0 x2
		pick 0.0 => 0.0 read =5:0102030405
		do 0.1 exit 300 => 0.1 exit =0
		do 0.0 read 1 8 => 0.0 read =0
		do 0.0 wait => 0.0 wait =300
		do 0.0 wait => 0.0 wait !10
		do 0.0 fork => 0.0 fork =1
		do 0.0 fork => 0.0 fork =2
		do 0.1 fork => 0.1 fork =3
		do 0.1 exit 5 => 0.1 exit =0
		do 0.3 parent => 0.3 parent =-1
		do 0.3 exit 6 => 0.3 exit =0
		do 0.3 pid
		pick 0.3 x3
		0.0 wait
		pick 0.0
		pick 0.0 => 0.0 wait =261
		0.0 wait
		pick 0.0 x3
		do 0.2 exit 7 => 0.2 exit =0
		pick 0.0
		pick 0.0 => 0.0 wait =519
	`)
}

// Promise 22.4 (W1): signals: caught, kept off, stopped, died of, and told to who waits.
func TestSignals(t *testing.T) {
	w := play(t, plan(5, "g"), `
		do 0.0 fork => 0.0 fork =1
		do 0.1 sig 4 2 => 0.1 sig =0
		do 0.1 mask 32 => 0.1 mask =0
		do 0.0 kill 1 4 => 0.0 kill =0
		do 0.0 kill 1 5 => 0.0 kill =0
		pick 0.1 => 0.1 caught 4
		pick 0.1
		0.1 read 0 1
		pick 0.1 x2
		do 0.0 kill 1 4 => 0.0 kill =0
		pick 0.1 => 0.1 read !4 caught 4
		do 0.0 kill 1 14 => 0.0 kill =0
		pick 0.1 x2
		0.1 mask 0
		pick 0.1 x3
	`)
	if got := w.procs(0)[1].State; got != api.PStopped {
		t.Error(got)
	}
	w.plays(`
		do 0.0 kill 1 15 => 0.0 kill =0
		pick 0.1
		pick 0.1 => 0.1 mask =32 died 5
		do 0.0 wait => 0.0 wait =389
		0.0 kill 0 9
		pick 0.0
		pick 0.0 => 0.0 kill =0 died 9
		pick 0.0 x3
		0.0 pid
		pick 0.0
	`)
	if got := w.procs(0); got != [8]api.Proc{} {
		t.Error(got)
	}
	w.isSound()
}

// Promise 22.4 (W1): who waits is told of a signal, whatever it waits for, and has done nothing of its call.
func TestInterrupted(t *testing.T) {
	w := begin(t, plan(5, "gg", link(0, 1)))
	w.plays(`
		do 0.0 pipe => 0.0 pipe =50
		do 0.0 sig 6 2 => 0.0 sig =0
		do 0.0 write 3 000102030405060708090a0b0c0d0e0f101112131415161718191a1b => 0.0 write =28
		do 0.0 fork => 0.0 fork =1
		do 0.0 fork => 0.0 fork =2
		do 0.0 fork => 0.0 fork =3
		do 0.3 fork => 0.3 fork =4
		0.1 write 3 2021222324
		0.2 read 0 3
		0.3 wait
		pick 0.1 x2
		pick 0.2 x2
		pick 0.3 x2
		do 0.0 kill 8 6 => 0.0 kill =0 caught 6
		pick 0.1 => 0.1 write !4 caught 6
		pick 0.2 => 0.2 read !4 caught 6
		pick 0.3 => 0.3 wait !4 caught 6
		pick 0.4 => 0.4 caught 6
		type 0.0 05
		do 0.0 read 0 3 => 0.0 read =1:05
		do 0.0 read 2 32 => 0.0 read =28:000102030405060708090a0b0c0d0e0f101112131415161718191a1b
	`)
	w.isSound()
}

// Promise 22.4 (W1): the terminal is the front group's.
func TestTerminal(t *testing.T) {
	play(t, plan(5, "gg"), `
		do 0.0 fork => 0.0 fork =1
		do 0.0 group 1 1 => 0.0 group =0
		do 0.1 read 0 4 => 0.1 read !25
		0.0 read 0 4
		pick 0.0 x3
		type 1.0 09
		pick 0.0
		type 0.1 0506
		pick 0.0 x2
		pick 0.0 => 0.0 read =2:0506
		do 0.1 front 1 => 0.1 front !1
		do 0.0 front 1 => 0.0 front =0
		do 0.0 read 0 4 => 0.0 read !25
		type 0.0 07
		do 0.1 read 0 4 => 0.1 read =1:07
		do 1.0 read 0 4 => 1.0 read =1:09
		do 0.1 now 0 1 => 0.1 now =0
		do 0.1 read 0 4 => 0.1 read !11
	`)
}

// Promise 22.4 (W1): there is no return without a call, and a call that is not there is told so.
func TestNoReturn(t *testing.T) {
	w := play(t, plan(5, "gg", link(0, 1)), "pick 0.0 x3")
	for _, op := range []int{-1, 0, 19} {
		w.Do(call(1, 0, sys(op, 1, 2, 3)))
		w.Do(pick(1, 0))
		if got, want := text(w.Do(pick(1, 0))), text(api.Out{Session: 1, Sys: sys(op, 1, 2, 3), E: 122, Back: true}, true); got != want {
			t.Errorf("%s, want %s", got, want)
		}
	}
	w.plays(`
		pick 1.0 x3
		pick 1.1 x3
	`)
}

// Promise 22.4 (W2): of all that a stranger asks for beyond its rights, nothing befalls.
func TestNoRight(t *testing.T) {
	w := begin(t, plan(5, "bgg", link(0, 1), link(2, 1)))
	was := w.all()
	names := func() string {
		var l []any
		for env := range 27 {
			l = append(l, w.Kern().Space().Names(env))
		}
		return fmt.Sprint(l...)
	}
	all := names()
	w.plays(`
		bad 0 write 258 0 09
		bad 0 write 0 0 09
		bad 0 write 512 0 09
		bad 0 write 256 492 09
		bad 0 write 256 490 090909
		bad 0 write 256 -1 09
		bad 0 write 257 40 09
		bad 0 copy 258 0 256 0 1
		bad 0 copy 256 490 256 0 3
		bad 0 copy 257 0 256 490 3
		bad 0 copy 256 0 258 0 1
		bad 0 grant 256 8 3 0 492
		bad 0 grant 256 9 1 0 1
		bad 0 grant 257 0 0 0 0
		bad 0 revoke 258
		bad 0 revoke 0
		bad 0 enter 1
		bad 0 enter 2
		bad 0 leave 0 1
		bad 0 leave 1 1
		bad 1 write 256 0 09
		bad 2 revoke 256
	`)
	if is := w.all(); !slices.EqualFunc(is, was, bytes.Equal) || names() != all {
		t.Error(is, names())
	}
	for s := range 3 {
		if got := w.gate(s); got != "0 0 0 false []" {
			t.Error(s, got)
		}
	}
	// What it revokes is gone for it, and for nobody else.
	w.plays(`
		bad 0 write 257 8 05
		bad 0 revoke 257
		bad 0 write 257 8 06
		bad 0 write 513 8 06
		bad 0 write 256 488 07
		bad 0 revoke 256
		bad 0 write 256 488 00
		bad 0 copy 256 0 257 0 1
		do 0.0 write 1 0405 => 0.0 write =2
		do 1.0 read 1 2 => 1.0 read =2:0405
	`)
	if a, b := w.raw(0)[488], w.raw(3)[8]; a != 7 || b != 4 {
		t.Error(a, b)
	}
}

// Promise 22.4 (W3): what is bad is EIO, to who comes to it, and kept away from, also when it is good again; a new process knows nothing of that.
func TestBadIsEIO(t *testing.T) {
	w := play(t, plan(5, "b"), `
		do 0.0 pipe => 0.0 pipe =33
		do 0.0 fork => 0.0 fork =1
		bad 0 write 256 288 09
		do 0.0 write 2 01 => 0.0 write !5
		do 0.1 read 1 1 => 0.1 read !5
		bad 0 write 256 288 01
		do 0.0 write 2 01 => 0.0 write !5
		do 0.1 fork => 0.1 fork =2
		do 0.2 write 2 01 => 0.2 write =1
		do 0.1 read 1 1 => 0.1 read !5
		do 0.2 read 1 1 => 0.2 read =1:01
		bad 0 write 256 192 00
		do 0.2 read 0 1 => 0.2 read !5
		do 0.2 dup 0 => 0.2 dup !5
		bad 0 write 256 192 03
		bad 0 write 256 488 08
		do 0.0 front 0 => 0.0 front !5
		do 0.1 read 0 1 => 0.1 read !5
		bad 0 write 256 488 00
		do 0.0 front 0 => 0.0 front !5
		bad 0 write 256 24 09
		0.1 pid
		pick 0.1 x2
		do 0.0 kill 1 0 => 0.0 kill !5
		0.2 pid
		pick 0.2
		bad 0 write 256 48 09
		pick 0.2 => 0.2 pid !5
		bad 0 write 256 48 01
		pick 0.2 x3
		0.2 pid
		pick 0.2
		do 0.0 pid => 0.0 pid =0
	`)
	for i, want := range []string{"[{1 1} {3 0} {5 0}]", "[{1 1} {3 0} {5 0}]", "[{1 1} {1 2} {2 0}]"} {
		if got := fmt.Sprint(w.Host(0, i).Commons().Bad()); got != want {
			t.Error(i, got)
		}
	}
}

// Promise 22.4 (W3): whatever a stranger breaks, other sessions stay sound, also those that share a bridge with it, of which they are told EIO.
func TestBreaksItsOwn(t *testing.T) {
	w := begin(t, plan(5, "bgg", link(0, 1), link(1, 2)))
	w.plays(`
		bad 0 write 257 0 09
		do 1.0 read 1 4 => 1.0 read !5
		do 0.0 write 1 01 => 0.0 write !5
		bad 0 write 256 0 ffffffffffffffffffffffffffffffffffffffffffffffff
		do 0.0 pid
		do 1.0 write 2 0405 => 1.0 write =2
		do 2.0 read 1 4 => 2.0 read =2:0405
		do 1.0 close 1 => 1.0 close !5
	`)
	for s, want := range []string{"[bad]", "[]", "[]"} {
		if got := fmt.Sprint(audit.Faults(w.raw(s))); got != want {
			t.Error(s, got)
		}
	}
}

// Promise 22.4 (W4): a bridge is a queue of 32 bytes; small writes are whole, and its end is seen when it is empty and nobody is left who writes it.
func TestQueue(t *testing.T) {
	w := play(t, plan(5, "gg", link(0, 1)), `
		do 0.0 fork => 0.0 fork =1
		do 0.0 write 1 000102030405060708090a0b0c0d0e0f101112131415161718191a1b => 0.0 write =28
		0.0 write 1 2021222324
		pick 0.0 x2
		do 0.1 write 1 30313233343536373839 => 0.1 write =4
		0.1 write 1 40
		pick 0.1 x2
		do 1.0 read 1 3 => 1.0 read =3:000102
		pick 0.0 x3
		do 1.0 read 1 2 => 1.0 read =2:0304
		pick 0.0 x2
		pick 0.0 => 0.0 write =5
		pick 0.1 x3
		do 1.0 read 1 32 => 1.0 read =32:05060708090a0b0c0d0e0f101112131415161718191a1b303132332021222324
		1.0 read 1 32
		pick 1.0 x2
		pick 0.1 x2
		pick 0.1 => 0.1 write =1
		pick 1.0 x2
		pick 1.0 => 1.0 read =1:40
		do 0.0 write 1 50 => 0.0 write =1
		do 0.0 close 1 => 0.0 close =0
		do 0.1 exit 0 => 0.1 exit =0
		do 1.0 read 1 32 => 1.0 read =1:50
		do 1.0 read 1 32 => 1.0 read =0
		do 1.0 close 1 => 1.0 close =0
	`)
	if p, is := ring.Decode(w.raw(2)); is != api.DGood || p.Readers != 0 || p.Writers != 0 || p.Count != 0 {
		t.Error(p, is)
	}
	play(t, plan(5, "gg", link(0, 1)), `
		do 1.0 close 1 => 1.0 close =0
		do 0.0 write 1 01 => 0.0 write !32 died 13
	`)
}

// Promise 22.4 (W4): what came out of a bridge is what went in, in order, with what is still in it behind, whoever of both sessions wrote and read; each small write comes in one piece, and never are there more than 32 bytes.
func TestFlow(t *testing.T) {
	r := rand.New(rand.NewSource(7))
	for range 60 {
		w := play(t, plan(3, "ggb", link(2, 1), link(0, 1)), `
			do 0.0 fork => 0.0 fork =1
			do 0.1 fork => 0.1 fork =2
			do 1.0 fork => 1.0 fork =1
		`)
		var in, out []byte
		for n := range 900 {
			s, i := r.Intn(2), r.Intn(3)
			x := sys(api.URead, 2, r.Intn(33))
			if s == 0 {
				// A message tells how long it is and when it was, then its number of bytes.
				k := 2 + r.Intn(7)
				x = sys(api.UWrite, 1, 0, append([]byte{byte(k), byte(n)}, bytes.Repeat([]byte{byte(k + n)}, k-2)...)...)
			}
			w.Do(call(s, i, x))
			for range 1 + r.Intn(3) {
				w.Do(tick(r.Intn(2)))
				o, ok := w.Do(pick(s, i))
				if !ok {
					continue
				}
				if o.E != api.OK || s == 0 && o.N != len(o.Sys.D) || s == 1 && o.N != len(o.B) {
					t.Fatal(told(o, ok))
				}
				if s == 0 {
					in = append(in, o.Sys.D...)
				}
				out = append(out, o.B...)
			}
			p, _ := ring.Decode(w.raw(4))
			if !bytes.Equal(in, append(slices.Clone(out), ring.Bytes(p)...)) || p.Count > 32 {
				t.Fatal(in, out, ring.Bytes(p))
			}
		}
		if len(out) < 300 {
			t.Error(len(out))
		}
		for len(in) > 0 {
			k := int(in[0])
			if k > len(in) || slices.ContainsFunc(in[2:k], func(b byte) bool { return b != in[1]+byte(k) }) {
				t.Fatal(in)
			}
			in = in[k:]
		}
	}
}

// Promise 22.4 (W5): the same script, with and without what a stranger does: sessions that are not joined to it are told the same.
func TestApart(t *testing.T) {
	script := `
		0.0 fork
		1.0 fork
		3.0 pipe
		bad 0 enter 0
		bad 0 write 257 0 ff
		pick 0.0
		pick 1.0
		pick 3.0
		bad 0 write 256 0 ffff
		bad 0 alloc
		pick 1.0
		pick 3.0
		tick 2
		bad 0 write 256 448 02
		type 3.0 0506
		type 0.0 0506
		3.0 fork
		1.0 read 1 3
		2.0 read 1 3
		bad 0 copy 257 0 256 0 40
		pick 1.0
		pick 2.0
		pick 3.0
		pick 3.0
		pick 2.0
		pick 1.0
		3.1 read 0 4
		pick 3.1
		bad 0 revoke 256
		pick 3.1
		pick 2.0
	`
	runs := func(skip string) string {
		w := begin(t, plan(3, "bggg", link(0, 1), link(1, 2)))
		var l []string
		for _, line := range strings.Split(script, "\n") {
			for _, s := range w.steps(strings.TrimSpace(line)) {
				if skip != "" && strings.Contains(line, skip) {
					continue
				}
				if o, ok := w.Do(s); ok {
					l = append(l, told(o, ok))
				}
			}
		}
		return strings.Join(l, "; ")
	}
	if got, want := runs("bad"), "1.0 fork =1; 3.0 pipe =33; 3.0 fork =1; 3.1 read =2:0506"; got != want {
		t.Errorf("%s, want %s", got, want)
	}
	if got, want := runs(""), "1.0 fork =1; 3.0 pipe =33; 3.0 fork =1; 1.0 read !5; 3.1 read =2:0506"; got != want {
		t.Errorf("%s, want %s", got, want)
	}
}

// Promise 22.4 (W6): who never comes back is passed by, be it one in the section, the first of the queue, or one whom nobody trusts; and who was passed by comes in later.
func TestPassedBy(t *testing.T) {
	w := play(t, plan(5, "bg"), `
		do 0.0 fork => 0.0 fork =1
		do 0.0 fork => 0.0 fork =2
		do 0.0 fork => 0.0 fork =3
		bad 0 enter 0
		0.0 pid
		0.1 pid
		0.2 pid
		pick 0.0
		pick 0.1
		pick 0.2
		tick 4
		pick 0.0 x3
		do 1.0 pid => 1.0 pid =0
		tick 1
		pick 0.1
		tick 4
		pick 0.1
		tick 1
		pick 0.1
	`)
	if got := w.gate(0); got != "1 5 10 true [2]" {
		t.Error(got)
	}
	w.plays(`
		tick 5
		pick 0.2
		pick 0.1
		pick 0.0
		pick 0.2 => 0.2 pid =2
		pick 0.1
		pick 0.0
		pick 0.0 => 0.0 pid =0
		pick 0.1
		pick 0.1 => 0.1 pid =1
	`)
}

// Promise 22.4 (W6): whatever befell a session, also by a stranger who enters it, who wants a call that does not block has its return behind 20 of its picks, each behind a tick of the lease.
func TestComesIn(t *testing.T) {
	r := rand.New(rand.NewSource(8))
	tried, most := 0, 0
	for tried < 400 {
		w := begin(t, somePlan(r, "bg"))
		for range r.Intn(300) {
			w.Do(w.mild(r))
		}
		s, i := w.s, w.i
		if w.procs(s)[i].State != api.PLive || w.Host(s, i).Phase() != api.HIdle {
			continue
		}
		tried++
		x := sys([]int{api.UPid, api.UParent, api.UGetGroup}[r.Intn(3)], 0, 0)
		w.Do(call(s, i, x))
		done := 0
		for n := 1; n <= 20 && done == 0; n++ {
			// Others do what they like, but at one time, and they let it live.
			for range r.Intn(20) {
				if y := w.mild(r); (y.S != s || y.P != i) && y.Kind != 3 && y.Sys.Op != api.UKill {
					w.Do(y)
				}
			}
			w.Do(tick(w.p.Lease))
			if o, ok := w.Do(pick(s, i)); o.Back {
				done = n
				if o.Sys.Op != x.Op || o.E != api.OK {
					t.Fatal(told(o, ok))
				}
			}
		}
		// It was stopped, or killed, by what was on its way.
		if done == 0 && w.procs(s)[i].State == api.PLive {
			t.Fatal(s, i, w.gate(s), w.state())
		}
		most = max(most, done)
	}
	if most < 3 {
		t.Error(most)
	}
}

// mild is a step of those who do no wrong, or of a stranger who enters, and leaves or does not.
func (w *room) mild(r *rand.Rand) api.Step {
	w.t.Helper()
	if l := bads(w.p); len(l) > 0 && r.Intn(5) == 0 {
		s := l[r.Intn(len(l))]
		_, stamp, _, _ := w.Kern().Sect(s).Holder()
		if r.Intn(6) == 0 {
			return bad(s, api.Call{Op: api.KLeave, N: s, At: stamp})
		}
		return bad(s, api.Call{Op: api.KEnter, N: s})
	}
	return w.some(r)
}

// Promise 22.4 (W6): one at a time: what a call wrote was written while its slot held the section of its session, and it holds it no more when it is told.
func TestOneAtATime(t *testing.T) {
	r := rand.New(rand.NewSource(9))
	count := map[string]int{}
	for range 200 {
		w := begin(t, somePlan(r, "bg"))
		for range 300 {
			s := w.mild(r)
			h := w.Host(s.S, s.P)
			if s.Kind != 2 || h == nil || h.Phase() < api.HWant || h.Phase() > api.HIn || w.procs(s.S)[s.P].State != api.PLive {
				w.Do(s)
				continue
			}
			who, _, _, ok := w.Kern().Sect(s.S).Holder()
			mine, was, phase := ok && who == 9*s.S+s.P, w.all(), h.Phase()
			o, _ := w.Do(s)
			changed := !slices.EqualFunc(w.all(), was, bytes.Equal)
			if (changed || o.Back) && (!mine || phase != api.HIn) {
				t.Fatalf("%+v: %s at %d, while %d holds", s, calls.Name(o.Sys.Op), phase, who)
			}
			if who, _, _, ok := w.Kern().Sect(s.S).Holder(); phase == api.HIn && ok && who == 9*s.S+s.P {
				t.Fatalf("%+v still holds", s)
			}
			count[fmt.Sprint(phase, mine)]++
		}
	}
	for _, want := range []string{"1 false", "2 true", "2 false"} {
		if count[want] < 30 {
			t.Error(want, count)
		}
	}
}
