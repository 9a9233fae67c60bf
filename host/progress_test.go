package host

import (
	"bytes"
	"fmt"
	"math/rand"
	"slices"
	"testing"

	"commonage/api"
	"commonage/pslot"
)

// maxPicks is how many picks somebody may need for a call that does not block, with the lease's ticks ahead of each.
const maxPicks = 20

// quick are calls that are done at once, and end nobody.
func quick(r *rand.Rand) api.Sys {
	return []api.Sys{sys(api.UPid, 0, 0), sys(api.UParent, 0, 0), sys(api.UGetGroup, 0, 0), sys(api.UMask, 6, 0), sys(api.UDup, 0, 0), sys(0, 0, 0)}[r.Intn(6)]
}

// crowd is a session of eight who go on, of whom each reads a pipe that is empty by its descriptor 1.
func crowd() sess {
	s := sess{procs: procs{}, files: files{0: {Kind: 3, Refs: 8}, 1: {Kind: 1, Pipe: 3, Refs: 8}, 2: {Kind: 2, Pipe: 3, Refs: 8}}, pipes: rings{3: ends(1, 1)}}
	for i := range 8 {
		s.procs[i] = live(1, 2, 3)
	}
	return s
}

// others has those of the session, but one, do what they like at one time, and perhaps one whom nobody trusts enter and leave.
func others(r *rand.Rand, w *room, i int, gone [8]bool) {
	w.t.Helper()
	for range r.Intn(12) {
		j := r.Intn(8)
		switch {
		case r.Intn(8) == 0:
			w.enter(envWild)
		case r.Intn(12) == 0:
			if who, stamp, _, ok := w.k.Sect(section).Holder(); ok && who == envWild {
				w.k.Do(envWild, api.Call{Op: api.KLeave, N: section, At: stamp})
			}
		case j == i || gone[j]:
		case r.Intn(3) > 0:
			w.hosts[j].Pick()
		default:
			s := quick(r)
			if r.Intn(3) == 0 {
				s = sys(api.URead, 1, 1)
			}
			w.hosts[j].Start(s)
		}
	}
}

// Promise 21.4 (W6): who wants what does not block, and goes on being picked, has its return, whoever else never comes back, be it in the section, in the queue, or one whom nobody trusts.
func TestComesIn(t *testing.T) {
	r := rand.New(rand.NewSource(3))
	most := 0
	for range 1500 {
		w := start(t, crowd())
		i := r.Intn(8)
		var gone [8]bool
		for range r.Intn(40) {
			others(r, w, i, gone)
			w.k.Tick(r.Intn(3))
		}
		for j := range gone {
			gone[j] = r.Intn(2) == 0
		}
		s := quick(r)
		w.starts(i, s)
		done := 0
		for n := 1; n <= maxPicks && done == 0; n++ {
			others(r, w, i, gone)
			w.k.Tick(lease)
			if o, ok := w.hosts[i].Pick(); ok {
				if !o.Back || o.Sys.Op != s.Op {
					t.Fatal(text(o, ok))
				}
				done = n
			}
		}
		if done == 0 {
			t.Fatal(i, gone, w.gate())
		}
		most = max(most, done)
	}
	// All eight others, and one whom nobody trusts, may be ahead.
	if most < 5 {
		t.Error(most)
	}
}

// Promise 21.4 (W6): with all eight in the queue behind one who never comes back, each has its return, in its turn.
func TestEachInTurn(t *testing.T) {
	for gone := range 8 {
		w := start(t, crowd())
		w.enter(envWild)
		pid := sys(api.UPid, 0, 0)
		for i := range 8 {
			w.starts(i, pid)
			w.picks(i, 1)
		}
		w.isAt(envWild-envSlots, 0, 1, 2, 3, 4, 5, 6, 7)
		var order []int
		for range 40 {
			w.k.Tick(1)
			for i := range 8 {
				if i == gone {
					continue
				}
				if o, ok := w.hosts[i].Pick(); ok {
					if text(o, ok) != text(returns(i, pid, api.Ret{N: i}), true) {
						t.Error(text(o, ok))
					}
					order = append(order, i)
				}
			}
		}
		want := slices.Delete([]int{0, 1, 2, 3, 4, 5, 6, 7}, gone, gone+1)
		if !slices.Equal(order, want) {
			t.Error(gone, order)
		}
		// And so has who was passed by, when it comes back.
		w.returnsWithin(gone, 4, returns(gone, pid, api.Ret{N: gone}))
	}
}

// Promise 21.4 (W6): one at a time: a call is done, and bytes are written, by the one who holds the section alone, and nobody holds it then; who waits, or ends, holds it no more.
func TestOneAtATime(t *testing.T) {
	r := rand.New(rand.NewSource(4))
	count := map[bool]int{}
	for range 400 {
		w := start(t, crowd())
		for range 120 {
			i := r.Intn(8)
			h := w.hosts[i]
			if r.Intn(3) == 0 {
				h.Start(crowded(r))
				continue
			}
			if r.Intn(10) == 0 {
				w.enter(envWild)
			}
			if r.Intn(5) == 0 {
				w.k.Tick(1 + r.Intn(lease))
			}
			if r.Intn(40) == 0 {
				w.leave()
			}
			who, _, _, held := w.k.Sect(section).Holder()
			mine := held && who == envSlots+i
			was, phase := w.all(), h.Phase()
			if mine && phase != api.HIn {
				t.Fatal(i, phase, w.gate())
			}
			o, ok := h.Pick()
			changed := !slices.EqualFunc(w.all(), was, bytes.Equal)
			if (changed || ok) && !mine {
				t.Fatalf("%d: %s at %d, while %d holds", i, text(o, ok), phase, who-envSlots)
			}
			if phase == api.HIn {
				count[mine]++
				if now, _, _, held := w.k.Sect(section).Holder(); held && now == envSlots+i {
					t.Fatal(i, "still holds")
				}
				if ok != (h.Phase() == api.HIdle) || mine && h.Phase() == api.HWant || !mine && h.Phase() != api.HWant {
					t.Fatal(i, text(o, ok), h.Phase())
				}
			}
			if ok && o.Sys.Op == api.UFork && o.E == api.OK {
				w.hosts[o.N].Fresh()
			}
		}
	}
	if count[true] < 1000 || count[false] < 100 {
		t.Error(count)
	}
}

// crowded is a call that tells nobody of a signal.
func crowded(r *rand.Rand) api.Sys {
	switch r.Intn(10) {
	case 0:
		return sys(api.UWrite, 2, 0, run(byte(r.Intn(200)), 1+r.Intn(9))...)
	case 1, 2:
		return sys(api.URead, 1, 1+r.Intn(9))
	case 3:
		return sys(api.UWait, 0, 0)
	case 4:
		return sys(api.UExit, r.Intn(9), 0)
	case 5, 6:
		return sys(api.UFork, 0, 0)
	}
	return quick(r)
}

// honest is a call of who is in slot i, mostly of what it has.
func honest(r *rand.Rand, w *room, i int) api.Sys {
	s := some(r)
	p, _ := pslot.Decode(w.raw(ours)[24*i : 24*i+24])
	var fit []int
	for fd, f := range p.Fds {
		if f > 0 && (w.raw(ours)[192+8*(f-1)] == api.FWrite) == (s.Op == api.UWrite) {
			fit = append(fit, fd)
		}
	}
	switch s.Op {
	case api.URead, api.UWrite, api.UDup, api.UDup2, api.UNow:
		if len(fit) > 0 {
			s.A = fit[r.Intn(len(fit))]
		}
	case api.UGroup:
		s.A, s.B = i, r.Intn(2)*i
	case api.UFront:
		s.A = 0
	case api.UKill:
		s.A, s.B = r.Intn(4)*r.Intn(4), []int{0, api.SStop, api.SCont, api.SCont, 3, 9}[r.Intn(6)]
	case api.UExit:
		if i == 0 && r.Intn(6) > 0 {
			s = sys(api.UFork, 0, 0)
		}
	case api.UParent:
		if i == 0 {
			s = sys(api.UWait, 0, 0)
		}
	}
	return s
}

// Promise 21.4 (W3, W8): honest ones, who go on by Start and Pick alone, keep all sound; to them nothing is EIO, and what they want is told once.
func TestHonest(t *testing.T) {
	r := rand.New(rand.NewSource(5))
	count := map[string]int{}
	for range 300 {
		w := start(t, sess{procs: procs{0: live(1, 2, 3)}, files: files{0: reader(tty), 1: writer(4), 2: reader(5)}, pipes: rings{tty: holds(ends(1, 1), run(1, 32)...)}})
		var wants [8]string
		for range 150 {
			l := slices.DeleteFunc([]int{0, 1, 2, 3, 4, 5, 6, 7}, func(i int) bool { return w.raw(ours)[24*i] == api.DFree })
			if len(l) == 0 {
				break
			}
			i := l[r.Intn(len(l))]
			if s := honest(r, w, i); r.Intn(3) == 0 && w.hosts[i].Start(s) {
				wants[i] = fmt.Sprint(s)
				continue
			}
			w.k.Tick(r.Intn(3))
			o, ok := w.hosts[i].Pick()
			if o.E == api.EIO || o.Back && fmt.Sprint(o.Sys) != wants[i] || !ok && text(o, ok) != text(api.Out{}, false) {
				t.Fatal(text(o, ok), wants[i])
			}
			if o.Back {
				wants[i] = ""
				count[fmt.Sprint(o.Sys.Op, o.E == api.OK)]++
			}
			if o.Dies > 0 {
				count["dies"]++
			}
			if o.Back && o.Sys.Op == api.UFork && o.E == api.OK {
				w.hosts[o.N].Fresh()
				wants[o.N] = ""
			}
			if faults := w.faults(); len(faults) > 0 {
				t.Fatal(text(o, ok), faults)
			}
		}
		for i, h := range w.hosts {
			if bad := h.Commons().Bad(); len(bad) > 0 {
				t.Fatal(i, bad)
			}
		}
	}
	for op := 1; op <= 18; op++ {
		if n := count[fmt.Sprint(op, true)]; n < 10 {
			t.Error(op, n)
		}
	}
	if count["dies"] < 10 {
		t.Error(count)
	}
}

// Promise 21.5: no call panics, and each ends, whatever it is given, and whatever the bytes.
func TestNoPanic(t *testing.T) {
	r := rand.New(rand.NewSource(6))
	for op := -1; op <= 19; op++ {
		for _, n := range wild {
			p := twins(t, tame(r))
			i := r.Intn(8)
			for _, s := range []api.Sys{sys(op, n, 1), sys(op, 1, n), sys(op, n, n), sys(n, op, op), {Op: op, A: 1, D: make([]byte, min(max(n, 0), 1<<12))}} {
				p.start(i, s)
				p.pick(i)
				p.pick(i)
			}
			if t.Failed() {
				t.FailNow()
			}
		}
	}
	for range 400 {
		p := twins(t, random(r))
		for range 4 {
			i := r.Intn(8)
			p.start(i, some(r))
			p.pick(i)
			region := r.Intn(regions)
			b := p.w.raw(region)
			for range 1 + r.Intn(9) {
				b[r.Intn(len(b))] = byte(r.Intn(256))
			}
			if r.Intn(9) == 0 {
				r.Read(b)
			}
			p.both(func(w *room) { w.write(region, 0, b) })
			for range 3 {
				p.pick(i)
			}
			befalls(r, p, i)
			p.pick(i)
		}
		if t.Failed() {
			t.FailNow()
		}
	}
}

// Promise 21.5: Hosts of all environments and Sects that there are may be asked anything.
func TestNoPanicOfAny(t *testing.T) {
	r := rand.New(rand.NewSource(7))
	for range 300 {
		w := start(t, random(r))
		var l []*Host
		for range 12 {
			if h, e := New(w.k, r.Intn(11), r.Intn(8), r.Intn(sections)); e == api.OK {
				l = append(l, h)
			}
		}
		for range 60 {
			h := l[r.Intn(len(l))]
			switch r.Intn(12) {
			case 0:
				h.Fresh()
			case 1, 2, 3:
				h.Start(some(r))
			case 4:
				w.k.Tick(r.Intn(7))
			case 5:
				if env := r.Intn(11); r.Intn(4) == 0 {
					w.k.Do(env, api.Call{Op: api.KRevoke, Cap: 256 + r.Intn(3)})
				}
			default:
				o, ok := h.Pick()
				if !ok && text(o, ok) != text(api.Out{}, false) {
					t.Fatal(text(o, ok))
				}
			}
			if n := h.Phase(); n < 0 || n > 3 || h.Commons() == nil {
				t.Fatal(n)
			}
		}
	}
}
