package host

import (
	"bytes"
	"fmt"
	"math/rand"
	"slices"
	"testing"

	"commonage/api"
	"commonage/kern"
	"commonage/pslot"
)

// Promises 21.1, 21.2: phases and errors have the document's numbers.
func TestNumbers(t *testing.T) {
	if got := [...]int{api.HIdle, api.HWant, api.HIn, api.HBlocked}; got != [...]int{0, 1, 2, 3} {
		t.Error(got)
	}
	if got := [...]api.Errno{api.ErrArg, api.ErrSect, api.EINTR, api.EIO}; got != [...]api.Errno{1, 8, 104, 105} {
		t.Error(got)
	}
}

// returns is what is told of a slot whose call returned without signals.
func returns(i int, s api.Sys, r api.Ret) api.Out {
	return api.Out{Slot: i, Sys: s, N: r.N, E: r.E, B: r.B, Back: true}
}

// and is o with the caught signals, and the one that it dies of.
func and(o api.Out, dies int, caught ...int) api.Out {
	o.Sigs, o.Dies = caught, dies
	return o
}

// picks fails unless a Pick of this slot tells so (of no outs: nothing), and its Host is at that phase then.
func (w *room) picks(i, phase int, outs ...api.Out) {
	w.t.Helper()
	want := text(api.Out{}, false)
	if len(outs) > 0 {
		want = text(outs[0], true)
	}
	h := w.hosts[i]
	if got := text(h.Pick()); got != want || h.Phase() != phase {
		w.t.Errorf("Pick of %d: %s, at %d; want %s, at %d", i, got, h.Phase(), want, phase)
	}
}

// starts fails unless this slot wants s from now on.
func (w *room) starts(i int, s api.Sys) {
	w.t.Helper()
	if h := w.hosts[i]; !h.Start(s) || h.Phase() != api.HWant {
		w.t.Errorf("Start of %d, %+v: at %d", i, s, h.Phase())
	}
}

// does fails unless this slot, which is idle while nobody is in, starts s, goes in, and is told so.
func (w *room) does(i int, s api.Sys, outs ...api.Out) {
	w.t.Helper()
	w.starts(i, s)
	w.picks(i, 2)
	phase := 0
	if len(outs) == 0 {
		phase = 3
	}
	w.picks(i, phase, outs...)
	w.isAt(nobody)
}

// has fails unless a slot has this process, free if it is the zero one.
func (w *room) has(i int, want api.Proc) {
	w.t.Helper()
	row := rowOf(want)
	if want == (api.Proc{}) {
		row = make([]byte, 24)
	}
	if got := w.raw(ours)[24*i : 24*i+24]; !bytes.Equal(got, row) {
		w.t.Errorf("slot %d has %v, want %v", i, got, row)
	}
}

// Promise 21.1: New answers commons.New's error, ErrArg of a slot that is none, ErrSect of a Sect that is none, in this order.
func TestNew(t *testing.T) {
	k := start(t, sess{}).k
	for _, env := range wild {
		for _, slot := range wild {
			for _, sec := range wild {
				var want api.Errno
				switch {
				case env < 0 || env >= envBare || slot < 0 || slot > 7:
					want = 1
				case sec < 0 || sec >= sections:
					want = 8
				}
				h, e := New(k, env, slot, sec)
				if e != want || (h != nil) != (e == 0) {
					t.Fatal(env, slot, sec, h, e)
				}
				if h != nil && h.Phase() != 0 {
					t.Fatal(env, slot, sec, h.Phase())
				}
			}
		}
	}
	for _, slot := range []int{0, 8} {
		if h, e := New(nil, 1, slot, 9); h != nil || e != 1 {
			t.Error(slot, h, e)
		}
	}
	none, e := kern.New(api.Boot{Frames: []int{8}, Envs: []int{0}, Lease: 1, Shared: []api.Share{{N: 492, To: []int{0}}}})
	if e != 0 {
		t.Fatal(e)
	}
	if h, e := New(none, 0, 0, 0); h != nil || e != 8 {
		t.Error(h, e)
	}
}

// Promises 15.2, 21.1: a new Host has a Commons of its own, which did not read anything, and New leaves bytes and the section as they are.
func TestNewLeaves(t *testing.T) {
	w := start(t, sess{procs: procs{0: {}, 1: live()}, front: -1})
	w.enter(envWild)
	was, gate := w.all(), w.gate()
	h, g := w.host(2, 1), w.host(2, 1)
	if h.Commons() == nil || h.Commons() != h.Commons() || h.Commons() == g.Commons() {
		t.Error("Commons")
	}
	if bad := h.Commons().Bad(); len(bad) > 0 {
		t.Error(bad)
	}
	if is := w.all(); !slices.EqualFunc(is, was, bytes.Equal) || w.gate() != gate {
		t.Error(is, w.gate())
	}
	if ok := h.Commons().SetProc(1, live(3)); !ok {
		t.Error("SetProc")
	}
	w.has(1, live(3))
}

// Promise 21.1: who starts is idle, and its slot is good and no zombie: then it wants, and asks for nothing yet.
func TestStart(t *testing.T) {
	for i := range 8 {
		for _, x := range []struct {
			p    api.Proc
			free bool
			want bool
		}{{live(), false, true}, {stopped(), false, true}, {told(live(), 3, 9), false, true}, {zombie(), false, false}, {api.Proc{}, false, false}, {api.Proc{}, true, false}} {
			s := sess{procs: procs{(i + 1) % 8: live(), i: x.p}}
			if x.free {
				delete(s.procs, i)
			}
			w := start(t, s)
			was, gate := w.all(), w.gate()
			h := w.hosts[i]
			phase := 0
			if x.want {
				phase = 1
			}
			if got := h.Start(sys(api.UPid, 0, 0)); got != x.want || h.Phase() != phase {
				t.Error(i, x, got, h.Phase())
			}
			if is := w.all(); !slices.EqualFunc(is, was, bytes.Equal) || w.gate() != gate {
				t.Error(i, x, is, w.gate())
			}
		}
	}
}

// Promise 21.1: who is not idle does not start: it wants, or waits for, what it did.
func TestStartOnce(t *testing.T) {
	w := start(t, sess{procs: procs{2: live(1)}, files: files{0: reader(0)}, pipes: rings{0: ends(1, 1)}})
	read := sys(api.URead, 0, 3)
	refuses := func(phase int) {
		t.Helper()
		for _, s := range []api.Sys{sys(api.UPid, 0, 0), read, {}} {
			if w.hosts[2].Start(s) || w.hosts[2].Phase() != phase {
				t.Error(s, w.hosts[2].Phase())
			}
		}
	}
	w.starts(2, read)
	refuses(1)
	w.picks(2, 2)
	refuses(2)
	w.picks(2, 3)
	refuses(3)
	w.lay(aPipe(0), rowOf(holds(ends(1, 1), 4, 5)))
	w.picks(2, 1)
	refuses(1)
	w.picks(2, 2)
	w.picks(2, 0, returns(2, read, api.Ret{N: 2, B: []byte{4, 5}}))
	w.starts(2, sys(api.UPid, 0, 0))
}

// Promise 21.1: Phase and Commons change nothing, whatever is asked ahead.
func TestPhase(t *testing.T) {
	w := start(t, sess{procs: procs{0: live(), 1: {}}})
	for phase, s := range []func(){func() {}, func() { w.starts(0, sys(api.UWait, 0, 0)) }, func() { w.picks(0, 2) }} {
		s()
		c := w.hosts[0].Commons()
		bad := len(c.Bad())
		for range 3 {
			if w.hosts[0].Phase() != phase || w.hosts[0].Commons() != c || len(c.Bad()) != bad {
				t.Error(phase)
			}
		}
	}
}

// at is a way for the Host of slot 3 to come to a phase, with those of slots 5 and 6 around it in the section.
type at struct {
	name  string
	phase int
	goes  func(w *room)
	// What the section is then, and what it is when slot 3 leaves, or is out of the queue.
	holder int
	queue  []int
	left   int
	behind []int
}

// read is what the Host of slot 3 wants, where it is not idle.
func read() api.Sys { return sys(api.URead, 1, 4) }

func ats() []at {
	return []at{
		{"idle", 0, func(w *room) { w.enter(envSlots + 5); w.enter(envSlots + 6) }, 5, []int{6}, 5, []int{6}},
		{"wants", 1, func(w *room) {
			w.enter(envSlots + 5)
			w.enter(envSlots + 6)
			w.starts(3, read())
		}, 5, []int{6}, 5, []int{6}},
		{"is in the queue", 1, func(w *room) {
			w.enter(envSlots + 5)
			w.starts(3, read())
			w.picks(3, 1)
			w.enter(envSlots + 6)
		}, 5, []int{3, 6}, 5, []int{6}},
		{"is in", 2, func(w *room) {
			w.starts(3, read())
			w.picks(3, 2)
			w.enter(envSlots + 5)
			w.enter(envSlots + 6)
		}, 3, []int{5, 6}, nobody, []int{5, 6}},
		{"was passed by", 2, func(w *room) {
			w.starts(3, read())
			w.picks(3, 2)
			w.k.Tick(lease)
			w.enter(envSlots + 5)
			w.enter(envSlots + 6)
		}, 5, []int{6}, 5, []int{6}},
		{"was passed by, and nobody is in", 2, func(w *room) {
			w.starts(3, read())
			w.picks(3, 2)
			w.leave()
			w.enter(envSlots + 6)
			w.enter(envSlots + 5)
			w.leave()
		}, nobody, []int{5}, nobody, []int{5}},
		{"waits", 3, func(w *room) {
			w.starts(3, read())
			w.picks(3, 2)
			w.picks(3, 3)
			w.enter(envSlots + 5)
			w.enter(envSlots + 6)
		}, 5, []int{6}, 5, []int{6}},
	}
}

// reads is a session where slot 3 reads an empty pipe, that has a writer.
func reads() sess {
	return sess{procs: procs{3: live(0, 2), 5: live(), 6: live(), 0: live(3)}, files: files{1: reader(2), 2: writer(2)}, pipes: rings{2: ends(1, 1)}}
}

// Promises 21.2, 21.3: of whoever is picked while its slot is free, a zombie, stopped or bad: what is told, how far it is then, and that it holds up nobody. No byte is another one then.
func TestPickOfOthers(t *testing.T) {
	for _, x := range ats() {
		for _, y := range []struct {
			name string
			row  []byte
		}{{"free", make([]byte, 24)}, {"a zombie", rowOf(zombie())}, {"stopped", rowOf(stopped(0, 2))}, {"bad", rowOf(api.Proc{})}, {"stopped, with signals", rowOf(told(catches(stopped(0, 2), 3), 3, 5))}} {
			w := start(t, reads())
			x.goes(w)
			w.isAt(x.holder, x.queue...)
			was := w.all()
			copy(was[ours][24*3:], y.row)
			w.lay(aProc(3), y.row)
			switch y.name {
			case "free", "a zombie":
				w.picks(3, 0)
				w.isAt(x.left, x.behind...)
			case "bad":
				if x.phase == 0 {
					w.picks(3, 0)
				} else {
					w.picks(3, 0, returns(3, read(), api.Ret{E: api.EIO}))
				}
				w.isAt(x.left, x.behind...)
			default:
				w.picks(3, []int{0, 1, 1, 3}[x.phase])
				if x.phase == 2 {
					w.isAt(x.left, x.behind...)
				} else {
					w.isAt(x.holder, x.queue...)
				}
			}
			if is := w.all(); !slices.EqualFunc(is, was, bytes.Equal) {
				t.Errorf("%v, want %v", is, was)
			}
			if t.Failed() {
				t.Fatal(x.name, y.name)
			}
		}
	}
}

// Promise 21.2: behind such a Pick the next ones tell nothing; who was stopped goes on with its call when it goes on, and the others do not.
func TestPickOfOthersAgain(t *testing.T) {
	for _, x := range ats() {
		for _, row := range [][]byte{make([]byte, 24), rowOf(zombie()), rowOf(stopped(0, 2)), rowOf(api.Proc{})} {
			w := start(t, reads())
			x.goes(w)
			w.lay(aProc(3), row)
			w.hosts[3].Pick()
			phase, gate := w.hosts[3].Phase(), w.gate()
			for range 3 {
				w.picks(3, phase)
			}
			if is := w.gate(); is != gate {
				t.Errorf("%s, want %s", is, gate)
			}
			w.lay(aProc(3), rowOf(live(0, 2)))
			w.lay(aPipe(2), rowOf(holds(ends(1, 1), 7)))
			w.k.Tick(lease)
			if row[0] != api.PStopped || x.phase == 0 {
				w.picks(3, 0)
				w.picks(3, 0)
			} else {
				w.returnsWithin(3, 8, returns(3, read(), api.Ret{N: 1, B: []byte{7}}))
			}
			if t.Failed() {
				t.Fatal(x.name, row)
			}
		}
	}
}

// returnsWithin fails unless a slot that is picked so often, at most, with the lease's ticks ahead, is told so.
func (w *room) returnsWithin(i, n int, want api.Out) {
	w.t.Helper()
	for range n {
		w.k.Tick(lease)
		if o, ok := w.hosts[i].Pick(); ok {
			if text(o, ok) != text(want, true) {
				w.t.Errorf("%s, want %s", text(o, ok), text(want, true))
			}
			return
		}
	}
	w.t.Errorf("%d has no return behind %d picks", i, n)
}

// Promise 21.2: a slot that was bad once is bad to its Host, till that is Fresh, and to no other Host.
func TestBadOnce(t *testing.T) {
	w := start(t, reads())
	w.spoil(aProc(3))
	w.picks(3, 0)
	w.spoil(aProc(3))
	if w.hosts[3].Start(read()) {
		t.Error("Start")
	}
	w.picks(3, 0)
	h := w.host(envSlots+3, 3)
	if !h.Start(read()) {
		t.Error("Start of another one")
	}
	w.hosts[3].Fresh()
	w.does(3, read())
}

// Promise 21.2: who wants goes in when it is let in, with one Pick, and is told what its call returns with the next one.
func TestInTurn(t *testing.T) {
	w := start(t, sess{procs: procs{1: live(), 4: live(), 7: live()}})
	pid := sys(api.UPid, 0, 0)
	for _, i := range []int{1, 4, 7} {
		w.starts(i, pid)
		w.isAt(nobody)
	}
	w.picks(4, 2)
	w.isAt(4)
	w.picks(7, 1)
	w.picks(1, 1)
	w.isAt(4, 7, 1)
	w.picks(4, 0, returns(4, pid, api.Ret{N: 4}))
	w.isAt(nobody, 7, 1)
	w.picks(4, 0)
	w.picks(1, 1)
	w.picks(7, 2)
	w.isAt(7, 1)
	w.picks(1, 1)
	w.picks(7, 0, returns(7, pid, api.Ret{N: 7}))
	w.picks(1, 2)
	w.picks(1, 0, returns(1, pid, api.Ret{N: 1}))
	w.isAt(nobody)
	for n, x := range []int{notOurs, another} {
		if _, _, _, ok := w.k.Sect(x).Holder(); ok || len(w.k.Sect(x).Queue()) > 0 {
			t.Error(n)
		}
	}
}

// Promise 21.2: what a call returns is told whole: its N, its E and its B, beside the call as it was wanted.
func TestReturns(t *testing.T) {
	s := sess{
		procs: procs{2: {State: 1, Parent: 8, Group: 3, Mask: 1 << 4, Fds: [8]int{1, 2, 3}}, 7: live()},
		files: files{0: {Kind: 3, Refs: 1}, 1: {Kind: 1, Pipe: 1, Refs: 1}, 2: {Kind: 2, Pipe: 1, Refs: 1}},
		pipes: rings{1: holds(ends(1, 1), 4, 5, 6), tty: holds(ends(1, 1), 7, 8)},
		front: 3,
	}
	for _, x := range []struct {
		s api.Sys
		r api.Ret
	}{
		{sys(1, 5, 6, 7), api.Ret{N: 2}}, {sys(2, 0, 0), api.Ret{N: 0}}, {sys(4, 0, 0), api.Ret{E: 110}}, {sys(5, 4, 1), api.Ret{E: 103}}, {sys(6, 0, 0), api.Ret{N: 16}},
		{sys(7, 9, 1), api.Ret{E: 122}}, {sys(8, 2, 9), api.Ret{E: 122}}, {sys(9, 0, 0), api.Ret{N: 3 + 16*4}}, {sys(10, 1, 2), api.Ret{N: 2, B: []byte{4, 5}}},
		{sys(10, 0, 9), api.Ret{N: 2, B: []byte{7, 8}}}, {sys(11, 2, 0, 1, 2, 3), api.Ret{N: 3}}, {sys(12, 3, 0), api.Ret{E: 109}}, {sys(13, 0, 0), api.Ret{N: 3}},
		{sys(14, 0, 7), api.Ret{N: 7}}, {sys(15, 0, 2), api.Ret{E: 122}}, {sys(16, 5, 0), api.Ret{E: 101}}, {sys(17, 0, 0), api.Ret{N: 7}}, {sys(18, 0, 0), api.Ret{N: 3}},
		{sys(0, 1, 2, 3), api.Ret{E: 122}}, {sys(19, 0, 0), api.Ret{E: 122}}, {sys(-1, -2, -3), api.Ret{E: 122}},
	} {
		w := start(t, s)
		w.does(2, x.s, returns(2, x.s, x.r))
		w.picks(2, 0)
	}
}

// Promise 21.2: who is in, but was passed by, does nothing: it wants again, and comes in again behind those who wait.
func TestPassedBy(t *testing.T) {
	for _, x := range ats() {
		if x.phase != 2 || x.holder == 3 {
			continue
		}
		w := start(t, reads())
		x.goes(w)
		was := w.all()
		w.picks(3, 1)
		w.isAt(x.holder, x.queue...)
		w.picks(3, 1)
		w.isAt(x.holder, append(x.queue, 3)...)
		if is := w.all(); !slices.EqualFunc(is, was, bytes.Equal) {
			t.Errorf("%v, want %v", is, was)
		}
		w.lay(aPipe(2), rowOf(holds(ends(1, 1), 7)))
		w.returnsWithin(3, 4, returns(3, read(), api.Ret{N: 1, B: []byte{7}}))
	}
}

// Promises 21.2, 21.3: just its own stamp is one with which it is in, though its environment holds again by another one, or waits again: who leaves leaves alone what it has by that; who is out of the queue, or was passed by, has it no more.
func TestOtherStamp(t *testing.T) {
	for _, x := range []struct {
		row   []byte
		phase int
		quits bool
		outs  []api.Out
	}{
		{rowOf(live(0, 2)), 1, true, nil},
		{rowOf(stopped(0, 2)), 1, false, nil},
		{rowOf(zombie()), 0, true, nil},
		{make([]byte, 24), 0, true, nil},
		{rowOf(api.Proc{}), 0, false, []api.Out{returns(3, read(), api.Ret{E: 105})}},
	} {
		w := start(t, reads())
		w.starts(3, read())
		w.picks(3, 2)
		w.leave()
		w.enter(envSlots + 3)
		w.enter(envSlots + 5)
		w.isAt(3, 5)
		w.lay(aProc(3), x.row)
		w.picks(3, x.phase, x.outs...)
		if x.quits {
			w.isAt(nobody, 5)
		} else {
			w.isAt(3, 5)
		}

		w = start(t, reads())
		w.starts(3, read())
		w.picks(3, 2)
		w.leave()
		w.enter(envSlots + 5)
		w.enter(envSlots + 3)
		w.enter(envSlots + 6)
		w.isAt(5, 3, 6)
		w.lay(aProc(3), x.row)
		w.picks(3, x.phase, x.outs...)
		if x.quits {
			w.isAt(5, 6)
		} else {
			w.isAt(5, 3, 6)
		}
		if t.Failed() {
			t.Fatal(x)
		}
	}
}

// Promise 21.2: who holds longer than the lease, while nobody else asks, is in as before.
func TestLongHold(t *testing.T) {
	w := start(t, reads())
	w.starts(3, sys(api.UPid, 0, 0))
	w.picks(3, 2)
	w.k.Tick(1000)
	w.picks(3, 0, returns(3, sys(api.UPid, 0, 0), api.Ret{N: 3}))
}

// Promise 21.2: who has to wait is out of the section while it waits, and wants again when its program is true.
func TestBlocked(t *testing.T) {
	wakes := map[string]func(w *room){
		"bytes":             func(w *room) { w.lay(aPipe(2), rowOf(holds(ends(1, 1), 7, 8, 9, 1, 2))) },
		"an end":            func(w *room) { w.lay(aPipe(2), rowOf(ends(1, 0))) },
		"another file":      func(w *room) { w.lay(aFile(1), rowOf(writer(2))) },
		"a pipe with bytes": func(w *room) { w.lay(aPipe(3), rowOf(holds(ends(1, 1), 7))); w.lay(aFile(1), rowOf(reader(3))) },
		"a bad file":        func(w *room) { w.spoil(aFile(1)) },
		"a bad pipe":        func(w *room) { w.lay(aPipe(2), []byte{1, 0, 1, 1, 1, 0}) },
		"a bridge":          func(w *room) { w.lay(aFile(1), rowOf(reader(4))) },
	}
	rets := map[string]api.Ret{
		"bytes":             {N: 4, B: []byte{7, 8, 9, 1}},
		"an end":            {},
		"another file":      {E: 109},
		"a pipe with bytes": {N: 1, B: []byte{7}},
		"a bad file":        {E: 105},
		"a bad pipe":        {E: 105},
	}
	for name, befalls := range wakes {
		w := start(t, reads())
		w.does(3, read())
		w.enter(envSlots + 5)
		for range 4 {
			w.k.Tick(lease)
			w.picks(3, 3)
			w.isAt(5)
		}
		befalls(w)
		w.picks(3, 1)
		w.isAt(5)
		w.k.Tick(lease)
		w.picks(3, 2)
		w.isAt(3)
		if r, ok := rets[name]; ok {
			w.picks(3, 0, returns(3, read(), r))
		} else {
			w.picks(3, 3)
		}
		w.isAt(nobody)
		if t.Failed() {
			t.Fatal(name)
		}
	}
}

// Promise 21.2: who waits for what no program tells asks again with each turn; the terminal's reader does when there are bytes.
func TestBlockedElse(t *testing.T) {
	s := reads()
	s.files[3] = reader(tty)
	s.procs[3] = live(0, 2, 3, 4)
	s.procs[7] = api.Proc{State: 1, Parent: 4}
	s.pipes[2] = holds(ends(1, 1), run(1, 32)...)
	for _, x := range []api.Sys{sys(api.UWait, 0, 0), sys(api.UWrite, 2, 0, 1)} {
		w := start(t, s)
		w.does(3, x)
		for range 3 {
			w.picks(3, 1)
			w.isAt(nobody)
			w.picks(3, 2)
			w.picks(3, 3)
		}
	}
	w := start(t, s)
	tty := sys(api.URead, 3, 4)
	w.does(3, tty)
	w.picks(3, 3)
	w.lay(aPipe(-1), rowOf(holds(ends(1, 1), 9)))
	w.picks(3, 1)
	w.picks(3, 2)
	w.picks(3, 0, returns(3, tty, api.Ret{N: 1, B: []byte{9}}))
}

// Promise 21.2: a file that never waits, and whoever's call is done at once, is not HBlocked.
func TestNeverWaits(t *testing.T) {
	s := reads()
	f := reader(2)
	f.Flags = api.FNow
	s.files[1] = f
	w := start(t, s)
	w.does(3, read(), returns(3, read(), api.Ret{E: 111}))
}

// Promise 21.2: who waits is told EINTR when there is a signal that it would not sleep through, ahead of all else, with the end.
func TestInterrupted(t *testing.T) {
	one := live(0, 2)
	for _, x := range []struct {
		p     api.Proc
		wakes bool
		dies  int
		sigs  []int
		then  api.Proc
	}{
		{told(catches(one, 3), 3), true, 0, []int{3}, catches(one, 3)},
		{told(catches(one, 3, 7), 7, 3, 9), true, 9, nil, api.Proc{}},
		{told(catches(one, 3, 7), 7, 3, 8), true, 8, []int{3, 7}, api.Proc{}},
		{told(one, 5), true, 5, nil, api.Proc{}},
		{told(catches(one, 15), 15), true, 0, []int{15}, catches(one, 15)},
		{told(one, 14), true, 0, nil, stopped(0, 2)},
		{told(one, 15), false, 0, nil, told(one, 15)},
		{masked(told(one, 3), 3), false, 0, nil, masked(told(one, 3), 3)},
		{masked(told(catches(one, 3, 4), 3, 4), 3), true, 0, []int{4}, masked(told(catches(one, 3, 4), 3), 3)},
	} {
		for _, ready := range []bool{false, true} {
			w := start(t, reads())
			w.does(3, read())
			w.lay(aProc(3), rowOf(x.p))
			if ready {
				w.lay(aPipe(2), rowOf(holds(ends(1, 1), 7)))
			}
			w.enter(envSlots + 5)
			switch {
			case x.wakes:
				w.picks(3, 0, and(returns(3, read(), api.Ret{E: api.EINTR}), x.dies, x.sigs...))
			case ready:
				w.picks(3, 1)
			default:
				w.picks(3, 3)
			}
			w.isAt(5)
			w.has(3, x.then)
			if t.Failed() {
				t.Fatal(x, ready)
			}
		}
	}
}

// masked is p that keeps these signals off.
func masked(p api.Proc, signals ...int) api.Proc {
	p.Mask |= set(signals...)
	return p
}

// Promises 21.2, 21.3: an idle one is told of its signals: there is an Out, without a return, if one was caught, or it dies.
func TestIdle(t *testing.T) {
	one := api.Proc{State: 1, Parent: 6, Group: 4, Ignored: 1 << 2, Fds: [8]int{3}}
	for _, x := range []struct {
		p    api.Proc
		dies int
		sigs []int
		then api.Proc
	}{
		{one, 0, nil, one},
		{told(catches(one, 1), 1), 0, []int{1}, catches(one, 1)},
		{told(catches(one, 1, 15, 8), 15, 8, 1), 0, []int{1, 8, 15}, catches(one, 1, 15, 8)},
		{told(one, 15), 0, nil, one},
		{told(catches(one, 3), 15, 3), 0, []int{3}, catches(one, 3)},
		{told(catches(one, 3), 3, 14, 15), 0, []int{3}, told(catches(halted(one), 3), 15)},
		{told(one, 14), 0, nil, halted(one)},
		{masked(told(one, 3), 3), 0, nil, masked(told(one, 3), 3)},
		{told(one, 1), 1, nil, ended(one, 129)},
		{told(one, 9), 9, nil, ended(one, 137)},
		{told(catches(one, 4), 4, 13, 12), 12, []int{4}, ended(catches(one, 4), 140)},
		{told(catches(one, 4), 4, 9), 9, nil, ended(catches(one, 4), 137)},
		{masked(told(one, 13, 4), 4), 13, nil, ended(masked(one, 4), 141)},
	} {
		s := sess{procs: procs{2: x.p, 5: live(), 4: {State: 1, Parent: 3}, 7: {State: 2, Parent: 3}}, files: files{2: writer(1)}, pipes: rings{1: ends(1, 1)}}
		w := start(t, s)
		w.enter(envSlots + 5)
		if len(x.sigs) > 0 || x.dies > 0 {
			w.picks(2, 0, and(api.Out{Slot: 2}, x.dies, x.sigs...))
		} else {
			w.picks(2, 0)
		}
		w.isAt(5)
		w.has(2, x.then)
		closed := make([]byte, 8)
		child := api.Proc{State: 1}
		ghost := api.Proc{}
		if x.dies == 0 {
			closed, child, ghost = rowOf(writer(1)), api.Proc{State: 1, Parent: 3}, api.Proc{State: 2, Parent: 3}
		}
		if got := w.raw(ours)[208:216]; !bytes.Equal(got, closed) {
			t.Errorf("file 2 is %v, want %v", got, closed)
		}
		w.has(4, child)
		w.has(7, ghost)
		// Each signal is told once.
		if x.dies == 0 && x.then.State == 1 {
			w.picks(2, 0)
		}
		if t.Failed() {
			t.Fatal(x)
		}
	}
}

// halted is p, stopped.
func halted(p api.Proc) api.Proc {
	p.State = api.PStopped
	return p
}

// ended is the zombie that p is then.
func ended(p api.Proc, code int) api.Proc {
	p.State, p.Code, p.Pending, p.Fds = api.PZombie, code, 0, [8]int{}
	return p
}

// Promise 21.3: who dies of each signal has the code 128 and its number; who has no Parent that waits is gone.
func TestDies(t *testing.T) {
	for n := 1; n <= 15; n++ {
		if n == api.SStop || n == api.SCont {
			continue
		}
		for _, parent := range []int{0, 1, 5, 8} {
			w := start(t, sess{procs: procs{3: told(api.Proc{State: 1, Parent: parent}, n), 4: live(), 0: halted(live()), 7: zombie()}})
			w.picks(3, 0, and(api.Out{Slot: 3}, n))
			want := api.Proc{State: 2, Parent: parent, Code: 128 + n}
			if parent == 0 || parent == 8 {
				want = api.Proc{}
			}
			w.has(3, want)
			w.picks(3, 0)
			if w.hosts[3].Start(sys(api.UPid, 0, 0)) {
				t.Error(n, parent)
			}
		}
	}
}

// Promise 21.3: behind a call the end is of the process as the call left it.
func TestEndOfCall(t *testing.T) {
	one := live(0, 2)
	for _, x := range []struct {
		p    api.Proc
		s    api.Sys
		r    api.Ret
		dies int
		sigs []int
		then api.Proc
	}{
		{told(catches(one, 3, 5), 5, 3), sys(api.UGetGroup, 0, 0), api.Ret{}, 0, []int{3, 5}, catches(one, 3, 5)},
		{catches(one, 3), sys(api.UKill, 3, 3), api.Ret{}, 0, []int{3}, catches(one, 3)},
		{one, sys(api.UKill, 3, 3), api.Ret{}, 3, nil, api.Proc{}},
		{one, sys(api.UKill, 3, 14), api.Ret{}, 0, nil, halted(one)},
		{told(one, 3), sys(api.UMask, 1<<3, 0), api.Ret{}, 0, nil, masked(told(one, 3), 3)},
		{masked(told(one, 3), 3), sys(api.UMask, 0, 0), api.Ret{N: 8}, 3, nil, api.Proc{}},
		{told(one, 3), sys(api.USig, 3, 2), api.Ret{}, 0, []int{3}, catches(one, 3)},
		{told(one, 3), sys(api.USig, 3, 3), api.Ret{E: 122}, 3, nil, api.Proc{}},
		{live(0, 3), sys(api.UWrite, 1, 0, 9), api.Ret{E: 132}, 13, nil, api.Proc{}},
		{catches(live(0, 3), 13), sys(api.UWrite, 1, 0, 9), api.Ret{E: 132}, 0, []int{13}, catches(live(0, 3), 13)},
		{told(one, 9), sys(0, 0, 0), api.Ret{E: 122}, 9, nil, api.Proc{}},
		{told(catches(one, 6), 6, 9), sys(api.UExit, 5, 0), api.Ret{}, 0, nil, api.Proc{}},
	} {
		s := reads()
		s.procs[3], s.pipes[2] = x.p, ends(0, 1)
		w := start(t, s)
		w.does(3, x.s, and(returns(3, x.s, x.r), x.dies, x.sigs...))
		w.has(3, x.then)
		w.picks(3, 0)
		if t.Failed() {
			t.Fatal(x)
		}
	}
}

// Promise 21.3: behind UExit there is no end: the code is what it said, though signals were Pending; and who can't be ended is told no signal.
func TestExit(t *testing.T) {
	one := told(catches(api.Proc{State: 1, Parent: 1}, 3), 3, 9)
	w := start(t, sess{procs: procs{3: one, 0: live()}})
	w.does(3, sys(api.UExit, 258, 1), returns(3, sys(api.UExit, 258, 1), api.Ret{}))
	w.has(3, api.Proc{State: 2, Parent: 1, Code: 2, Caught: 8})

	w = start(t, sess{procs: procs{3: one, 0: live()}})
	w.by(3, readsAlone())
	was := w.all()
	w.starts(3, sys(api.UExit, 5, 0))
	w.picks(3, 2)
	w.picks(3, 0, returns(3, sys(api.UExit, 5, 0), api.Ret{E: 105}))
	if is := w.all(); !slices.EqualFunc(is, was, bytes.Equal) {
		t.Errorf("%v, want %v", is, was)
	}
	// Of all else there is an end, though what it sets can't be set.
	w.starts(3, sys(api.UPid, 0, 0))
	w.picks(3, 2)
	w.picks(3, 0, and(returns(3, sys(api.UPid, 0, 0), api.Ret{N: 3}), 9))
}

// readsAlone are the Caps of who may write nothing.
func readsAlone() [regions]api.Cap {
	return [regions]api.Cap{{Rights: api.RRead, N: 492}, {Rights: api.RRead, N: 40}, {Rights: api.RRead, N: 40}}
}

// Promise 21.1: Fresh has the Host be idle, and neither in nor in the queue, whatever it was, with a Commons to which nothing was bad yet; nobody else is held up, and no byte changes.
func TestFresh(t *testing.T) {
	for _, x := range ats() {
		for _, row := range [][]byte{rowOf(live(0, 2)), rowOf(stopped()), rowOf(zombie()), make([]byte, 24), rowOf(api.Proc{})} {
			w := start(t, reads())
			x.goes(w)
			w.lay(aProc(3), row)
			h := w.hosts[3]
			c := h.Commons()
			was := w.all()
			h.Fresh()
			if h.Phase() != 0 || h.Commons() == c || h.Commons() == nil || len(h.Commons().Bad()) > 0 {
				t.Error(h.Phase(), h.Commons().Bad())
			}
			w.isAt(x.left, x.behind...)
			if is := w.all(); !slices.EqualFunc(is, was, bytes.Equal) {
				t.Errorf("%v, want %v", is, was)
			}
			w.lay(aProc(3), rowOf(live(0, 2)))
			w.picks(3, 0)
			w.starts(3, sys(api.UPid, 0, 0))
			w.returnsWithin(3, 5, returns(3, sys(api.UPid, 0, 0), api.Ret{N: 3}))
			if t.Failed() {
				t.Fatal(x.name, row)
			}
		}
	}
}

// Promises 21.1, 21.5: a Host whose environment has no Caps any more reaches nothing, Fresh or not, and panics at nothing.
func TestNoCaps(t *testing.T) {
	for _, x := range ats() {
		w := start(t, reads())
		x.goes(w)
		was := w.all()
		for _, name := range w.k.Space().Names(envSlots + 3) {
			if _, e := w.k.Space().Revoke(envSlots+3, name); e != api.OK {
				t.Fatal(e)
			}
		}
		if x.phase > 0 {
			w.picks(3, 0, returns(3, read(), api.Ret{E: 105}))
		}
		for range 2 {
			h := w.hosts[3]
			if h.Start(read()) || h.Commons() == nil {
				t.Error(x.name)
			}
			w.picks(3, 0)
			w.isAt(x.left, x.behind...)
			if n := len(h.Commons().Bad()); n != 28 {
				t.Error(x.name, n)
			}
			h.Fresh()
		}
		if is := w.all(); !slices.EqualFunc(is, was, bytes.Equal) {
			t.Errorf("%s: %v, want %v", x.name, is, was)
		}
	}
}

// Promises 15.2, 21.1, 21.2: Start and Pick begin with Look, whatever the phase and the slot: what is bad anywhere is bad from then on. Fresh does not.
func TestBeginsWithLook(t *testing.T) {
	for _, x := range ats() {
		for _, row := range [][]byte{rowOf(live(0, 2)), rowOf(stopped()), rowOf(zombie()), make([]byte, 24), rowOf(api.Proc{})} {
			for _, rec := range recs() {
				for n, do := range []func(h *Host){func(h *Host) { h.Start(sys(0, 0, 0)) }, func(h *Host) { h.Pick() }, (*Host).Fresh} {
					w := start(t, reads())
					x.goes(w)
					w.lay(aProc(3), row)
					w.spoil(rec)
					if n == 2 {
						do(w.hosts[3])
						w.spoil(rec)
						w.hosts[3].Commons().Look()
					} else {
						do(w.hosts[3])
						w.spoil(rec)
					}
					bad := w.hosts[3].Commons().Bad()
					known := slices.Contains(bad, rec)
					spoilt := bytes.Equal(row, rowOf(api.Proc{})) && rec == aProc(3)
					if known != (n != 2 || spoilt) {
						t.Fatal(x.name, row, rec, n, bad)
					}
				}
			}
		}
	}
}

// Promise 21.2: a Host of a Sect that its session may not enter wants for good, and Fresh ends that.
func TestMayNotEnter(t *testing.T) {
	w := start(t, reads())
	h, e := New(w.k, envSlots+3, 3, notOurs)
	if e != api.OK {
		t.Fatal(e)
	}
	w.hosts[3] = h
	w.starts(3, sys(api.UPid, 0, 0))
	for range 30 {
		w.k.Tick(lease)
		w.picks(3, 1)
	}
	if l := w.k.Sect(notOurs).Queue(); len(l) > 0 {
		t.Error(l)
	}
	h.Fresh()
	w.picks(3, 0)
}

// Promise 21.1: a Host enters the Sect that New was told, as the environment that New was told, for the slot that New was told.
func TestEachSect(t *testing.T) {
	for _, sec := range []int{section, another} {
		for _, env := range []int{envWild, 1, 4, 8} {
			for slot := range 8 {
				w := start(t, sess{procs: procs{slot: live()}})
				h, e := New(w.k, env, slot, sec)
				if e != api.OK {
					t.Fatal(e)
				}
				w.hosts[slot] = h
				w.starts(slot, sys(api.UPid, 0, 0))
				w.picks(slot, 2)
				for _, x := range []int{notOurs, section, another} {
					who, _, _, ok := w.k.Sect(x).Holder()
					if ok != (x == sec) || ok && who != env {
						t.Error(x, who, ok)
					}
				}
				w.picks(slot, 0, returns(slot, sys(api.UPid, 0, 0), api.Ret{N: slot}))
				if _, _, _, ok := w.k.Sect(sec).Holder(); ok {
					t.Error(sec)
				}
			}
		}
	}
}

// Rule 3: what is handed in is not kept, nor the room behind it touched; what is answered is new memory.
func TestOwnBytes(t *testing.T) {
	s := reads()
	s.procs[3] = told(catches(live(0, 2, 3), 4, 6), 4, 6)
	s.pipes[2] = holds(ends(1, 1), 5, 6)
	w := start(t, s)
	room := run(1, 16)
	write := api.Sys{Op: api.UWrite, A: 2, D: room[4:8:12]}
	w.starts(3, write)
	if !bytes.Equal(room, run(1, 16)) {
		t.Error(room)
	}
	clear(room)
	w.picks(3, 2)
	o, ok := w.hosts[3].Pick()
	want := and(returns(3, sys(api.UWrite, 2, 0, 5, 6, 7, 8), api.Ret{N: 4}), 0, 4, 6)
	if text(o, ok) != text(want, true) || !bytes.Equal(room, make([]byte, 16)) {
		t.Error(text(o, ok), room)
	}
	clear(o.Sys.D[:cap(o.Sys.D)])
	clear(o.Sigs[:cap(o.Sigs)])
	if !bytes.Equal(room, make([]byte, 16)) {
		t.Error(room)
	}
	w.starts(3, sys(api.URead, 1, 3))
	w.picks(3, 2)
	o, ok = w.hosts[3].Pick()
	if want := returns(3, sys(api.URead, 1, 3), api.Ret{N: 3, B: []byte{5, 6, 5}}); text(o, ok) != text(want, true) {
		t.Error(text(o, ok))
	}
	clear(o.B[:cap(o.B)])
	w.does(3, sys(api.URead, 1, 9), returns(3, sys(api.URead, 1, 9), api.Ret{N: 3, B: []byte{6, 7, 8}}))
}

// Rule 3: two that want the same bytes have each their own, and so has each Out of a call that is told as bad.
func TestOwnCalls(t *testing.T) {
	w := start(t, sess{procs: procs{0: live(), 1: live()}})
	d := run(1, 4)
	for i := range 2 {
		w.starts(i, api.Sys{Op: api.UWrite, D: d})
		w.spoil(aProc(i))
	}
	a, _ := w.hosts[0].Pick()
	clear(a.Sys.D[:cap(a.Sys.D)])
	w.picks(1, 0, returns(1, sys(api.UWrite, 0, 0, 1, 2, 3, 4), api.Ret{E: 105}))
	if !bytes.Equal(d, run(1, 4)) {
		t.Error(d)
	}
}

// what tells what a slot is to its Host, and whether there are signals for it.
func what(p *pair, i int) string {
	v, is := pslot.Decode(p.w.raw(ours)[24*i : 24*i+24])
	if is == api.DBad || slices.Contains(p.keepers[i].c.Bad(), aProc(i)) {
		return "bad"
	}
	if is == api.DFree {
		return "free"
	}
	if v.State == api.PLive && v.Pending&^v.Mask != 0 {
		return "told"
	}
	return []string{"", "live", "zombie", "stopped"}[v.State]
}

// befalls has something else befall a session than a Start or a Pick, mostly to slot i.
func befalls(r *rand.Rand, p *pair, i int) {
	n := r.Intn(4)
	switch r.Intn(10) {
	case 0, 1, 2:
		row := rowOf(randomProc(r))
		switch r.Intn(6) {
		case 0:
			row = make([]byte, 24)
		case 1:
			row = rowOf(zombie())
		case 2:
			row = rowOf(stopped(1, 2, 3))
		case 3:
			row = rowOf(api.Proc{})
		}
		p.both(func(w *room) { w.lay(aProc(i), row) })
	case 3:
		x := recs()[r.Intn(28)]
		p.both(func(w *room) { w.spoil(x) })
	case 4:
		at, v := r.Intn(7)-1, randomPipe(r)
		p.both(func(w *room) { w.lay(aPipe(at), rowOf(v)) })
	case 5, 6:
		env := []int{envWild, envWild, envWild, envSlots + i}[n]
		p.both(func(w *room) { w.enter(env) })
	case 7:
		p.both((*room).leave)
	case 8:
		p.fresh(i)
	default:
		p.both(func(w *room) { w.k.Tick([]int{1, 1, 3, lease}[n]) })
	}
}

// Promises 21.1 to 21.4 (W1, W6, W8): sessions at large, beside one who writes anything, and enters: each Start and each Pick is as the chapter says.
func TestAtLarge(t *testing.T) {
	r := rand.New(rand.NewSource(1))
	count := map[string]int{}
	for range 3000 {
		s := random(r)
		if r.Intn(3) > 0 {
			s = tame(r)
		}
		p := twins(t, s)
		if r.Intn(4) == 0 {
			p.by(r.Intn(8), lesser(r))
		}
		i := 0
		for range 60 {
			if r.Intn(3) == 0 {
				i = r.Intn(8)
			}
			goesOn(r, p, i, count)
			if t.Failed() {
				t.FailNow()
			}
		}
	}
	for _, s := range wanted() {
		if count[s] < 10 {
			t.Error(s, count[s])
		}
	}
}

// goesOn has slot i start, or be picked, or something befall it, and counts what was met.
func goesOn(r *rand.Rand, p *pair, i int, count map[string]int) {
	p.w.t.Helper()
	phase := p.keepers[i].phase
	is := fmt.Sprint(what(p, i), " at ", phase)
	if phase > 1 && r.Intn(5) == 0 {
		befalls(r, p, i)
		return
	}
	switch r.Intn(9) {
	case 0, 1, 2:
		s := some(r)
		if r.Intn(2) == 0 {
			s = sys(api.URead, r.Intn(8), 1+r.Intn(32))
		}
		count[fmt.Sprint("Start ", is, " ", p.start(i, s))]++
	case 3:
		befalls(r, p, i)
	default:
		o, ok := p.pick(i)
		count[fmt.Sprint(is, " ", ok, o.Back, p.keepers[i].phase)]++
		if ok && o.Back && o.E == api.OK && o.Sys.Op == api.UFork && r.Intn(4) > 0 {
			p.fresh(o.N)
		}
	}
}

// tame is some session whose processes go on, and mostly read pipes that are empty.
func tame(r *rand.Rand) sess {
	s := sess{procs: procs{}, files: files{}, pipes: rings{}}
	for i := range 8 {
		p := randomProc(r)
		p.State, p.Code, p.Group, p.Fds = api.PLive, 0, 0, [8]int{1, 2, 3, 4, 5, 6, 7, 8}
		s.procs[i] = p
		s.files[i] = reader([]int{tty, 0, 1, 2, 3, 4}[r.Intn(6)])
		if i < 2 {
			s.files[i] = writer(r.Intn(5))
		}
	}
	for i := tty; i < 6; i++ {
		s.pipes[i] = ends(1, 1)
		if r.Intn(3) == 0 {
			s.pipes[i] = randomPipe(r)
		}
	}
	return s
}

// wanted is all that is to be met at large: what a slot is, how far it is, is there an Out, a return, and how far it is then.
func wanted() []string {
	var l []string
	for _, is := range []string{"free", "bad", "zombie", "stopped", "live", "told"} {
		for phase := range 4 {
			ok := phase == 0 && slices.Contains([]string{"stopped", "live", "told"}, is)
			l = append(l, fmt.Sprint("Start ", is, " at ", phase, " ", ok))
		}
	}
	for phase := range 4 {
		l = append(l, fmt.Sprint("free at ", phase, " false false 0"), fmt.Sprint("zombie at ", phase, " false false 0"))
		l = append(l, fmt.Sprint("bad at ", phase, " ", phase > 0, phase > 0, " 0"))
	}
	l = append(l, "stopped at 0 false false 0", "stopped at 1 false false 1", "stopped at 2 false false 1", "stopped at 3 false false 3",
		"live at 0 false false 0", "told at 0 true false 0", "told at 0 false false 0", "live at 3 false false 3", "live at 3 false false 1", "told at 3 true true 0")
	for _, is := range []string{"live", "told"} {
		for _, s := range []string{"1 false false 1", "1 false false 2", "2 false false 1", "2 false false 3", "2 true true 0"} {
			l = append(l, is+" at "+s)
		}
	}
	return l
}

// lesser are Caps of less than all.
func lesser(r *rand.Rand) [regions]api.Cap {
	var caps [regions]api.Cap
	for n := range caps {
		caps[n] = api.Cap{Rights: []int{1, 2, 3, 3, 3, 3}[r.Intn(6)], N: size(n)}
		if r.Intn(3) == 0 {
			caps[n].N = r.Intn(size(n) + 1)
		}
	}
	return caps
}

// Promises 21.1, 21.2, 21.3: whatever of its bytes a Host may reach, each Start and each Pick is as the chapter says.
func TestCaps(t *testing.T) {
	r := rand.New(rand.NewSource(2))
	for range 3000 {
		p := twins(t, random(r))
		i := r.Intn(8)
		p.by(i, lesser(r))
		for range 3 {
			p.start(i, some(r))
			for range 4 {
				p.pick(i)
			}
			if r.Intn(3) == 0 {
				befalls(r, p, i)
			}
		}
		if t.Failed() {
			t.FailNow()
		}
	}
}
