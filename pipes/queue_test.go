package pipes

import (
	"bytes"
	"fmt"
	"math/rand"
	"slices"
	"testing"

	"commonage/api"
	"commonage/audit"
	"commonage/commons"
	"commonage/fds"
	"commonage/proc"
)

// A queue is what flows, as one who knows nothing of records keeps it: all that went in, and how much of it came out.
type queue struct {
	in  []byte
	out int
}

func (q *queue) has() int  { return len(q.in) - q.out }
func (q *queue) room() int { return 32 - q.has() }

// put is the queue's answer to bytes of which as many go in as there is room for.
func (q *queue) put(b []byte) int {
	n := min(len(b), q.room())
	q.in = append(q.in, b[:n]...)
	return n
}

// take is the queue's first bytes, at most n.
func (q *queue) take(n int) []byte {
	n = min(n, q.has())
	b := q.in[q.out : q.out+n]
	q.out += n
	return b
}

// A thing is an open file as the ledger keeps it; descriptors that name the same file have the same pointer.
type thing struct {
	kind, flags int
	q           *queue
}

// A one is a process as the ledger keeps it.
type one struct {
	group  int
	broken bool // has it written where nobody reads?
	open   [8]*thing
}

// A house is a session as the ledger keeps it.
type house struct {
	c     *commons.Commons
	ones  [8]*one
	tty   *queue
	front int
}

// A ledger is two sessions with a bridge each way; it counts bytes, so that each is unlike those around it.
type ledger struct {
	t      *testing.T
	w      *world
	houses [2]*house
	next   byte
	count  map[string]int
}

// begun is two sessions as chapter 22 says that they begin.
func begun(t *testing.T, count map[string]int) *ledger {
	t.Helper()
	w := start(t, sess{procs: procs{0: live(1, 2, 3)}, files: files{0: reader(tty, 0), 1: writer(4, 0), 2: reader(5, 0)}})
	a, b := &queue{}, &queue{}
	l := &ledger{t: t, w: w, count: count}
	for n, qs := range [2][2]*queue{{a, b}, {b, a}} {
		h := &house{tty: &queue{}}
		h.ones[0] = &one{open: [8]*thing{{kind: 3, q: h.tty}, {kind: 2, q: qs[0]}, {kind: 1, q: qs[1]}}}
		l.houses[n] = h
	}
	l.houses[0].c = w.c
	l.houses[1].c = w.another(reader(tty, 0), writer(5, 0), reader(4, 0))
	return l
}

// fresh is n bytes that were not written yet.
func (l *ledger) fresh(n int) []byte {
	b := run(l.next, n)
	l.next += byte(n)
	return b
}

// readers and writers tell whether anybody is left who reads a queue, or writes it.
func (l *ledger) readers(q *queue) bool { return l.anybody(q, 1) }
func (l *ledger) writers(q *queue) bool { return l.anybody(q, 2) }

func (l *ledger) anybody(q *queue, kind int) bool {
	for _, h := range l.houses {
		for _, p := range h.ones {
			if p != nil && slices.ContainsFunc(p.open[:], func(x *thing) bool { return x != nil && x.q == q && x.kind == kind }) {
				return true
			}
		}
	}
	return false
}

// living are those who are there, rising.
func (h *house) living() []int {
	var all []int
	for i, p := range h.ones {
		if p != nil {
			all = append(all, i)
		}
	}
	return all
}

// names is what a descriptor names, nothing if there is no such one.
func (p *one) names(fd int) *thing {
	if fd < 0 || fd > 7 {
		return nil
	}
	return p.open[fd]
}

// reads is what one who reads must be told.
func (l *ledger) reads(h *house, p *one, fd, n int) api.Ret {
	x := p.names(fd)
	switch {
	case x == nil || x.kind == 2:
		return fails(api.EBADF)
	case n < 0 || n > 32:
		return fails(api.EINVAL)
	case x.kind == 3 && p.group != h.front:
		return fails(api.ENOTTY)
	case n == 0:
		return api.Ret{}
	case x.q.has() > 0:
		return told(x.q.take(n))
	case x.kind == 1 && !l.writers(x.q):
		return api.Ret{}
	case x.flags == 1:
		return fails(api.EAGAIN)
	}
	return blocks()
}

// writes is what one who writes must be told.
func (l *ledger) writes(p *one, fd int, b []byte) api.Ret {
	x := p.names(fd)
	switch {
	case x == nil || x.kind != 2:
		return fails(api.EBADF)
	case len(b) > 32:
		return fails(api.EINVAL)
	case len(b) == 0:
		return api.Ret{}
	case !l.readers(x.q):
		p.broken = true
		return fails(api.EPIPE)
	case len(b) <= 8 && x.q.room() >= len(b), len(b) > 8 && x.q.room() > 0:
		return api.Ret{N: x.q.put(b)}
	case x.flags == 1:
		return fails(api.EAGAIN)
	}
	return blocks()
}

// fronts is what one who sets the front group must be told.
func (h *house) fronts(p *one, g int) api.Ret {
	if g < 0 || g > 7 {
		return fails(api.EINVAL)
	}
	if p.group != h.front || !slices.ContainsFunc(h.ones[:], func(o *one) bool { return o != nil && o.group == g }) {
		return fails(api.EPERM)
	}
	h.front = g
	return api.Ret{}
}

// some is a descriptor at large, mostly one that may be read or written.
func (p *one) some(r *rand.Rand, op int) int {
	var fit []int
	for fd, x := range p.open {
		if x != nil && (x.kind == 2) == (op == write) {
			fit = append(fit, fd)
		}
	}
	if len(fit) == 0 || r.Intn(6) == 0 {
		return r.Intn(10) - 1
	}
	return fit[r.Intn(len(fit))]
}

// flows has process i do a call of this layer, and holds its answer against the ledger's.
func (l *ledger) flows(r *rand.Rand, h *house, i int) {
	p := h.ones[i]
	var got, want api.Ret
	op := []int{read, read, read, write, write, write, write, front, types}[r.Intn(9)]
	fd := p.some(r, op)
	switch op {
	case read:
		n := []int{r.Intn(34), r.Intn(9), 32, -r.Intn(2)}[r.Intn(4)]
		got, want = Read(h.c, i, fd, n), l.reads(h, p, fd, n)
	case write:
		b := l.fresh([]int{r.Intn(34), r.Intn(9), r.Intn(9), 32}[r.Intn(4)])
		got, want = Write(h.c, i, fd, b), l.writes(p, fd, b)
	case front:
		g := r.Intn(9)
		got, want = Front(h.c, i, g), h.fronts(p, g)
	case types:
		b := l.fresh(r.Intn(20))
		got, want = api.Ret{N: Type(h.c, b)}, api.Ret{N: h.tty.put(b)}
	}
	if text(got) != text(want) {
		l.t.Errorf("call %d of %d is told %s, want %s", op, i, text(got), text(want))
	}
	l.count[fmt.Sprint(op, " ", int(got.E), " ", got.Block, " ", got.N > 0)]++
}

// begets has process i do a call of a layer below, and enters what came of it.
func (l *ledger) begets(r *rand.Rand, h *house, i int) {
	p, fd, to := h.ones[i], r.Intn(8), r.Intn(8)
	switch []int{0, 0, 0, 1, 2, 2, 2, 2, 3, 3, 4, 5, 5, 6}[r.Intn(14)] {
	case 0:
		if got := proc.Fork(h.c, i); got.E == api.OK {
			child := *p
			child.broken = false
			h.ones[got.N] = &child
		}
	case 1:
		// The last one of a session ends seldom, so that much befalls it.
		if len(h.living()) == 1 && r.Intn(20) > 0 {
			return
		}
		if got := proc.Exit(h.c, i, 0); got.E != api.OK {
			l.t.Error(got)
		}
		h.ones[i] = nil
		for _, other := range h.living() {
			proc.Wait(h.c, other)
		}
	case 2:
		if got := fds.Pipe(h.c, i); got.E == api.OK {
			q := &queue{}
			p.open[got.N%16], p.open[got.N/16] = &thing{kind: 1, q: q}, &thing{kind: 2, q: q}
		}
	case 3:
		if got := fds.Close(h.c, i, fd); got.E == api.OK {
			p.open[fd] = nil
		}
	case 4:
		if got := fds.Dup2(h.c, i, fd, to); got.E == api.OK {
			p.open[to] = p.open[fd]
		}
	case 5:
		if got := fds.Now(h.c, i, fd, to%2); got.E == api.OK {
			p.open[fd].flags = to % 2
		}
	case 6:
		if got := proc.Group(h.c, i, i, to); got.E == api.OK {
			p.group = to
		}
	}
}

// isSound fails unless all is sound, and each process has SPipe Pending just if it wrote where nobody reads.
func (l *ledger) isSound() {
	l.t.Helper()
	for n, h := range l.houses {
		if faults := audit.Faults(l.w.raw(n)); len(faults) > 0 || len(h.c.Bad()) > 0 {
			l.t.Error(n, faults, h.c.Bad())
		}
		for i, o := range h.ones {
			p, is := h.c.Proc(i)
			if o == nil {
				continue
			}
			want := 0
			if o.broken {
				want = 1 << 13
			}
			if is != api.DGood || p.Pending != want || p.Group != o.group {
				l.t.Error(n, i, p, is, *o)
			}
		}
	}
}

// Promise 19.4 (W1, W4): honest ones of two sessions: each pipe, each bridge and each terminal is a queue of 32 bytes, and all is sound all the time.
func TestHonest(t *testing.T) {
	r := rand.New(rand.NewSource(4))
	count := map[string]int{}
	for range 200 {
		l := begun(t, count)
		for range 300 {
			h := l.houses[r.Intn(2)]
			all := h.living()
			if len(all) == 0 {
				continue
			}
			i := all[r.Intn(len(all))]
			if r.Intn(6) == 0 {
				l.begets(r, h, i)
			} else {
				l.flows(r, h, i)
			}
			l.isSound()
			if t.Failed() {
				t.FailNow()
			}
		}
	}
	for _, want := range []string{
		"0 0 false false", "0 0 false true", "0 0 true false", "0 109 false false", "0 111 false false", "0 122 false false", "0 125 false false",
		"1 0 false false", "1 0 false true", "1 0 true false", "1 109 false false", "1 111 false false", "1 122 false false", "1 132 false false",
		"2 0 false false", "2 101 false false", "2 122 false false", "3 0 false false", "3 0 false true",
	} {
		if count[want] < 20 {
			t.Error(want, count)
		}
	}
}

// Promise 19.4 (W4): small writes are whole: of several who write messages of at most 8 bytes to one pipe each comes out in one piece.
func TestSmallWritesAreWhole(t *testing.T) {
	r := rand.New(rand.NewSource(5))
	for _, at := range written() {
		s := sess{procs: procs{0: live(1), 1: live(2), 2: live(2), 3: live(3), 4: live(2)}, files: files{0: reader(at, 0), 1: writer(at, 0), 2: writer(at, 1)}, pipes: rings{at: ends(1, 2)}}
		w := start(t, s)
		var came []byte
		sent := map[byte][][]byte{}
		for range 3000 {
			if i := r.Intn(6); i > 0 && i < 5 {
				// A message tells how long it is and whose, then a number that rises.
				n := 3 + r.Intn(6)
				m := append([]byte{byte(n), byte(i)}, bytes.Repeat([]byte{byte(len(sent[byte(i)]))}, n-2)...)
				switch got := Write(w.c, i, 0, m); {
				case got.N == n && got.E == api.OK && !got.Block:
					sent[byte(i)] = append(sent[byte(i)], m)
				case got.N != 0 || got.Block == (got.E == api.EAGAIN):
					t.Fatal(i, m, got)
				}
				continue
			}
			came = append(came, Read(w.c, 0, 0, r.Intn(33)).B...)
		}
		came = append(came, Read(w.c, 0, 0, 32).B...)
		for len(came) > 0 {
			n, i := int(came[0]), came[1]
			if n > len(came) || len(sent[i]) == 0 || !bytes.Equal(came[:n], sent[i][0]) {
				t.Fatal(at, came, sent[i])
			}
			came, sent[i] = came[n:], sent[i][1:]
		}
		for i, l := range sent {
			if len(l) > 0 {
				t.Error(at, i, l)
			}
		}
	}
}

// Promise 19.4 (W4): the end of a pipe is seen when all writers are gone, and it is empty; from then on it is seen by each Read.
func TestEnd(t *testing.T) {
	w := start(t, sess{procs: procs{0: live()}})
	is := func(got api.Ret, want api.Ret) {
		t.Helper()
		if text(got) != text(want) {
			t.Errorf("is told %s, want %s", text(got), text(want))
		}
	}
	is(fds.Pipe(w.c, 0), api.Ret{N: 16})
	is(proc.Fork(w.c, 0), api.Ret{N: 1})
	is(proc.Fork(w.c, 0), api.Ret{N: 2})
	is(fds.Close(w.c, 0, 1), api.Ret{})
	is(Write(w.c, 1, 1, run(1, 8)), api.Ret{N: 8})
	is(Write(w.c, 2, 1, run(9, 2)), api.Ret{N: 2})
	is(proc.Exit(w.c, 1, 0), api.Ret{})
	is(Read(w.c, 0, 0, 4), told(run(1, 4)))
	is(Read(w.c, 0, 0, 32), told(run(5, 6)))
	is(Read(w.c, 0, 0, 32), blocks())
	is(Write(w.c, 2, 1, run(11, 20)), api.Ret{N: 20})
	is(fds.Dup(w.c, 2, 1), api.Ret{N: 2})
	is(fds.Close(w.c, 2, 1), api.Ret{})
	is(Read(w.c, 0, 0, 19), told(run(11, 19)))
	is(proc.Exit(w.c, 2, 0), api.Ret{})
	is(Read(w.c, 0, 0, 32), told(run(30, 1)))
	for n := range 33 {
		is(Read(w.c, 0, 0, n), api.Ret{})
	}
	is(fds.Now(w.c, 0, 0, 1), api.Ret{})
	is(Read(w.c, 0, 0, 1), api.Ret{})
}

// Promise 19.4 (W4): who writes where all readers are gone is told so, whether or not there are bytes that nobody took.
func TestNobodyReads(t *testing.T) {
	for _, n := range []int{0, 5, 32} {
		w := start(t, sess{procs: procs{0: live()}})
		fds.Pipe(w.c, 0)
		proc.Fork(w.c, 0)
		fds.Close(w.c, 0, 0)
		w.asks(ask{op: write, fd: 1, b: run(1, n)}, api.Ret{N: n})
		if r := proc.Exit(w.c, 1, 0); r.E != api.OK {
			t.Error(r)
		}
		w.asks(ask{op: write, fd: 1, b: run(1, 1)}, api.Ret{E: api.EPIPE})
		if p, e := proc.Self(w.c, 0); p.Pending != 1<<13 || e != api.OK {
			t.Error(p, e)
		}
		if r := fds.Close(w.c, 0, 1); r.E != api.OK {
			t.Error(r)
		}
		if p, is := w.c.Pipe(0); is != api.DFree {
			t.Error(p, is)
		}
	}
}

// Promise 19.4 (W4): a bridge ends for the other session, too: for who reads, and for who writes.
func TestBridgeEnds(t *testing.T) {
	w := start(t, sess{procs: procs{0: live(1, 2)}, files: files{0: writer(4, 0), 1: reader(5, 0)}})
	d := w.another(reader(4, 0), writer(5, 0))
	w.asks(ask{op: write, b: run(1, 3)}, api.Ret{N: 3})
	for _, fd := range []int{0, 1} {
		if r := fds.Close(w.c, 0, fd); r.E != api.OK {
			t.Error(r)
		}
	}
	if r := Read(d, 0, 0, 32); text(r) != text(told(run(1, 3))) {
		t.Error(r)
	}
	if r := Read(d, 0, 0, 32); text(r) != text(api.Ret{}) {
		t.Error(r)
	}
	if r := Write(d, 0, 1, run(1, 3)); text(r) != text(api.Ret{E: api.EPIPE}) {
		t.Error(r)
	}
	if p, e := proc.Self(d, 0); p.Pending != 1<<13 || e != api.OK {
		t.Error(p, e)
	}
	if p, e := proc.Self(w.c, 0); p.Pending != 0 || e != api.OK {
		t.Error(p, e)
	}
}
