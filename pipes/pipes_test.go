package pipes

import (
	"bytes"
	"fmt"
	"math/rand"
	"slices"
	"testing"

	"commonage/api"
	"commonage/commons"
)

// told is what a call answers that moved these bytes out.
func told(b []byte) api.Ret { return api.Ret{N: len(b), B: b} }

// blocks is what a call answers that can't be done now.
func blocks() api.Ret { return api.Ret{Block: true} }

// flows are all that may be read: the terminal, the session's pipes, and the bridges.
func flows() []int { return []int{tty, 0, 1, 2, 3, 4, 5} }

// written are those that may be written, too.
func written() []int { return flows()[1:] }

// reading is a session whose process 6 reads p by descriptor 5, which names file 8.
func reading(at int, p api.Pipe, flags int) sess {
	return sess{procs: procs{6: in(2, live(0, 0, 0, 0, 0, 9)), 0: live()}, files: files{8: reader(at, flags)}, pipes: rings{at: p}, front: 2}
}

// writing is a session whose process 6 writes p by descriptor 5, which names file 8.
func writing(at int, p api.Pipe, flags int) sess {
	return sess{procs: procs{6: in(2, live(0, 0, 0, 0, 0, 9)), 0: live()}, files: files{8: writer(at, flags)}, pipes: rings{at: p}, front: 2}
}

// with is s with another pipe.
func (s sess) with(at int, p api.Pipe) sess {
	s.pipes = rings{at: p}
	return s
}

// Promises 19.1, 19.2: the chapter's example.
func TestExample(t *testing.T) {
	w := start(t, sess{procs: procs{0: live(1, 2)}, files: files{0: reader(0, 0), 1: writer(0, 0)}, pipes: rings{0: ends(1, 1)}})
	w.asks(ask{op: write, fd: 1, b: []byte{5, 6, 7}}, api.Ret{N: 3})
	w.asks(ask{op: read, fd: 0, n: 8}, told([]byte{5, 6, 7}))
}

// Promises 19.1, 19.2: errors, limits and kinds have the document's numbers.
func TestNumbers(t *testing.T) {
	if got := [...]api.Errno{api.EPERM, api.EIO, api.EBADF, api.EAGAIN, api.EINVAL, api.ENOTTY, api.EPIPE}; got != [...]api.Errno{101, 105, 109, 111, 122, 125, 132} {
		t.Error(got)
	}
	if got := [...]int{api.PipeCap, api.PipeBuf, api.SPipe, api.FNow, api.FRead, api.FWrite, api.FTerm}; got != [...]int{32, 8, 13, 1, 1, 2, 3} {
		t.Error(got)
	}
}

// Promise 19.1: of what has bytes the first ones, at most n, come out in order, wherever they lie; what is left stays in its place, and so does all else.
func TestRead(t *testing.T) {
	for _, at := range flows() {
		for head := range 32 {
			for _, count := range []int{1, 2, 7, 31, 32} {
				all := run(1, count)
				p := holds(ends(head%9, 1+count%8), head, all...)
				for _, n := range []int{1, 2, 6, 8, 30, 31, 32} {
					s := reading(at, p, n%2)
					w := start(t, s)
					gone := min(n, count)
					w.asks(ask{op: read, i: 6, fd: 5, n: n}, told(all[:gone]))
					left := p
					left.Head, left.Count = (head+gone)%32, count-gone
					w.has(s.with(at, left))
				}
			}
		}
	}
}

// Promise 19.1: bytes come out even if there is no writer any more, or no reader told of, and even of one that never waits.
func TestReadWithoutEnds(t *testing.T) {
	for _, at := range flows() {
		for flags := range 2 {
			for _, p := range []api.Pipe{ends(0, 0), ends(1, 0), ends(0, 1), ends(8, 8)} {
				w := start(t, reading(at, holds(p, 30, 1, 2, 3), flags))
				w.asks(ask{op: read, i: 6, fd: 5, n: 2}, told([]byte{1, 2}))
				w.asks(ask{op: read, i: 6, fd: 5, n: 2}, told([]byte{3}))
			}
		}
	}
}

// Promise 19.1: what is empty is at its end, if it is a pipe without Writers; else one waits, or is told EAGAIN. The terminal has no end. Nothing changes.
func TestReadEmpty(t *testing.T) {
	for _, at := range flows() {
		for flags := range 2 {
			for writers := range 9 {
				for n := 1; n <= 32; n++ {
					s := reading(at, holds(ends(n%9, writers), n%32), flags)
					w := start(t, s)
					want := blocks()
					switch {
					case at != tty && writers == 0:
						want = api.Ret{}
					case flags == 1:
						want = api.Ret{E: api.EAGAIN}
					}
					w.leaves(ask{op: read, i: 6, fd: 5, n: n}, want)
					w.has(s)
				}
			}
		}
	}
}

// Promise 19.1: no bytes are there to be had of whatever it is, be it full, empty, at its end, free or bad.
func TestReadNone(t *testing.T) {
	for _, at := range flows() {
		for flags := range 2 {
			for _, p := range []api.Pipe{ends(1, 1), ends(1, 0), holds(ends(1, 1), 3, 1, 2), {}} {
				s := reading(at, p, flags)
				w := start(t, s)
				w.leaves(ask{op: read, i: 6, fd: 5}, api.Ret{})
				w.has(s)
				w.blank(aPipe(at))
				w.leaves(ask{op: read, i: 6, fd: 5}, api.Ret{})
			}
		}
	}
	for _, none := range []int{6, 7} {
		w := start(t, reading(none, ends(1, 1), 0))
		w.leaves(ask{op: read, i: 6, fd: 5}, api.Ret{})
	}
}

// Promise 19.1: just who is of the front group reads the terminal, even no bytes of it; pipes are read by all.
func TestReadTerm(t *testing.T) {
	for group := range 8 {
		for front := range 8 {
			s := sess{procs: procs{3: in(group, live(1, 2))}, files: files{0: reader(tty, 0), 1: reader(0, 0)}, pipes: rings{tty: holds(ends(1, 1), 31, 4, 5), 0: holds(ends(1, 1), 0, 7)}, front: front}
			w := start(t, s)
			w.asks(ask{op: read, i: 3, fd: 1, n: 1}, told([]byte{7}))
			s.pipes[0] = api.Pipe{Head: 1, Readers: 1, Writers: 1, Data: s.pipes[0].Data}
			if group != front {
				for n := range 33 {
					w.refuses(ask{op: read, i: 3, n: n}, api.ENOTTY)
				}
				w.has(s)
				continue
			}
			w.leaves(ask{op: read, i: 3}, api.Ret{})
			w.asks(ask{op: read, i: 3, n: 1}, told([]byte{4}))
			w.asks(ask{op: read, i: 3, n: 32}, told([]byte{5}))
			w.leaves(ask{op: read, i: 3, n: 32}, blocks())
		}
	}
}

// Promise 19.1: where nothing tells which the front group is, the terminal is EIO to all, even of no bytes; pipes are as they were.
func TestReadBadFront(t *testing.T) {
	s := sess{procs: procs{0: in(7, live(1, 2)), 1: live(1)}, files: files{0: reader(tty, 0), 1: reader(4, 0)}, pipes: rings{tty: holds(ends(1, 1), 31, 4, 5), 4: holds(ends(1, 1), 0, 7)}, front: -1}
	w := start(t, s)
	for n := range 33 {
		w.refuses(ask{op: read, n: n}, api.EIO)
		w.refuses(ask{op: read, i: 1, n: n}, api.EIO)
	}
	w.has(s)
	w.isBad(theFront)
	w.asks(ask{op: read, fd: 1, n: 9}, told([]byte{7}))
}

// Promise 19.1: what is bad, free, or a pipe that is none is EIO of any bytes.
func TestReadBadPipe(t *testing.T) {
	for _, at := range flows() {
		for flags := range 2 {
			bad, free := start(t, reading(at, api.Pipe{}, flags)), start(t, reading(at, ends(1, 1), flags))
			free.blank(aPipe(at))
			for n := 1; n <= 32; n++ {
				bad.refuses(ask{op: read, i: 6, fd: 5, n: n}, api.EIO)
				free.refuses(ask{op: read, i: 6, fd: 5, n: n}, api.EIO)
			}
			bad.isBad(aPipe(at))
			free.isBad()
		}
	}
	for _, none := range []int{6, 7} {
		w := start(t, sess{procs: procs{0: live(1)}, files: files{0: reader(none, 0)}})
		w.refuses(ask{op: read, n: 1}, api.EIO)
		w.isBad()
	}
}

// Promise 19.1: a Read's errors in the order of the sentence.
func TestReadRefuses(t *testing.T) {
	s := sess{
		procs: procs{0: in(1, live(1, 2, 3, 4, 0, 12)), 1: zombie(1), 2: stopped(1), 3: {}},
		files: files{0: reader(tty, 0), 1: writer(0, 1), 2: reader(1, 0), 3: {}},
		pipes: rings{tty: {}, 0: holds(ends(1, 1), 0, 1), 1: {}},
		front: 0,
	}
	w := start(t, s)
	for _, n := range wild {
		for fd, e := range map[int]api.Errno{-1: api.EBADF, 1: api.EBADF, 3: api.EIO, 4: api.EBADF, 5: api.EIO, 7: api.EBADF, 8: api.EBADF} {
			w.refuses(ask{op: read, fd: fd, n: n}, e)
		}
		if n < 0 || n > 7 {
			w.refuses(ask{op: read, fd: n, n: n}, api.EBADF)
		}
		if n != 0 {
			w.refuses(ask{op: read, i: n, fd: 9, n: n}, api.EIO)
			w.refuses(ask{op: read, i: n, fd: 0, n: 1}, api.EIO)
		}
		switch {
		case n < 0 || n > 32:
			w.refuses(ask{op: read, n: n}, api.EINVAL)
			w.refuses(ask{op: read, fd: 2, n: n}, api.EINVAL)
		case n > 0:
			w.refuses(ask{op: read, n: n}, api.ENOTTY)
			w.refuses(ask{op: read, fd: 2, n: n}, api.EIO)
		default:
			w.refuses(ask{op: read, n: n}, api.ENOTTY)
			w.leaves(ask{op: read, fd: 2, n: n}, api.Ret{})
		}
	}
	w.has(s)
	w = start(t, sess{procs: procs{0: live(1)}, files: files{0: reader(tty, 0)}, front: -1})
	w.refuses(ask{op: read, n: 33}, api.EINVAL)
	w.refuses(ask{op: read, n: -1}, api.EINVAL)
}

// Promises 19.2, 19.4 (W4): at most 8 bytes go in all or not at all; of more go in as many as there is room for. They come behind what is there, wherever that lies, and all else stays.
func TestWrite(t *testing.T) {
	for _, at := range written() {
		for head := range 32 {
			for _, count := range []int{0, 1, 23, 24, 25, 31, 32} {
				p := holds(ends(1+head%8, count%9), head, run(1, count)...)
				for _, n := range []int{1, 2, 7, 8, 9, 10, 31, 32} {
					s := writing(at, p, n%2)
					w := start(t, s)
					b, room := run(100, n), 32-count
					x := ask{op: write, i: 6, fd: 5, b: b}
					if n <= 8 && room < n || room == 0 {
						w.leaves(x, []api.Ret{blocks(), {E: api.EAGAIN}}[n%2])
						w.has(s)
						continue
					}
					in := min(n, room)
					w.asks(x, api.Ret{N: in})
					full := p
					full.Count += in
					for i, x := range b[:in] {
						full.Data[(head+count+i)%32] = x
					}
					w.has(s.with(at, full))
				}
			}
		}
	}
}

// Promise 19.2: each number of bytes beside each number that are there.
func TestWriteRoom(t *testing.T) {
	for count := range 33 {
		for n := range 33 {
			for flags := range 2 {
				w := start(t, writing(0, holds(ends(1, 1), 17, run(1, count)...), flags))
				want := api.Ret{N: min(n, 32-count)}
				if n > 0 && want.N == 0 || n <= 8 && want.N < n {
					want = []api.Ret{blocks(), {E: api.EAGAIN}}[flags]
				}
				w.asks(ask{op: write, i: 6, fd: 5, b: run(100, n)}, want)
			}
		}
	}
}

// Promise 19.2: no bytes go into whatever it is, be it full, without Readers, free or bad, and nothing is raised.
func TestWriteNone(t *testing.T) {
	for _, at := range written() {
		for flags := range 2 {
			for _, p := range []api.Pipe{ends(1, 1), ends(0, 1), holds(ends(1, 1), 3, run(1, 32)...), {}} {
				s := writing(at, p, flags)
				w := start(t, s)
				w.leaves(ask{op: write, i: 6, fd: 5}, api.Ret{})
				w.leaves(ask{op: write, i: 6, fd: 5, b: []byte{}}, api.Ret{})
				w.has(s)
				w.blank(aPipe(at))
				w.leaves(ask{op: write, i: 6, fd: 5}, api.Ret{})
			}
		}
	}
	for _, none := range []int{6, 7} {
		w := start(t, writing(none, ends(1, 1), 0))
		w.leaves(ask{op: write, i: 6, fd: 5}, api.Ret{})
	}
}

// Promise 19.2: what is bad, free, or a pipe that is none is EIO of any bytes, and nothing is raised.
func TestWriteBadPipe(t *testing.T) {
	for _, at := range written() {
		for flags := range 2 {
			bad, free := start(t, writing(at, api.Pipe{}, flags)), start(t, writing(at, ends(1, 1), flags))
			free.blank(aPipe(at))
			for n := 1; n <= 32; n++ {
				bad.refuses(ask{op: write, i: 6, fd: 5, b: run(1, n)}, api.EIO)
				free.refuses(ask{op: write, i: 6, fd: 5, b: run(1, n)}, api.EIO)
			}
			bad.isBad(aPipe(at))
			free.isBad()
		}
	}
	for _, none := range []int{6, 7} {
		w := start(t, sess{procs: procs{0: live(1)}, files: files{0: writer(none, 0)}})
		w.refuses(ask{op: write, b: []byte{1}}, api.EIO)
		w.isBad()
	}
}

// Promise 19.2: without Readers it is EPIPE, and SPipe is raised in the one who writes, whether there is room or not; all else stays.
func TestWriteBroken(t *testing.T) {
	for _, at := range written() {
		for flags := range 2 {
			for _, count := range []int{0, 3, 32} {
				for _, n := range []int{1, 8, 9, 32} {
					s := writing(at, holds(ends(0, n%9), 3, run(1, count)...), flags)
					s.procs[0] = live(9)
					w := start(t, s)
					for range 2 {
						w.asks(ask{op: write, i: 6, fd: 5, b: run(100, n)}, api.Ret{E: api.EPIPE})
						p := in(2, live(0, 0, 0, 0, 0, 9))
						p.Pending = 1 << 13
						s.procs[6] = p
						w.has(s)
					}
				}
			}
		}
	}
}

// Promise 19.2: SPipe is raised as sig says, beside what is Pending: of one who ignores it it is not Pending, but EPIPE all the same.
func TestWriteRaises(t *testing.T) {
	for _, x := range []struct{ pending, mask, ignored, caught, want int }{
		{1<<3 | 1<<9 | 1<<15, 1 << 13, 1 << 2, 1 << 15, 1<<3 | 1<<9 | 1<<13 | 1<<15},
		{1 << 13, 0, 0, 1 << 13, 1 << 13},
		{1 << 14, 0, 1<<13 | 1<<4, 0, 1 << 14},
		{0, 1<<13 | 1<<1, 1 << 13, 0, 0},
		{0, 0, 0, 1 << 13, 1 << 13},
	} {
		p := api.Proc{State: 1, Parent: 4, Group: 7, Pending: x.pending, Mask: x.mask, Ignored: x.ignored, Caught: x.caught, Fds: [8]int{2, 1, 12}}
		s := sess{procs: procs{5: p, 1: in(7, live(1))}, files: files{0: writer(4, 1)}, pipes: rings{4: ends(0, 2)}}
		w := start(t, s)
		w.asks(ask{op: write, i: 5, fd: 1, b: []byte{1}}, api.Ret{E: api.EPIPE})
		p.Pending = x.want
		s.procs[5] = p
		w.has(s)
	}
}

// Promise 19.2: a Write's errors in the order of the sentence.
func TestWriteRefuses(t *testing.T) {
	s := sess{
		procs: procs{0: live(1, 2, 3, 4, 0, 12, 5), 1: zombie(1), 2: stopped(1), 3: {}},
		files: files{0: reader(tty, 0), 1: reader(0, 0), 2: writer(1, 0), 3: {}, 4: writer(2, 1)},
		pipes: rings{0: ends(1, 1), 1: {}, 2: ends(0, 1)},
	}
	w := start(t, s)
	for _, n := range []int{0, 1, 8, 9, 32, 33, 34, 40, 64, 255, 256, 257, 65536 + 8, 1 << 20} {
		b := make([]byte, n)
		for fd, e := range map[int]api.Errno{-1: api.EBADF, 0: api.EBADF, 1: api.EBADF, 3: api.EIO, 4: api.EBADF, 5: api.EIO, 7: api.EBADF, 8: api.EBADF} {
			w.refuses(ask{op: write, fd: fd, b: b}, e)
		}
		for _, i := range []int{-1, 1, 2, 3, 4, 8} {
			w.refuses(ask{op: write, i: i, fd: 2, b: b}, api.EIO)
			w.refuses(ask{op: write, i: i, fd: 9, b: b}, api.EIO)
		}
		switch {
		case n > 32:
			w.refuses(ask{op: write, fd: 2, b: b}, api.EINVAL)
			w.refuses(ask{op: write, fd: 6, b: b}, api.EINVAL)
		case n > 0:
			w.refuses(ask{op: write, fd: 2, b: b}, api.EIO)
		default:
			w.leaves(ask{op: write, fd: 2, b: b}, api.Ret{})
		}
	}
	for _, n := range wild {
		if n < 0 || n > 7 {
			w.refuses(ask{op: write, fd: n, b: []byte{1}}, api.EBADF)
		}
		if n != 0 {
			w.refuses(ask{op: write, i: n, fd: 2, b: []byte{1}}, api.EIO)
		}
	}
	w.has(s)
}

// Promise 19.2: the front group is g, if the process is of the one that was, and somebody is of g who has not ended; nothing else changes.
func TestFront(t *testing.T) {
	for was := range 8 {
		for group := range 8 {
			for g := range 8 {
				s := sess{procs: procs{4: in(group, live()), 0: in(6, live()), 1: stopped(5), 2: zombie(3), 3: {}, 7: in(1, live())}, front: was}
				w := start(t, s)
				if group != was || !slices.Contains([]int{group, 1, 5, 6}, g) {
					w.refuses(ask{op: front, i: 4, n: g}, api.EPERM)
					w.has(s)
					continue
				}
				w.asks(ask{op: front, i: 4, n: g}, api.Ret{})
				s.front = g
				w.has(s)
			}
		}
	}
}

// Promise 19.2: each slot counts as one of its group, whichever it is.
func TestFrontSlots(t *testing.T) {
	for i := range 8 {
		for other := range 8 {
			if i == other {
				continue
			}
			for g := 1; g < 8; g++ {
				w := start(t, sess{procs: procs{i: live(), other: in(g, live())}})
				w.asks(ask{op: front, i: i, n: g}, api.Ret{})
				w.refuses(ask{op: front, i: i, n: 0}, api.EPERM)
				w.asks(ask{op: front, i: other, n: g}, api.Ret{})
				w.refuses(ask{op: front, i: other, n: 1 + g%7}, api.EPERM)
				w.asks(ask{op: front, i: other, n: 0}, api.Ret{})
			}
		}
	}
}

// Promise 19.2: a Front's errors in the order of the sentence.
func TestFrontRefuses(t *testing.T) {
	s := sess{procs: procs{0: in(3, live()), 1: in(2, live()), 2: stopped(3), 4: zombie(3), 5: {}}, front: 3}
	w := start(t, s)
	for _, n := range wild {
		if n < 0 || n > 7 {
			w.refuses(ask{op: front, n: n}, api.EINVAL)
			w.refuses(ask{op: front, i: 1, n: n}, api.EINVAL)
		}
		if n != 0 && n != 1 {
			for _, g := range []int{3, 2, 0, 8, -1, n} {
				w.refuses(ask{op: front, i: n, n: g}, api.EIO)
			}
		}
	}
	w.refuses(ask{op: front, i: 1, n: 3}, api.EPERM)
	w.refuses(ask{op: front, i: 1, n: 2}, api.EPERM)
	w.refuses(ask{op: front, n: 0}, api.EPERM)
	w.has(s)
	s.front = -1
	w = start(t, s)
	for g := range 8 {
		w.refuses(ask{op: front, n: g}, api.EIO)
		w.refuses(ask{op: front, i: 1, n: g}, api.EIO)
	}
	w.refuses(ask{op: front, n: 8}, api.EINVAL)
	w.has(s)
}

// Promise 19.2: as many bytes as there is room for go into the terminal, whatever ends are told of, behind what it has; all else stays.
func TestType(t *testing.T) {
	for head := range 32 {
		for _, count := range []int{0, 1, 24, 25, 31, 32} {
			for _, n := range []int{0, 1, 7, 8, 9, 31, 32, 33, 64, 500} {
				p := holds(ends(head%9, n%9), head, run(1, count)...)
				if p == (api.Pipe{}) {
					t.Fatal(p)
				}
				s := sess{procs: procs{0: live(1)}, files: files{0: reader(tty, 1)}, pipes: rings{tty: p}, front: 4}
				w := start(t, s)
				b := run(100, n)
				in := min(n, 32-count)
				w.asks(ask{op: types, b: b}, api.Ret{N: in})
				p.Count += in
				for i, x := range b[:in] {
					p.Data[(head+count+i)%32] = x
				}
				w.has(s.with(tty, p))
			}
		}
	}
}

// Promise 19.2: nothing goes into a terminal that is bad or free, nor into one that can't be set.
func TestTypeNot(t *testing.T) {
	bad, free := start(t, sess{pipes: rings{tty: {}}}), start(t, sess{})
	free.blank(aPipe(tty))
	alone := start(t, sess{}).by([3]api.Cap{{Rights: api.RRead, N: 492}, {Rights: rw, N: 40}, {Rights: rw, N: 40}})
	for n := range 40 {
		for _, w := range []*world{bad, free, alone} {
			w.leaves(ask{op: types, b: run(1, n)}, api.Ret{})
		}
	}
	bad.isBad(aPipe(tty))
	free.isBad()
	alone.isBad()
}

// Promises 19.1, 19.2: what is typed is read by the front group, in order; who is in front may hand that on.
func TestTerminal(t *testing.T) {
	w := start(t, sess{procs: procs{0: live(1), 1: in(1, live(1))}, files: files{0: {Kind: api.FTerm, Refs: 2}}})
	w.asks(ask{op: types, b: run(1, 20)}, api.Ret{N: 20})
	w.asks(ask{op: types, b: run(21, 20)}, api.Ret{N: 12})
	w.leaves(ask{op: types, b: run(99, 1)}, api.Ret{})
	w.asks(ask{op: read, n: 4}, told(run(1, 4)))
	w.refuses(ask{op: read, i: 1, n: 4}, api.ENOTTY)
	w.refuses(ask{op: front, i: 1, n: 1}, api.EPERM)
	w.asks(ask{op: front, n: 1}, api.Ret{})
	w.refuses(ask{op: read, n: 4}, api.ENOTTY)
	w.asks(ask{op: read, i: 1, n: 20}, told(run(5, 20)))
	w.asks(ask{op: types, b: run(50, 3)}, api.Ret{N: 3})
	w.asks(ask{op: read, i: 1, n: 32}, told(append(run(25, 8), run(50, 3)...)))
	w.leaves(ask{op: read, i: 1, n: 1}, blocks())
	w.refuses(ask{op: write, i: 1, b: []byte{1}}, api.EBADF)
}

// Promises 19.1, 19.2: each call of a process begins with Self's error, ahead of any error of its own.
func TestBeginsWithSelf(t *testing.T) {
	s := sess{procs: procs{0: live(1, 2), 1: zombie(0), 2: {State: api.PStopped, Fds: [8]int{1, 2, 2, 2, 2, 2, 2, 2}}, 3: {}, 5: live(1, 2)}, files: files{0: reader(0, 0), 1: writer(0, 0)}, pipes: rings{0: holds(ends(1, 1), 0, 1)}}
	w := start(t, s)
	for _, op := range []int{read, write, front} {
		for _, i := range wild {
			if i == 0 || i == 5 {
				continue
			}
			for _, a := range []int{-1, 0, 1, 2, 8, 33} {
				w.refuses(ask{op: op, i: i, fd: a, n: a, b: make([]byte, max(a, 0))}, api.EIO)
				w.refuses(ask{op: op, i: i, fd: op, n: a, b: []byte{1}}, api.EIO)
			}
		}
	}
	w.has(s)
}

// Promises 15.2, 19.1, 19.2: each call begins with Look, whatever it answers: what is bad anywhere is bad from then on.
func TestBeginsWithLook(t *testing.T) {
	for op := range ops {
		for _, i := range []int{0, 3, 99, -1} {
			for _, a := range []int{0, 1, 2, 5, 9} {
				for _, x := range recs() {
					w := start(t, sess{procs: procs{0: live(1, 12, 3)}, files: files{0: reader(tty, 0), 11: writer(5, 0), 2: reader(0, 0)}, pipes: rings{0: ends(1, 0)}})
					w.spoil(x)
					w.isBad()
					w.do(ask{op: op, i: i, fd: a, n: a, b: make([]byte, a)})
					w.isBad(x)
					w.spoil(x)
					w.do(ask{op: op, i: i, fd: a, n: a, b: make([]byte, a)})
					w.isBad(x)
					if t.Failed() {
						t.FailNow()
					}
				}
			}
		}
	}
}

// Promises 19.1, 19.2: what was bad once is EIO, even if another one mended it.
func TestStaysBad(t *testing.T) {
	s := sess{procs: procs{0: live(1, 2, 3, 4)}, files: files{0: reader(tty, 0), 1: writer(0, 0), 2: reader(0, 0), 3: reader(4, 0)}, pipes: rings{tty: holds(ends(1, 1), 0, 1), 0: holds(ends(1, 1), 0, 1), 4: holds(ends(1, 1), 0, 1)}}
	w := start(t, s)
	spoilt := []api.Rec{aPipe(0), aPipe(4), aPipe(tty)}
	for range 2 {
		for _, x := range spoilt {
			w.spoil(x)
		}
		for fd := range 4 {
			if fd != 1 {
				w.refuses(ask{op: read, fd: fd, n: 1}, api.EIO)
			}
		}
		w.refuses(ask{op: write, fd: 1, b: []byte{1}}, api.EIO)
		w.leaves(ask{op: types, b: []byte{1}}, api.Ret{})
		w.isBad(spoilt...)
	}
	w.has(s)
	w.asks(ask{op: front}, api.Ret{})
	for range 2 {
		w.spoil(theFront)
		w.refuses(ask{op: front}, api.EIO)
	}
	w.has(s)
	d := w.commons(envWild)
	if r := Read(d, 0, 2, 9); text(r) != text(told([]byte{1})) {
		t.Error(r)
	}
}

// rw is a right to read and write.
const rw = api.RRead | api.RWrite

// busy is a session with all kinds of flows.
func busy() sess {
	return sess{
		procs: procs{0: live(1, 2, 3, 4, 5, 6, 7), 1: in(1, live())},
		files: files{0: reader(tty, 0), 1: writer(4, 0), 2: reader(5, 0), 3: reader(0, 0), 4: writer(0, 0), 5: writer(1, 0), 6: reader(1, 0)},
		pipes: rings{tty: holds(ends(1, 1), 0, 1, 2), 0: holds(ends(1, 1), 9, 3, 4), 1: holds(ends(0, 1), 9), 4: holds(ends(1, 1), 31, 5, 6), 5: holds(ends(1, 1), 30, 7, 8)},
	}
}

// Promise 19.3: a Set that is false is EIO: where the commons may be read alone nothing is done.
func TestReadAlone(t *testing.T) {
	w := start(t, busy()).by([3]api.Cap{{Rights: api.RRead, N: 492}, {Rights: rw, N: 40}, {Rights: rw, N: 40}})
	for _, x := range []struct {
		a    ask
		want api.Ret
	}{
		{ask{op: read, fd: 0, n: 1}, api.Ret{E: api.EIO}},
		{ask{op: read, fd: 3, n: 1}, api.Ret{E: api.EIO}},
		{ask{op: read, fd: 3, n: 0}, api.Ret{}},
		{ask{op: read, fd: 6, n: 1}, blocks()},
		{ask{op: read, fd: 3, n: 33}, api.Ret{E: api.EINVAL}},
		{ask{op: write, fd: 4, b: []byte{1}}, api.Ret{E: api.EIO}},
		{ask{op: write, fd: 4, b: run(1, 32)}, api.Ret{E: api.EIO}},
		{ask{op: write, fd: 4}, api.Ret{}},
		{ask{op: write, fd: 5, b: []byte{1}}, api.Ret{E: api.EIO}},
		{ask{op: write, fd: 4, b: run(1, 33)}, api.Ret{E: api.EINVAL}},
		{ask{op: front, n: 1}, api.Ret{E: api.EIO}},
		{ask{op: front, n: 0}, api.Ret{E: api.EIO}},
		{ask{op: front, n: 2}, api.Ret{E: api.EPERM}},
		{ask{op: types, b: []byte{1}}, api.Ret{}},
	} {
		w.leaves(x.a, x.want)
	}
	w.asks(ask{op: write, fd: 1, b: []byte{1}}, api.Ret{N: 1})
	w.asks(ask{op: read, fd: 2, n: 1}, told([]byte{7}))
}

// Promise 19.3: where a bridge can't be set it is EIO; all else goes on.
func TestBridgesReadAlone(t *testing.T) {
	r := api.Cap{Rights: api.RRead, N: 40}
	w := start(t, busy()).by([3]api.Cap{{Rights: rw, N: 492}, r, r})
	w.refuses(ask{op: write, fd: 1, b: []byte{1}}, api.EIO)
	w.refuses(ask{op: read, fd: 2, n: 1}, api.EIO)
	w.isBad()
	w.asks(ask{op: read, fd: 0, n: 1}, told([]byte{1}))
	w.asks(ask{op: read, fd: 3, n: 1}, told([]byte{3}))
	w.asks(ask{op: write, fd: 4, b: []byte{1}}, api.Ret{N: 1})
	w.asks(ask{op: write, fd: 5, b: []byte{1}}, api.Ret{E: api.EPIPE})
	w.asks(ask{op: front, n: 1}, api.Ret{})
	w.asks(ask{op: types, b: []byte{1}}, api.Ret{N: 1})
}

// Promises 19.1 to 19.3: whatever of its bytes a Commons may reach, each call is as the chapter says.
func TestCaps(t *testing.T) {
	r := rand.New(rand.NewSource(1))
	for range 4000 {
		var caps [3]api.Cap
		for n, region := range byCaps() {
			caps[n] = api.Cap{Rights: []int{1, 2, 3, 3, 3, 3}[r.Intn(6)], N: size(region)}
			if r.Intn(3) == 0 {
				caps[n].N = r.Intn(size(region) + 1)
			}
		}
		w := start(t, random(r)).by(caps)
		for range 3 {
			w.do(some(r))
		}
		if t.Failed() {
			t.FailNow()
		}
	}
}

// random is some session, with much that is odd.
func random(r *rand.Rand) sess {
	s := sess{procs: procs{}, files: files{}, pipes: rings{}, front: r.Intn(3)}
	if r.Intn(12) == 0 {
		s.front = -1
	}
	for i := range 8 {
		if r.Intn(5) == 0 {
			continue
		}
		p := api.Proc{State: []int{1, 1, 1, 1, 2, 3}[r.Intn(6)], Parent: r.Intn(9), Group: r.Intn(3), Mask: r.Intn(128) << 1}
		if r.Intn(3) == 0 {
			p.Ignored = 1 << 13
		}
		if r.Intn(6) == 0 {
			p.Group = r.Intn(8)
		}
		if p.State != 2 {
			p.Pending = r.Intn(1<<15) << 1
			for at := range p.Fds {
				p.Fds[at] = max(0, r.Intn(16)-3)
			}
		}
		s.procs[i] = p
	}
	for i := range 12 {
		if r.Intn(8) == 0 {
			continue
		}
		f := api.File{Kind: 1 + r.Intn(2), Pipe: r.Intn(6), Refs: 1 + r.Intn(64), Flags: r.Intn(2)}
		switch r.Intn(12) {
		case 0, 1:
			f.Kind, f.Pipe = 3, 0
		case 2:
			f.Pipe = 6 + r.Intn(2)
		}
		s.files[i] = f
	}
	for i := tty; i < 6; i++ {
		if r.Intn(9) == 0 {
			continue
		}
		p := ends(min(r.Intn(4), 2), min(r.Intn(4), 2))
		p.Head, p.Count = r.Intn(32), []int{0, 0, 1 + r.Intn(8), r.Intn(33), 24 + r.Intn(9), 32}[r.Intn(6)]
		r.Read(p.Data[:])
		s.pipes[i] = p
	}
	return s
}

// some is a call at large, mostly of what there is.
func some(r *rand.Rand) ask {
	x := ask{op: []int{read, read, read, write, write, write, front, types}[r.Intn(8)], i: r.Intn(8), fd: r.Intn(8), n: r.Intn(34)}
	if x.op == front {
		x.n = r.Intn(9)
	}
	x.b = make([]byte, []int{r.Intn(9), r.Intn(9), r.Intn(33), r.Intn(36)}[r.Intn(4)])
	r.Read(x.b)
	if r.Intn(20) == 0 {
		x.i = wild[r.Intn(len(wild))]
	}
	if r.Intn(20) == 0 {
		x.fd = wild[r.Intn(len(wild))]
	}
	if r.Intn(20) == 0 {
		x.n = wild[r.Intn(len(wild))]
	}
	return x
}

// Promises 19.1, 19.2 (W1, W3): sessions at large, beside one who writes anything: each call is as the chapter says, what is bad is EIO and stays as it is.
func TestAtLarge(t *testing.T) {
	r := rand.New(rand.NewSource(2))
	count := map[string]int{}
	for range 4000 {
		w := start(t, random(r))
		for range 16 {
			switch r.Intn(12) {
			case 0:
				w.spoil(recs()[r.Intn(28)])
			case 1:
				other := random(r)
				for i := tty; i < 6; i++ {
					if p, there := other.pipes[i]; there && r.Intn(4) == 0 {
						w.lay(i, p)
					}
				}
				i := r.Intn(8)
				if p, there := other.procs[i]; there {
					w.lay(i, p)
				}
				if f, there := other.files[i]; there {
					w.lay(i, f)
				}
			}
			x := some(r)
			was := w.all()
			got := w.do(x)
			count[fmt.Sprint(x.op, " ", int(got.E), " ", got.Block, " ", got.N > 0)]++
			w.keepsOff(was)
			w.isOf(x, got)
			if t.Failed() {
				t.FailNow()
			}
		}
	}
	for _, want := range []string{
		"0 0 false false", "0 0 false true", "0 0 true false", "0 105 false false", "0 109 false false", "0 111 false false", "0 122 false false", "0 125 false false",
		"1 0 false false", "1 0 false true", "1 0 true false", "1 105 false false", "1 109 false false", "1 111 false false", "1 122 false false", "1 132 false false",
		"2 0 false false", "2 101 false false", "2 105 false false", "2 122 false false", "3 0 false false", "3 0 false true",
	} {
		if count[want] < 50 {
			t.Error(want, count)
		}
	}
}

// keepsOff fails if what is bad has other bytes than it had.
func (w *world) keepsOff(was [][]byte) {
	w.t.Helper()
	for _, x := range w.c.Bad() {
		region, at, n := lies(x)
		if b := w.raw(region)[at : at+n]; !bytes.Equal(b, was[region][at:at+n]) {
			w.t.Errorf("%v is bad, and is %v, was %v", x, b, was[region][at:at+n])
		}
	}
}

// isOf fails unless an answer is one that the call may tell, with no result beside an error or a Block.
func (w *world) isOf(x ask, r api.Ret) {
	w.t.Helper()
	may := [ops][]api.Errno{
		{api.EIO, api.EBADF, api.EINVAL, api.ENOTTY, api.EAGAIN}, {api.EIO, api.EBADF, api.EINVAL, api.EPIPE, api.EAGAIN},
		{api.EIO, api.EINVAL, api.EPERM}, nil,
	}[x.op]
	if r.E != api.OK && !slices.Contains(may, r.E) {
		w.t.Errorf("%+v answers %v", x, r.E)
	}
	if r.E != api.OK && text(r) != text(api.Ret{E: r.E}) || r.Block && text(r) != text(blocks()) {
		w.t.Errorf("%+v answers %s", x, text(r))
	}
	if x.op == read && len(r.B) != r.N || x.op != read && len(r.B) > 0 || x.op >= front && r.Block {
		w.t.Errorf("%+v answers %s", x, text(r))
	}
}

// Promise 19.5: no call panics, and each ends, whatever its numbers and whatever the bytes.
func TestNoPanic(t *testing.T) {
	r := rand.New(rand.NewSource(3))
	for op := range ops {
		for _, n := range wild {
			for _, a := range []int{0, 3, 7, 8, 99, -1, n} {
				w := start(t, random(r))
				b := make([]byte, min(max(n, 0), 1<<12))
				w.do(ask{op, n, a, n, b})
				w.do(ask{op, a, n, a, b})
				w.do(ask{op, 0, n, a, b})
				w.do(ask{op, 0, a, n, nil})
			}
		}
	}
	for range 500 {
		w := start(t, random(r))
		for region := range regions {
			b := w.raw(region)
			for range 1 + r.Intn(9) {
				b[r.Intn(len(b))] = byte(r.Intn(256))
			}
			if r.Intn(9) == 0 {
				r.Read(b)
			}
			w.write(region, 0, b)
		}
		for range 5 {
			w.do(some(r))
		}
		if t.Failed() {
			t.FailNow()
		}
	}
}

// Promises 19.1, 19.2 (rule 3): what is handed in is not kept, nor is the room behind it touched; what is answered is new memory.
func TestOwnBytes(t *testing.T) {
	w := start(t, sess{procs: procs{0: live(1, 2, 3)}, files: files{0: reader(0, 0), 1: writer(0, 0), 2: reader(tty, 0)}, pipes: rings{0: ends(1, 1)}})
	for _, x := range []struct{ put, from ask }{
		{ask{op: write, fd: 1}, ask{op: read, fd: 0, n: 2}},
		{ask{op: types}, ask{op: read, fd: 2, n: 2}},
	} {
		room := run(1, 16)
		x.put.b = room[4:8:12]
		w.asks(x.put, api.Ret{N: 4})
		if !bytes.Equal(room, run(1, 16)) {
			t.Error(x.put, room)
		}
		clear(room)
		one := w.do(x.from)
		clear(one.B[:cap(one.B)])
		two := w.do(x.from)
		if !bytes.Equal(two.B, run(7, 2)) || !bytes.Equal(one.B, []byte{0, 0}) {
			t.Error(x.from, one, two)
		}
	}
}

// Promise 19.4 (W4): two Commons of the same bytes are of one session: what one writes the other one reads.
func TestTwo(t *testing.T) {
	w := start(t, busy())
	d := w.commons(envWild)
	if r := Read(d, 0, 3, 1); text(r) != text(told([]byte{3})) {
		t.Error(r)
	}
	w.asks(ask{op: write, fd: 4, b: []byte{9}}, api.Ret{N: 1})
	if r := Write(d, 0, 4, []byte{10}); text(r) != text(api.Ret{N: 1}) {
		t.Error(r)
	}
	if n := Type(d, []byte{11}); n != 1 {
		t.Error(n)
	}
	if r := Front(d, 0, 1); r.E != api.OK {
		t.Error(r)
	}
	w.refuses(ask{op: read, n: 9}, api.ENOTTY)
	w.asks(ask{op: read, fd: 3, n: 32}, told([]byte{4, 9, 10}))
}

// Promise 19.4 (W3): what is bad holds nobody up but who needs it.
func TestBeside(t *testing.T) {
	for _, x := range recs() {
		w := start(t, busy())
		w.spoil(x)
		needs := func(at int, f int) bool {
			return x == aProc(0) || x == aFile(f) || x == aPipe(at) || at == tty && x == theFront
		}
		asks := func(a ask, is bool, want api.Ret) {
			if is {
				want = api.Ret{E: api.EIO}
			}
			w.asks(a, want)
		}
		asks(ask{op: read, fd: 0, n: 9}, needs(tty, 0), told([]byte{1, 2}))
		asks(ask{op: write, fd: 1, b: []byte{1}}, needs(4, 1), api.Ret{N: 1})
		asks(ask{op: read, fd: 2, n: 9}, needs(5, 2), told([]byte{7, 8}))
		asks(ask{op: read, fd: 3, n: 9}, needs(0, 3), told([]byte{3, 4}))
		asks(ask{op: write, fd: 4, b: []byte{1}}, needs(0, 4), api.Ret{N: 1})
		asks(ask{op: write, fd: 5, b: []byte{1}}, needs(1, 5), api.Ret{E: api.EPIPE})
		asks(ask{op: front, n: 0}, x == aProc(0) || x == theFront, api.Ret{})
		if x != aPipe(tty) {
			w.asks(ask{op: types, b: []byte{1}}, api.Ret{N: 1})
		}
		w.isBad(x)
	}
}

// another answers a Commons of the other session, whose process 0 has these Fds.
func (w *world) another(f api.File, more ...api.File) *commons.Commons {
	w.t.Helper()
	d := w.commons(envOther)
	var p api.Proc
	for n, f := range append([]api.File{f}, more...) {
		p.Fds[n] = n + 1
		if !d.SetFile(n, f) {
			w.t.Fatal(f)
		}
	}
	p.State = api.PLive
	if !d.SetProc(0, p) || !d.SetFront(0) || !d.SetTerm(ends(1, 1)) {
		w.t.Fatal(p)
	}
	return d
}

// Promise 19.4 (W4): a bridge is a queue from one session to the other one, with an end.
func TestBridge(t *testing.T) {
	w := start(t, sess{procs: procs{0: live(1, 2)}, files: files{0: writer(4, 0), 1: reader(5, 0)}})
	d := w.another(reader(4, 0), writer(5, 1))
	w.asks(ask{op: write, b: run(1, 20)}, api.Ret{N: 20})
	w.asks(ask{op: write, b: run(21, 20)}, api.Ret{N: 12})
	w.leaves(ask{op: write, b: run(33, 1)}, blocks())
	if r := Read(d, 0, 0, 25); text(r) != text(told(run(1, 25))) {
		t.Error(r)
	}
	w.asks(ask{op: write, b: run(33, 8)}, api.Ret{N: 8})
	if r := Read(d, 0, 0, 32); text(r) != text(told(run(26, 15))) {
		t.Error(r)
	}
	if r := Read(d, 0, 0, 32); text(r) != text(blocks()) {
		t.Error(r)
	}
	if r := Write(d, 0, 1, run(1, 32)); text(r) != text(api.Ret{N: 32}) {
		t.Error(r)
	}
	if r := Write(d, 0, 1, run(1, 9)); text(r) != text(api.Ret{E: api.EAGAIN}) {
		t.Error(r)
	}
	w.asks(ask{op: read, fd: 1, n: 31}, told(run(1, 31)))
	w.asks(ask{op: read, fd: 1, n: 31}, told(run(32, 1)))
	w.leaves(ask{op: read, fd: 1, n: 31}, blocks())
}
