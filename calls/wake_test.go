package calls

import (
	"math/rand"
	"slices"
	"testing"

	"commonage/api"
	"commonage/pipes"
	"commonage/pred"
)

// always is a program that is true.
func always() []api.Ins { return []api.Ins{{Op: 6}} }

// onBytes is Any of a byte and 255, in the words of chapter 7.
func onBytes(at int) []api.Ins {
	return []api.Ins{{Op: 1, A: at}, {Op: 3, A: 255}, {Op: 7}, {Op: 5, A: 1}, {Op: 6}}
}

// onPipe is the program of who reads a pipe whose record begins at a byte: Count, or Writers that are 0.
func onPipe(at int) []api.Ins {
	return append(onBytes(at+2), api.Ins{Op: 1, A: at + 4}, api.Ins{Op: 5, A: 1}, api.Ins{Op: 6})
}

// onTerm is the program of who reads the terminal: its Count.
func onTerm() []api.Ins { return onBytes(448 + 2) }

// wakes fails unless the program is this one, sound, and new memory.
func (w *world) wakes(i int, s api.Sys, want []api.Ins) {
	w.t.Helper()
	got := Wake(w.c, i, s)
	if !slices.Equal(got, want) || pred.Check(got...) != api.OK {
		w.t.Errorf("Wake(%d, %+v) = %v, want %v", i, s, got, want)
	}
	clear(got[:cap(got)])
	if got := Wake(w.c, i, s); !slices.Equal(got, want) {
		w.t.Errorf("Wake(%d, %+v) = %v, the second time, want %v", i, s, got, want)
	}
}

// eval is what a program tells of the session as it is.
func (w *world) eval(l []api.Ins) bool {
	w.t.Helper()
	is, n := pred.Eval(w.c.View(), 0, l...)
	if n == 0 {
		w.t.Error(l)
	}
	return is
}

// Promise 20.2: who reads a pipe of 0 to 3 has its Count and its Writers looked at, who reads the terminal its Count, whatever the pipe is, and however many bytes are asked for.
func TestWakeRead(t *testing.T) {
	for _, x := range []struct {
		f    api.File
		want []api.Ins
	}{
		{reader(0), onPipe(288)}, {reader(1), onPipe(328)}, {reader(2), onPipe(368)}, {reader(3), onPipe(408)}, {reader(tty), onTerm()},
		{reader(4), always()}, {reader(5), always()}, {reader(6), always()}, {reader(7), always()},
		{writer(0), always()}, {writer(3), always()}, {writer(4), always()},
		{api.File{}, always()},
	} {
		for flags := range 2 {
			for refs := 1; refs <= 64; refs += 21 {
				f := x.f
				if f != (api.File{}) {
					f.Flags, f.Refs = flags, refs
				}
				for i := range 8 {
					fd := (5*i + refs) % 8
					p := in(i, live())
					p.Fds[fd] = 12
					s := sess{procs: procs{i: p}, files: files{11: f}, pipes: rings{0: ends(1, 1), 1: holds(ends(0, 0), 1), 2: {}}, front: 3}
					w := start(t, s)
					for _, b := range []int{0, 1, 32, 33, -1} {
						w.wakes(i, sys(api.URead, fd, b, 1), x.want)
					}
					for op := -1; op <= 19; op++ {
						if op != api.URead {
							w.wakes(i, sys(op, fd, 1), always())
						}
					}
					w.wakes(i, sys(api.URead, (fd+1)%8, 1), always())
					w.wakes((i+1)%8, sys(api.URead, fd, 1), always())
				}
			}
		}
	}
}

// Promise 20.2: what names no file that is good is looked at again each time: whatever the process, the descriptor and the Op.
func TestWakeElse(t *testing.T) {
	w := start(t, sess{procs: procs{0: live(1, 2, 3), 1: zombie(), 2: stopped(1), 3: {}}, files: files{0: reader(0), 1: {}}, pipes: rings{0: ends(1, 1)}})
	w.wakes(0, sys(api.URead, 0, 1), onPipe(288))
	for _, n := range wild {
		if n != 0 {
			w.wakes(0, sys(api.URead, n, 1), always())
			w.wakes(n, sys(api.URead, 0, 1), always())
		}
		if n != api.URead {
			w.wakes(0, sys(n, 0, 1), always())
			w.wakes(n, sys(n, n, n), always())
		}
	}
}

// Promise 20.2: which descriptor names which pipe: the one asked for, among others.
func TestWakeWhich(t *testing.T) {
	w := start(t, sess{procs: procs{0: live(2, 1, 4, 3, 5), 1: live(5, 4, 3, 2, 1)}, files: files{0: reader(0), 1: reader(1), 2: reader(2), 3: reader(3), 4: reader(tty)}, pipes: rings{0: ends(1, 1)}})
	at := [...]int{288, 328, 368, 408}
	for fd, pipe := range []int{1, 0, 3, 2} {
		w.wakes(0, sys(api.URead, fd, 1), onPipe(at[pipe]))
		w.wakes(1, sys(api.URead, 4-pipe, 1), onPipe(at[pipe]))
	}
	w.wakes(0, sys(api.URead, 4, 1), onTerm())
	w.wakes(1, sys(api.URead, 0, 1), onTerm())
}

// Promise 20.2: the program is true just if there are bytes, or an end: of each Count and each Writers; and what others have, the time, Head and Readers alter nothing.
func TestWakeMeans(t *testing.T) {
	for _, at := range []int{0, 1, 2, 3, tty} {
		w := start(t, sess{procs: procs{0: live(1)}, files: files{0: reader(at)}})
		full := holds(ends(8, 8), run(1, 32)...)
		for other := tty; other < 4; other++ {
			w.lay(aPipe(other), rowOf(full))
		}
		l := Wake(w.c, 0, sys(api.URead, 0, 1))
		for count := range 33 {
			for writers := range 9 {
				for readers := range 9 {
					p := ends(readers, writers)
					p.Count, p.Head = count, (count+writers)%32
					p.Data[0] = 9
					w.lay(aPipe(at), rowOf(p))
					want := count > 0 || at != tty && writers == 0
					for _, now := range []int{0, 1, 1 << 30} {
						if is, n := pred.Eval(w.c.View(), now, l...); is != want || n == 0 {
							t.Fatal(at, count, writers, readers, now, is, n)
						}
					}
				}
			}
		}
	}
}

// rest is what all regions have, to be laid again.
func (w *world) rest(was [][]byte) {
	w.t.Helper()
	for r, b := range was {
		w.write(r, 0, b)
	}
}

// probe is what a call would answer now, without its being done.
func (w *world) probe(i int, s api.Sys) api.Ret {
	w.t.Helper()
	was := w.all()
	r := Do(w.c, i, s)
	w.rest(was)
	return r
}

// Promise 20.2: whoever was told Block is woken whenever the call would answer bytes, or an end, or be done, whatever befell meanwhile; a reader of a pipe of the session, or of the terminal, is not woken right away.
func TestWakeInTime(t *testing.T) {
	r := rand.New(rand.NewSource(7))
	count := map[bool]int{}
	for range 3000 {
		w := start(t, tame(r))
		i, s := some(r)
		if r.Intn(3) > 0 {
			s.Op, s.B = api.URead, 1+r.Intn(32)
		}
		if got := w.probe(i, s); !got.Block {
			continue
		}
		l := Wake(w.c, i, s)
		if s.Op != api.URead && !slices.Equal(l, always()) {
			t.Fatal(s, l)
		}
		if !slices.Equal(l, always()) && w.eval(l) {
			t.Fatal(s, l)
		}
		for range 12 {
			w.befalls(r, i)
			then := w.probe(i, s)
			goes := then.E == api.OK && !then.Block
			if goes && !w.eval(l) {
				t.Fatalf("%d: %+v would answer %s, and is not woken", i, s, text(then))
			}
			if len(l) > 1 {
				count[goes]++
			}
		}
	}
	if count[false] < 1000 || count[true] < 1000 {
		t.Error(count)
	}
}

// tame is some session without what is bad, whose processes go on, with mostly empty pipes.
func tame(r *rand.Rand) sess {
	s := random(r)
	s.front = 0
	for i := range 8 {
		p := randomProc(r)
		p.State, p.Code, p.Group, p.Fds = api.PLive, 0, 0, [8]int{1, 2, 3, 4, 5, 6, 7, 8}
		s.procs[i] = p
	}
	for i := range 8 {
		s.files[i] = reader([]int{tty, 0, 1, 2, 3, 4}[r.Intn(6)])
		if i < 3 {
			s.files[i] = writer(r.Intn(5))
		}
	}
	for i := tty; i < 6; i++ {
		s.pipes[i] = ends(1, r.Intn(3))
	}
	return s
}

// befalls has another one than i do something that may bring bytes, or an end, or take them.
func (w *world) befalls(r *rand.Rand, i int) {
	w.t.Helper()
	other := (i + 1 + r.Intn(7)) % 8
	switch r.Intn(6) {
	case 0:
		Do(w.c, other, sys(api.UWrite, r.Intn(3), 0, run(1, 1+r.Intn(9))...))
	case 1:
		Do(w.c, other, sys(api.URead, 3+r.Intn(5), 32))
	case 2:
		Do(w.c, other, sys(api.UClose, r.Intn(3), 0))
	case 3:
		pipes.Type(w.c, run(1, r.Intn(3)))
	case 4:
		at := r.Intn(4)
		p, _ := w.c.Pipe(at)
		p.Writers = r.Intn(2)
		w.c.SetPipe(at, p)
	default:
		_, s := some(r)
		Do(w.c, other, s)
	}
}

// Promise 20.2: Wake changes no byte.
func TestWakeLeaves(t *testing.T) {
	r := rand.New(rand.NewSource(8))
	for range 3000 {
		p := twins(t, random(r))
		i, s := some(r)
		Wake(p.w.c, i, s)
		p.twin.c.Look()
		p.same(i, s)
	}
}
