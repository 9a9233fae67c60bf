package fds

import (
	"bytes"
	"fmt"
	"math/rand"
	"slices"
	"testing"

	"commonage/api"
	"commonage/audit"
	"commonage/commons"
	"commonage/proc"
)

// full is a process all of whose fields are set, with these Fds.
func full(fds ...int) api.Proc {
	p := api.Proc{State: 1, Parent: 3, Group: 7, Pending: 1<<5 | 1<<14, Mask: 1<<1 | 1<<5, Ignored: 1<<3 | 1<<15, Caught: 1<<2 | 1<<13}
	copy(p.Fds[:], fds)
	return p
}

// fileOf is a file of that kind: of the pipe, or of the terminal.
func fileOf(kind, pipe, refs, flags int) api.File {
	if kind == api.FTerm {
		pipe = 0
	}
	return api.File{Kind: kind, Pipe: pipe, Refs: refs, Flags: flags}
}

// sets are all sets of n numbers from 0 on: of each whether it has that number.
func sets(n int) [][]bool {
	l := make([][]bool, 1<<n)
	for i := range l {
		for at := range n {
			l[i] = append(l[i], i>>at%2 == 1)
		}
	}
	return l
}

// least are the numbers that a set has not, rising.
func least(set []bool) []int {
	var l []int
	for i, has := range set {
		if !has {
			l = append(l, i)
		}
	}
	return l
}

// Promise 18.2: the chapter's example.
func TestExample(t *testing.T) {
	w := start(t, sess{procs: procs{0: live(0)}})
	w.gives(ask{op: pipe}, 16)
	w.has(sess{procs: procs{0: live(0, 1, 2)}, files: files{0: reads(0, 1), 1: writes(0, 1)}, pipes: pipes{0: {Readers: 1, Writers: 1}}})
}

// Promise 18.1: the errors of this layer, states and kinds have the chapters' numbers.
func TestNumbers(t *testing.T) {
	if got := [...]api.Errno{api.EIO, api.EBADF, api.EINVAL, api.ENFILE, api.EMFILE}; got != [...]api.Errno{105, 109, 122, 123, 124} {
		t.Error(got)
	}
	if got := [...]int{api.PLive, api.FRead, api.FWrite, api.FTerm, api.FNow, api.DFree, api.DGood, api.DBad}; got != [...]int{1, 1, 2, 3, 1, 0, 1, 2} {
		t.Error(got)
	}
}

// Promise 18.1: Of is the file that a descriptor names, and its number.
func TestOf(t *testing.T) {
	for i := range 8 {
		for kind := 1; kind <= 3; kind++ {
			s := sess{procs: procs{i: full(5, 12, 0, 1, 5, 9, 0, 12), (i + 1) % 8: live(0, 2)}, files: files{0: term(64)}}
			for f := 1; f < 12; f++ {
				s.files[f] = fileOf(kind, f%8, 1+f, f%2)
			}
			w := start(t, s)
			for fd, f := range map[int]int{0: 4, 1: 11, 3: 0, 4: 4, 5: 8, 7: 11} {
				n, x, e := Of(w.c, i, fd)
				if n != f || x != s.files[f] || e != api.OK {
					t.Error(i, fd, n, x, e)
				}
				w.do(ask{op: of, i: i, a: fd})
			}
			w.has(s)
		}
	}
}

// Promise 18.1: a descriptor that is none, or names nothing, is EBADF; one whose file is no good one EIO; beside an error there is no file.
func TestOfRefuses(t *testing.T) {
	s := sess{procs: procs{0: live(0, 1, 0, 3, 4, 0, 12), 1: zombie(1, 9), 2: stopped(1), 3: {}}, files: files{0: term(1), 2: {}, 11: {}}}
	w := start(t, s)
	refuses := func(i, fd int, want api.Errno) {
		t.Helper()
		w.refuses(ask{op: of, i: i, a: fd}, want)
		if f, x, e := Of(w.c, i, fd); f != 0 || x != (api.File{}) || e != want {
			t.Error(i, fd, f, x, e)
		}
	}
	for _, fd := range wild {
		switch fd {
		case 0:
		case 2, 3, 5:
			refuses(0, fd, api.EIO)
		default:
			refuses(0, fd, api.EBADF)
		}
	}
	for _, i := range wild {
		if i == 0 {
			continue
		}
		for _, fd := range []int{0, 1, 2, 8, -1} {
			refuses(i, fd, api.EIO)
		}
	}
	w.has(s)
}

// Promise 18.2: each call begins with Self's error, ahead of any error of its own.
func TestBeginsWithSelf(t *testing.T) {
	s := sess{procs: procs{0: live(0, 3), 1: zombie(1, 9), 2: {State: api.PStopped, Parent: 1, Fds: [8]int{3, 0, 1, 3, 3, 3, 3, 3}}, 3: {}, 5: live(5, 3)}, files: files{2: term(64)}}
	for op := range ops {
		w := start(t, s)
		for _, i := range wild {
			if i == 0 || i == 5 {
				continue
			}
			for _, a := range []int{-1, 0, 1, 2, 7, 8} {
				for _, b := range []int{-1, 0, 1, 8} {
					w.refuses(ask{op, i, a, b}, api.EIO)
				}
			}
		}
		w.has(s)
	}
}

// Promises 15.2, 18.1, 18.2: each call begins with Look, whatever it answers: what is bad anywhere is bad from then on.
func TestBeginsWithLook(t *testing.T) {
	for op := range ops {
		for _, i := range []int{0, 3, 99, -1} {
			for _, a := range []int{0, 5, 9} {
				for _, x := range recs() {
					w := start(t, sess{procs: procs{0: live(0, 1, 12)}, files: files{0: term(1), 11: writes(5, 2)}, pipes: pipes{0: {Readers: 1}}})
					w.spoil(x)
					w.isBad()
					w.do(ask{op, i, a, 1})
					w.isBad(x)
					w.spoil(x)
					w.do(ask{op, i, a, 1})
					w.isBad(x)
					if t.Failed() {
						t.FailNow()
					}
				}
			}
		}
	}
}

// Promises 18.1, 18.3 (W3): what was bad once is EIO, and is not taken, even if another one mended it.
func TestStaysBad(t *testing.T) {
	w := start(t, sess{procs: procs{0: live(0, 1), 1: live(0, 1)}, files: files{0: term(2)}})
	w.spoil(aProc(1))
	w.spoil(aFile(0))
	w.spoil(aFile(2))
	w.spoil(aPipe(0))
	w.asks(ask{op: of}, api.Ret{E: api.EIO})
	w.lay(1, live(0, 1))
	w.lay(0, term(2))
	w.write(ours, 192+8*2, make([]byte, 8))
	w.write(ours, 288, make([]byte, 40))
	for op := range ops {
		w.refuses(ask{op: op, i: 1, b: 1}, api.EIO)
	}
	w.refuses(ask{op: of}, api.EIO)
	w.refuses(ask{op: dup}, api.EIO)
	w.refuses(ask{op: dup2, b: 1}, api.EIO)
	w.refuses(ask{op: now, b: 1}, api.EIO)
	w.gives(ask{op: pipe}, 1+16*2)
	w.asks(ask{op: shut}, api.Ret{E: api.EIO})
	w.has(sess{procs: procs{0: live(0, 0, 2, 4), 1: live(0, 1)}, files: files{0: term(2), 1: reads(1, 1), 3: writes(1, 1)}, pipes: pipes{1: {Readers: 1, Writers: 1}}})
}

// Promise 18.2: the least two free Fds are the ends of the pipe, the first one reads; fewer than two are EMFILE. All else of the process stays.
func TestPipeFds(t *testing.T) {
	for _, taken := range sets(8) {
		p := full()
		for fd, is := range taken {
			if is {
				p.Fds[fd] = 12
			}
		}
		s := sess{procs: procs{6: p, 0: live(0)}, files: files{11: term(8)}}
		w := start(t, s)
		free := least(taken)
		if len(free) < 2 {
			w.refuses(ask{op: pipe, i: 6}, api.EMFILE)
			w.has(s)
			continue
		}
		w.gives(ask{op: pipe, i: 6}, free[0]+16*free[1])
		p.Fds[free[0]], p.Fds[free[1]] = 1, 2
		s.procs[6], s.files[0], s.files[1] = p, reads(0, 1), writes(0, 1)
		s.pipes = pipes{0: {Readers: 1, Writers: 1}}
		w.has(s)
	}
}

// Promise 18.2: the least two free files are the pipe's, the first one reads; fewer than two are ENFILE. A bad one is not free.
func TestPipeFiles(t *testing.T) {
	for n, taken := range sets(12) {
		s := sess{procs: procs{1: live(0)}, files: files{}}
		for f, is := range taken {
			if is {
				s.files[f] = [...]api.File{term(1), {}, reads(4, 2), writes(0, 1)}[(f+n)%4]
			}
		}
		w := start(t, s)
		free := least(taken)
		if len(free) < 2 {
			w.refuses(ask{op: pipe, i: 1}, api.ENFILE)
			w.has(s)
			continue
		}
		w.gives(ask{op: pipe, i: 1}, 16)
		s.procs[1] = live(0, free[0]+1, free[1]+1)
		s.files[free[0]], s.files[free[1]] = reads(0, 1), writes(0, 1)
		s.pipes = pipes{0: {Readers: 1, Writers: 1}}
		w.has(s)
	}
}

// Promise 18.2: the least free one of pipes 0 to 3 is made; none is ENFILE. A bad one is not free, nor one without ends, and a bridge is never taken.
func TestPipePipes(t *testing.T) {
	for _, taken := range sets(4) {
		for n := range 4 {
			s := sess{procs: procs{1: live(0)}, files: files{0: term(2)}, pipes: pipes{}}
			for i, is := range taken {
				if is {
					s.pipes[i] = [...]api.Pipe{{Readers: 1}, {}, {Head: 1}, {Count: 32, Writers: 8}}[(i+n)%4]
				}
			}
			w := start(t, s)
			for _, bridge := range []int{bridgeA, bridgeB} {
				w.write(bridge, 0, make([]byte, 40))
			}
			free := least(taken)
			if len(free) == 0 {
				w.refuses(ask{op: pipe, i: 1}, api.ENFILE)
				w.has(s)
				continue
			}
			w.gives(ask{op: pipe, i: 1}, 16)
			s.procs[1] = live(0, 2, 3)
			s.files[1], s.files[2] = reads(free[0], 1), writes(free[0], 1)
			s.pipes[free[0]] = api.Pipe{Readers: 1, Writers: 1}
			w.has(s)
		}
	}
}

// Promise 18.2: that there are too few Fds is told ahead of too few files or pipes.
func TestPipeOrder(t *testing.T) {
	s := sess{procs: procs{0: live(0, 1, 2, 3, 4, 5, 6, 7), 1: live(0, 8, 9, 10, 11, 12)}, files: files{}, pipes: pipes{}}
	for f := range 12 {
		s.files[f] = writes(f%4, 1)
	}
	for i := range 4 {
		s.pipes[i] = api.Pipe{Writers: 3}
	}
	w := start(t, s)
	w.refuses(ask{op: pipe}, api.EMFILE)
	w.refuses(ask{op: pipe, i: 1}, api.ENFILE)
	w.write(ours, 288+40, make([]byte, 40))
	w.refuses(ask{op: pipe, i: 1}, api.ENFILE)
	w.write(ours, 192+8*10, make([]byte, 8))
	w.refuses(ask{op: pipe, i: 1}, api.ENFILE)
	w.write(ours, 192+8*4, make([]byte, 8))
	w.refuses(ask{op: pipe}, api.EMFILE)
	w.gives(ask{op: pipe, i: 1}, 5+16*6)
}

// Promise 18.2: pipes are made until there is none left, or no room for their ends.
func TestPipeAgain(t *testing.T) {
	w := start(t, sess{procs: procs{0: live(0), 1: live(0)}})
	for n := range 4 {
		w.gives(ask{op: pipe}, 2*n+16*(2*n+1))
	}
	w.refuses(ask{op: pipe}, api.EMFILE)
	w.refuses(ask{op: pipe, i: 1}, api.ENFILE)
	w.asks(ask{op: shut, a: 2}, api.Ret{})
	w.refuses(ask{op: pipe}, api.EMFILE)
	w.asks(ask{op: shut, a: 3}, api.Ret{})
	w.gives(ask{op: pipe, i: 1}, 16)
	ends := files{}
	both := pipes{}
	for n := range 4 {
		ends[2*n], ends[2*n+1] = reads(n, 1), writes(n, 1)
		both[n] = api.Pipe{Readers: 1, Writers: 1}
	}
	w.has(sess{procs: procs{0: live(0, 1, 2, 0, 0, 5, 6, 7, 8), 1: live(0, 3, 4)}, files: ends, pipes: both})
}

// Promise 18.2: a Close has its descriptor name nothing, and its file be named once less; other descriptors of the file stay. All else of the process stays.
func TestClose(t *testing.T) {
	for fd := range 8 {
		for kind := 1; kind <= 3; kind++ {
			for pipe := range 6 {
				f := fileOf(kind, pipe, 2, fd%2)
				q := api.Pipe{Head: fd, Count: 5, Readers: 3, Writers: 7}
				p := full(1, 1, 1, 1, 1, 1, 1, 1)
				other := (fd + 3) % 8
				p.Fds[fd], p.Fds[other] = 12, 12
				s := sess{procs: procs{6: p, 1: live(0, 12)}, files: files{0: term(6), 11: f}, pipes: pipes{0: q, 1: q, 2: q, 3: q, 4: q, 5: q}}
				w := start(t, s)
				w.asks(ask{op: shut, i: 6, a: fd}, api.Ret{})
				p.Fds[fd], f.Refs = 0, 1
				s.procs[6], s.files[11] = p, f
				w.has(s)
				w.refuses(ask{op: shut, i: 6, a: fd}, api.EBADF)
				w.asks(ask{op: shut, i: 6, a: other}, api.Ret{})
				p.Fds[other] = 0
				switch kind {
				case 1:
					q.Readers = 2
				case 2:
					q.Writers = 6
				}
				s.procs[6], s.pipes[f.Pipe] = p, q
				delete(s.files, 11)
				w.has(s)
			}
		}
	}
}

// Promise 18.2: behind the last end of a pipe of the session's own it is freed, with its bytes; a bridge stays.
func TestCloseLastEnd(t *testing.T) {
	for pipe := range 6 {
		for kind := 1; kind <= 2; kind++ {
			s := sess{procs: procs{0: live(0, 0, 3, 4)}, files: files{2: {Kind: kind, Pipe: pipe, Refs: 1}, 3: {Kind: 3 - kind, Pipe: pipe, Refs: 1}}, pipes: pipes{pipe: {Head: 31, Count: 32, Readers: 1, Writers: 1, Data: [32]byte{1, 31: 2}}}}
			w := start(t, s)
			w.asks(ask{op: shut, a: 1}, api.Ret{})
			p := s.pipes[pipe]
			p.Readers, p.Writers = kind-1, 2-kind
			s = sess{procs: procs{0: live(0, 0, 0, 4)}, files: files{3: s.files[3]}, pipes: pipes{pipe: p}}
			w.has(s)
			w.asks(ask{op: shut, a: 2}, api.Ret{})
			s = sess{procs: procs{0: live(0)}}
			if pipe > 3 {
				p.Readers, p.Writers = 0, 0
				s.pipes = pipes{pipe: p}
			}
			w.has(s)
		}
	}
}

// Promise 18.2: a descriptor that is none, or names nothing, is EBADF, and all stays.
func TestCloseRefuses(t *testing.T) {
	s := sess{procs: procs{0: live(0, 1, 0, 1), 1: live(0, 1, 1, 1, 1, 1, 1, 1, 1)}, files: files{0: term(10)}}
	w := start(t, s)
	for _, fd := range wild {
		if fd != 0 && fd != 2 {
			w.refuses(ask{op: shut, a: fd}, api.EBADF)
		}
	}
	w.has(s)
}

// Promise 18.2: the descriptor names nothing even if its file, or its pipe, is no good one, which is EIO.
func TestCloseBad(t *testing.T) {
	for _, x := range []struct {
		f    api.File
		free bool
		pipe api.Pipe
		gone bool // is the file gone, too?
	}{
		{api.File{}, false, api.Pipe{Readers: 1}, false},
		{api.File{}, true, api.Pipe{Readers: 1}, false},
		{reads(2, 1), false, api.Pipe{}, true},
		{writes(2, 1), false, api.Pipe{}, true},
		{reads(1, 1), false, api.Pipe{Readers: 1}, true},
		{writes(6, 1), false, api.Pipe{Readers: 1}, true},
	} {
		s := sess{procs: procs{4: live(0, 1, 1, 9, 9)}, files: files{0: term(2), 8: x.f}, pipes: pipes{2: x.pipe}}
		if x.free {
			delete(s.files, 8)
		}
		w := start(t, s)
		w.asks(ask{op: shut, i: 4, a: 2}, api.Ret{E: api.EIO})
		s.procs[4] = live(0, 1, 1, 0, 9)
		if x.gone {
			delete(s.files, 8)
		}
		w.has(s)
		w.refuses(ask{op: shut, i: 4, a: 2}, api.EBADF)
	}
}

// Promise 18.2: the least free Fd of the process names the same file, which has one of Refs more; none is EMFILE.
func TestDupFds(t *testing.T) {
	for _, taken := range sets(8) {
		for fd, is := range taken {
			if !is {
				continue
			}
			p := full()
			for at, is := range taken {
				if is {
					p.Fds[at] = 1
				}
			}
			p.Fds[fd] = 8
			s := sess{procs: procs{6: p, 2: live(0, 8)}, files: files{0: term(7), 7: {Kind: 2, Pipe: 5, Refs: 2, Flags: 1}}}
			w := start(t, s)
			free := least(taken)
			if len(free) == 0 {
				w.refuses(ask{op: dup, i: 6, a: fd}, api.EMFILE)
				w.has(s)
				continue
			}
			w.gives(ask{op: dup, i: 6, a: fd}, free[0])
			p.Fds[free[0]] = 8
			s.procs[6], s.files[7] = p, api.File{Kind: 2, Pipe: 5, Refs: 3, Flags: 1}
			w.has(s)
		}
	}
}

// Promise 18.2: a file keeps all but its Refs, which may be 64 and no more.
func TestDupRefs(t *testing.T) {
	for kind := 1; kind <= 3; kind++ {
		for refs := 1; refs <= 64; refs++ {
			f := fileOf(kind, refs%8, refs, refs%2)
			s := sess{procs: procs{5: live(0, 0, 9, 1)}, files: files{0: term(1), 8: f}}
			one, two := start(t, s), start(t, s)
			if refs == 64 {
				one.refuses(ask{op: dup, i: 5, a: 1}, api.ENFILE)
				two.refuses(ask{dup2, 5, 1, 2}, api.ENFILE)
				one.has(s)
				two.has(s)
				continue
			}
			one.gives(ask{op: dup, i: 5, a: 1}, 0)
			f.Refs++
			one.has(sess{procs: procs{5: live(0, 9, 9, 1)}, files: files{0: term(1), 8: f}})
			two.gives(ask{dup2, 5, 1, 2}, 2)
			two.has(sess{procs: procs{5: live(0, 0, 9, 9)}, files: files{8: f}})
		}
	}
}

// Promise 18.2: a Dup's errors in the order of the sentence: those of Of, that no Fd is free, that the file is named too often.
func TestDupRefuses(t *testing.T) {
	s := sess{procs: procs{0: live(0, 1, 2, 3, 0, 1, 1, 1, 1), 1: live(0, 1, 2, 3, 1, 1, 1, 1, 1), 2: live(0, 1, 4)}, files: files{0: term(64), 1: {}}}
	w := start(t, s)
	for _, x := range []struct {
		i, fd int
		e     api.Errno
	}{
		{0, 0, api.ENFILE}, {0, 1, api.EIO}, {0, 2, api.EIO}, {0, 3, api.EBADF}, {0, 7, api.ENFILE}, {0, 8, api.EBADF},
		{1, 0, api.EMFILE}, {1, 1, api.EIO}, {1, 2, api.EIO}, {1, 7, api.EMFILE}, {1, 8, api.EBADF}, {1, -1, api.EBADF},
		{2, 0, api.ENFILE}, {2, 1, api.EIO}, {2, 2, api.EBADF},
	} {
		w.refuses(ask{op: dup, i: x.i, a: x.fd}, x.e)
	}
	for _, fd := range wild {
		if fd < 0 || fd > 7 {
			w.refuses(ask{op: dup, a: fd}, api.EBADF)
			w.refuses(ask{op: dup, i: 1, a: fd}, api.EBADF)
		}
	}
	w.has(s)
}

// Promise 18.2: what the second descriptor names is closed, then it names the file of the first one. All else of the process stays.
func TestDup2(t *testing.T) {
	for fd := range 8 {
		for to := range 8 {
			for _, named := range []int{0, 1, 2, 3, 4} {
				p := full()
				p.Fds[to], p.Fds[fd] = named, 12
				s := sess{
					procs: procs{6: p, 2: live(0, 12)},
					files: files{0: term(1), 1: writes(3, 2), 2: reads(1, 1), 3: writes(5, 1), 11: {Kind: 1, Pipe: 2, Refs: 2, Flags: 1}},
					pipes: pipes{1: {Readers: 1, Count: 3}, 2: {Readers: 1}, 3: {Writers: 1}, 5: {Readers: 1, Writers: 1, Count: 2}},
				}
				w := start(t, s)
				w.gives(ask{dup2, 6, fd, to}, to)
				if fd == to {
					w.has(s)
					continue
				}
				p.Fds[to] = 12
				s.procs[6], s.files[11] = p, api.File{Kind: 1, Pipe: 2, Refs: 3, Flags: 1}
				switch named {
				case 1:
					delete(s.files, 0)
				case 2:
					s.files[1] = writes(3, 1)
				case 3:
					delete(s.files, 2)
					delete(s.pipes, 1)
				case 4:
					delete(s.files, 3)
					s.pipes[5] = api.Pipe{Readers: 1, Count: 2}
				}
				w.has(s)
			}
		}
	}
}

// Promise 18.2: where both name the same file it stays, even if its Refs were fewer than these; where they are 64 that is ENFILE all the same.
func TestDup2Same(t *testing.T) {
	for refs := 1; refs <= 64; refs++ {
		for kind := 1; kind <= 3; kind++ {
			s := sess{procs: procs{0: live(0, 0, 3, 0, 0, 3)}, files: files{2: {Kind: kind, Refs: refs}}, pipes: pipes{0: {Readers: 1, Writers: 1}}}
			w := start(t, s)
			if refs == 64 {
				w.refuses(ask{dup2, 0, 1, 4}, api.ENFILE)
				w.refuses(ask{dup2, 0, 4, 1}, api.ENFILE)
			} else {
				w.gives(ask{dup2, 0, 1, 4}, 4)
				w.gives(ask{dup2, 0, 4, 1}, 1)
			}
			w.has(s)
		}
	}
}

// Promise 18.2: of a descriptor and itself nothing is done, even if the file is named as often as may be.
func TestDup2Self(t *testing.T) {
	s := sess{procs: procs{3: live(0, 0, 1, 2, 0, 4)}, files: files{0: term(64), 1: reads(7, 1), 3: {}}}
	w := start(t, s)
	w.gives(ask{dup2, 3, 1, 1}, 1)
	w.gives(ask{dup2, 3, 2, 2}, 2)
	w.refuses(ask{dup2, 3, 0, 0}, api.EBADF)
	w.refuses(ask{dup2, 3, 4, 4}, api.EIO)
	w.refuses(ask{dup2, 3, 8, 8}, api.EBADF)
	w.refuses(ask{dup2, 3, -1, -1}, api.EBADF)
	w.has(s)
}

// Promise 18.2: an error of closing what the second descriptor names is passed over.
func TestDup2PassesOver(t *testing.T) {
	w := start(t, sess{procs: procs{0: live(0, 1, 0, 3, 4, 5, 6)}, files: files{0: writes(4, 1), 2: {}, 4: reads(7, 1), 5: writes(1, 1)}, pipes: pipes{1: {}}})
	for n, to := range []int{1, 2, 3, 4, 5} {
		w.gives(ask{dup2, 0, 0, to}, to)
		s := sess{procs: procs{0: live(0, 1, 1, 3, 4, 5, 6)}, files: files{0: writes(4, 2+n), 2: {}, 4: reads(7, 1), 5: writes(1, 1)}, pipes: pipes{1: {}}}
		p := s.procs[0]
		for fd := 2; fd <= to; fd++ {
			p.Fds[fd] = 1
		}
		s.procs[0] = p
		if to >= 4 {
			delete(s.files, 4)
		}
		if to >= 5 {
			delete(s.files, 5)
		}
		w.has(s)
	}
}

// Promise 18.2: a Dup2's errors in the order of the sentence: those of Of, that the second one is no descriptor, that the file is named too often.
func TestDup2Refuses(t *testing.T) {
	s := sess{procs: procs{0: live(0, 1, 2, 0, 4)}, files: files{0: term(64), 1: {}, 3: term(1)}}
	w := start(t, s)
	for _, n := range wild {
		isFd := n >= 0 && n <= 7
		for fd, e := range map[int]api.Errno{0: api.EBADF, 1: api.EIO, 2: api.EBADF, 3: api.EBADF, 8: api.EBADF, -1: api.EBADF} {
			if !isFd || fd != 0 && fd != 3 {
				w.refuses(ask{dup2, 0, fd, n}, e)
			}
		}
		if isFd && n != 0 {
			w.refuses(ask{dup2, 0, 0, n}, api.ENFILE)
		}
		if !isFd {
			w.refuses(ask{dup2, 0, n, 0}, api.EBADF)
			w.refuses(ask{dup2, 0, n, n}, api.EBADF)
		}
	}
	w.has(s)
}

// Promise 18.2: Now sets the Flags of the file, for all who name it, and nothing else.
func TestNow(t *testing.T) {
	for kind := 1; kind <= 3; kind++ {
		for refs := range 64 {
			f := fileOf(kind, refs%8, 1+refs, 0)
			s := sess{procs: procs{7: full(0, 5, 1, 5), 2: live(0, 5)}, files: files{0: term(1), 4: f}}
			w := start(t, s)
			for n, on := range []int{1, 1, 0, 0, 1, 0} {
				x := ask{now, 7, []int{1, 3}[n%2], on}
				if n == 3 {
					x = ask{now, 2, 0, on}
				}
				w.asks(x, api.Ret{})
				f.Flags = on
				s.files[4] = f
				w.has(s)
			}
		}
	}
}

// Promise 18.2: a Now's errors in the order of the sentence: those of Of, then what is neither 0 nor 1.
func TestNowRefuses(t *testing.T) {
	s := sess{procs: procs{0: live(0, 1, 2, 0, 4)}, files: files{0: {Kind: 2, Pipe: 1, Refs: 1, Flags: 1}, 1: {}}}
	w := start(t, s)
	for _, n := range wild {
		if n != 0 && n != 1 {
			w.refuses(ask{now, 0, 0, n}, api.EINVAL)
		}
		for fd, e := range map[int]api.Errno{1: api.EIO, 2: api.EBADF, 3: api.EIO, 8: api.EBADF, -1: api.EBADF} {
			w.refuses(ask{now, 0, fd, n}, e)
		}
		if n < 0 || n > 7 {
			w.refuses(ask{now, 0, n, 1}, api.EBADF)
			w.refuses(ask{now, 0, n, 2}, api.EBADF)
		}
	}
	w.has(s)
}

// rw is a right to read and write.
const rw = api.RRead | api.RWrite

// byCaps is a world of a busy session, by a Commons with other Caps.
func byCaps(t *testing.T, caps [regions]api.Cap) *world {
	t.Helper()
	return start(t, sess{
		procs: procs{0: live(0, 1, 2, 3), 1: zombie(1, 5), 2: live(1, 1, 1, 1, 1, 1, 1, 4)},
		files: files{0: term(8), 1: writes(4, 1), 2: reads(5, 1), 3: reads(0, 1)},
		pipes: pipes{0: {Readers: 1, Writers: 1}},
	}).by(caps)
}

// Promise 18.1: a Set that is false is EIO: where the commons may be read alone nothing is done.
func TestReadAlone(t *testing.T) {
	w := byCaps(t, [regions]api.Cap{{Rights: api.RRead, N: 492}, {Rights: rw, N: 40}, {Rights: rw, N: 40}})
	for _, x := range []struct {
		a ask
		e api.Errno
	}{
		{ask{pipe, 0, 0, 0}, api.EIO},
		{ask{pipe, 2, 0, 0}, api.EMFILE},
		{ask{shut, 0, 0, 0}, api.EIO},
		{ask{shut, 0, 1, 0}, api.EIO},
		{ask{shut, 0, 2, 0}, api.EIO},
		{ask{shut, 2, 6, 0}, api.EIO},
		{ask{shut, 0, 3, 0}, api.EBADF},
		{ask{dup, 0, 0, 0}, api.EIO},
		{ask{dup, 2, 6, 0}, api.EIO},
		{ask{dup2, 0, 0, 1}, api.EIO},
		{ask{dup2, 0, 1, 7}, api.EIO},
		{ask{dup2, 0, 1, 8}, api.EBADF},
		{ask{now, 0, 0, 0}, api.EIO},
		{ask{now, 0, 1, 1}, api.EIO},
		{ask{now, 0, 1, 2}, api.EINVAL},
	} {
		w.refuses(x.a, x.e)
	}
	w.gives(ask{dup2, 0, 1, 1}, 1)
	if f, x, e := Of(w.c, 0, 1); f != 1 || x != writes(4, 1) || e != api.OK {
		t.Error(f, x, e)
	}
}

// Promises 18.1, 18.2: where a bridge can't be set it is EIO, told behind what was done ahead of it, which stays; Dup2 passes that over.
func TestStays(t *testing.T) {
	for _, bridge := range []api.Cap{{Rights: api.RRead, N: 40}, {Rights: rw, N: 39}, {Rights: api.RWrite, N: 40}, {N: 40}} {
		caps := [regions]api.Cap{{Rights: rw, N: 492}, bridge, bridge}
		for fd := 1; fd <= 2; fd++ {
			s := sess{
				procs: procs{0: live(0, 1, 2, 3), 1: zombie(1, 5), 2: live(1, 1, 1, 1, 1, 1, 1, 4)},
				files: files{0: term(8), 1: writes(4, 1), 2: reads(5, 1), 3: reads(0, 1)},
				pipes: pipes{0: {Readers: 1, Writers: 1}, 4: {Readers: 1, Writers: 1}, 5: {Readers: 1, Writers: 1}},
			}
			delete(s.files, fd)
			p := s.procs[0]
			p.Fds[fd] = 0
			s.procs[0] = p
			w := byCaps(t, caps)
			w.asks(ask{op: shut, a: fd}, api.Ret{E: api.EIO})
			w.has(s)
			p.Fds[fd] = 1
			s.procs[0], s.files[0] = p, term(9)
			w = byCaps(t, caps)
			w.gives(ask{dup2, 0, 0, fd}, fd)
			w.has(s)
		}
	}
}

// Promises 18.1, 18.3 (W3): whatever of its bytes a Commons may reach, each call is as the chapter says.
func TestCaps(t *testing.T) {
	r := rand.New(rand.NewSource(1))
	for range 3000 {
		var caps [regions]api.Cap
		for i := range caps {
			caps[i] = api.Cap{Rights: []int{1, 2, 3, 3, 3, 3}[r.Intn(6)], N: size(i)}
			if r.Intn(3) == 0 {
				caps[i].N = r.Intn(size(i) + 1)
			}
		}
		w := start(t, random(r)).by(caps)
		for range 3 {
			w.do(some(r))
		}
		if t.Failed() {
			t.FailNow()
		}
	}
}

// random is some session, with much that is odd.
func random(r *rand.Rand) sess {
	s := sess{procs{}, files{}, pipes{}}
	for i := range 8 {
		if r.Intn(5) == 0 {
			continue
		}
		p := api.Proc{State: []int{1, 1, 1, 1, 2, 3}[r.Intn(6)], Parent: r.Intn(9), Group: r.Intn(8), Mask: r.Intn(128) << 1, Ignored: 1 << 3, Caught: 1 << 5}
		if p.State == 2 {
			p.Code = r.Intn(256)
		} else {
			p.Pending = r.Intn(1<<15) << 1
			full := r.Intn(5) == 0
			for at := range p.Fds {
				p.Fds[at] = max(0, r.Intn(26)-13)
				if full && p.Fds[at] == 0 {
					p.Fds[at] = 1 + r.Intn(12)
				}
			}
		}
		s.procs[i] = p
	}
	crowd := 3 + r.Intn(9)
	for i := range 12 {
		if r.Intn(12) >= crowd {
			continue
		}
		f := api.File{Kind: 1 + r.Intn(3), Refs: 1 + r.Intn(3), Flags: r.Intn(2)}
		if f.Kind != 3 {
			f.Pipe = r.Intn(8)
		}
		if r.Intn(3) == 0 {
			f.Refs = 62 + r.Intn(3)
		}
		s.files[i] = f
	}
	for i := range 6 {
		if r.Intn(12) < crowd || i > 3 && r.Intn(2) == 0 {
			s.pipes[i] = api.Pipe{Head: r.Intn(32), Count: 1 + r.Intn(32), Readers: r.Intn(3), Writers: r.Intn(3)}
		}
	}
	return s
}

// some is a call at large, mostly of what there is.
func some(r *rand.Rand) ask {
	x := ask{r.Intn(ops), r.Intn(8), r.Intn(8), r.Intn(8)}
	if x.op == now {
		x.b = r.Intn(3)
	}
	if r.Intn(20) == 0 {
		x.i = wild[r.Intn(len(wild))]
	}
	if r.Intn(20) == 0 {
		x.a, x.b = wild[r.Intn(len(wild))], wild[r.Intn(len(wild))]
	}
	return x
}

// Promise 18.3 (W1, W3): sessions at large, beside one who writes anything: each call is as the chapter says, what is bad is EIO and stays as it is.
func TestAtLarge(t *testing.T) {
	r := rand.New(rand.NewSource(2))
	count := map[string]int{}
	for range 3000 {
		w := start(t, random(r))
		for range 12 {
			switch r.Intn(12) {
			case 0:
				w.spoil(recs()[r.Intn(28)])
			case 1:
				other := random(r)
				i := r.Intn(8)
				if p, there := other.procs[i]; there {
					w.lay(i, p)
				}
				if f, there := other.files[i]; there {
					w.lay(i, f)
				}
			}
			x := some(r)
			was := w.all()
			got := w.do(x)
			count[fmt.Sprint(x.op, " ", int(got.E))]++
			w.keepsOff(was)
			w.isOf(x, got)
			if t.Failed() {
				t.FailNow()
			}
		}
	}
	for _, want := range []string{"0 0", "0 105", "0 123", "0 124", "1 0", "1 105", "1 109", "2 0", "2 105", "2 109", "2 123", "2 124", "3 0", "3 105", "3 109", "3 123", "4 0", "4 105", "4 109", "4 122", "5 0", "5 105", "5 109"} {
		if count[want] < 50 {
			t.Error(want, count)
		}
	}
}

// keepsOff fails if what is bad has other bytes than it had.
func (w *world) keepsOff(was [][]byte) {
	w.t.Helper()
	for _, x := range w.c.Bad() {
		region, at, n := lies(x)
		if b := w.raw(region)[at : at+n]; !bytes.Equal(b, was[region][at:at+n]) {
			w.t.Errorf("%v is bad, and is %v, was %v", x, b, was[region][at:at+n])
		}
	}
}

// isOf fails unless an answer is one that the call may tell, with no result beside an error.
func (w *world) isOf(x ask, r told) {
	w.t.Helper()
	may := [ops][]api.Errno{
		{api.EIO, api.EMFILE, api.ENFILE}, {api.EIO, api.EBADF}, {api.EIO, api.EBADF, api.EMFILE, api.ENFILE},
		{api.EIO, api.EBADF, api.ENFILE}, {api.EIO, api.EBADF, api.EINVAL}, {api.EIO, api.EBADF},
	}[x.op]
	if r.E != api.OK && !slices.Contains(may, r.E) {
		w.t.Errorf("%+v answers %v", x, r.E)
	}
	if r.E != api.OK && text(r) != text(told{Ret: api.Ret{E: r.E}}) || r.Block || len(r.B) > 0 {
		w.t.Errorf("%+v answers %s", x, text(r))
	}
}

// Promise 18.4: no call panics, and each ends, whatever its numbers and whatever the bytes.
func TestNoPanic(t *testing.T) {
	r := rand.New(rand.NewSource(3))
	for op := range ops {
		for _, n := range wild {
			for _, a := range []int{0, 3, 7, 8, 99, -1, n} {
				w := start(t, random(r))
				w.do(ask{op, n, a, n})
				w.do(ask{op, a, n, a})
				w.do(ask{op, 0, n, a})
			}
		}
	}
	for range 500 {
		w := start(t, random(r))
		for region := range regions {
			b := w.raw(region)
			for range 1 + r.Intn(9) {
				b[r.Intn(len(b))] = byte(r.Intn(256))
			}
			if r.Intn(9) == 0 {
				r.Read(b)
			}
			w.write(region, 0, b)
		}
		for range 5 {
			w.do(some(r))
		}
		if t.Failed() {
			t.FailNow()
		}
	}
}

// begun is what chapter 22 says that a session with a bridge each way begins with.
func begun() sess {
	return sess{procs: procs{0: live(0, 1, 2, 3)}, files: files{0: term(1), 1: writes(4, 1), 2: reads(5, 1)}}
}

// A thing is an open file, as one who knows nothing of records keeps it; two ends of a pipe have the same number.
type thing struct{ kind, pipe, flags int }

// A ledger is what each process who is there has open; who names the same thing has the same pointer.
type ledger struct {
	open map[int]*[8]*thing
	made int // how many pipes were made, the bridges too
}

func newLedger() *ledger {
	return &ledger{open: map[int]*[8]*thing{0: {{kind: 3}, {kind: 2, pipe: 1}, {kind: 1, pipe: 2}}}, made: 2}
}

// live are those who are there, rising.
func (l *ledger) live() []int {
	var all []int
	for i := range 8 {
		if l.open[i] != nil {
			all = append(all, i)
		}
	}
	return all
}

// gaps are the descriptors of a process that name nothing.
func (l *ledger) gaps(i int) []int {
	var all []int
	for fd, x := range l.open[i] {
		if x == nil {
			all = append(all, fd)
		}
	}
	return all
}

// count is how many things there are, pipes among them that are no bridges, and descriptors of one thing.
func (l *ledger) count(one *thing) (things, pipes, names int) {
	seen, flows := map[*thing]bool{}, map[int]bool{}
	for _, open := range l.open {
		for _, x := range open {
			if x == nil {
				continue
			}
			seen[x] = true
			if x.pipe > 2 {
				flows[x.pipe] = true
			}
			if x == one {
				names++
			}
		}
	}
	return len(seen), len(flows), names
}

// does enters a call of one who is there, and answers what the call must tell.
func (l *ledger) does(x ask) api.Ret {
	open, gaps := l.open[x.i], l.gaps(x.i)
	if x.op == pipe {
		return l.doesPipe(x.i)
	}
	if x.a < 0 || x.a > 7 || open[x.a] == nil {
		return api.Ret{E: api.EBADF}
	}
	it := open[x.a]
	_, _, names := l.count(it)
	switch x.op {
	case shut:
		open[x.a] = nil
		return api.Ret{}
	case dup:
		if len(gaps) == 0 {
			return api.Ret{E: api.EMFILE}
		}
		if names == 64 {
			return api.Ret{E: api.ENFILE}
		}
		open[gaps[0]] = it
		return api.Ret{N: gaps[0]}
	case dup2:
		if x.b < 0 || x.b > 7 {
			return api.Ret{E: api.EBADF}
		}
		if x.b != x.a && names == 64 {
			return api.Ret{E: api.ENFILE}
		}
		open[x.b] = it
		return api.Ret{N: x.b}
	case now:
		if x.b != 0 && x.b != 1 {
			return api.Ret{E: api.EINVAL}
		}
		it.flags = x.b
	}
	return api.Ret{}
}

func (l *ledger) doesPipe(i int) api.Ret {
	gaps := l.gaps(i)
	things, flows, _ := l.count(nil)
	if len(gaps) < 2 {
		return api.Ret{E: api.EMFILE}
	}
	if things > 10 || flows > 3 {
		return api.Ret{E: api.ENFILE}
	}
	l.made++
	l.open[i][gaps[0]], l.open[i][gaps[1]] = &thing{kind: 1, pipe: l.made}, &thing{kind: 2, pipe: l.made}
	return api.Ret{N: gaps[0] + 16*gaps[1]}
}

// isTold fails unless each descriptor's file is the ledger's thing: one file a thing, one pipe's number a pipe, Refs as many as name it.
func (l *ledger) isTold(w *world) {
	w.t.Helper()
	byThing, byFile, byPipe := map[*thing]int{}, map[int]*thing{}, map[int]int{}
	for _, i := range l.live() {
		for fd := range 8 {
			f, x, e := Of(w.c, i, fd)
			it := l.open[i][fd]
			if it == nil {
				if e != api.EBADF {
					w.t.Error(i, fd, f, x, e)
				}
				continue
			}
			_, _, names := l.count(it)
			if e != api.OK || x.Kind != it.kind || x.Flags != it.flags || x.Refs != names {
				w.t.Error(i, fd, f, x, e, *it, names)
			}
			if was, there := byThing[it]; there && was != f {
				w.t.Error(i, fd, "one thing is files", was, f)
			}
			if was := byFile[f]; was != nil && was != it {
				w.t.Error(i, fd, "two things are file", f)
			}
			if was, there := byPipe[it.pipe]; there && was != x.Pipe {
				w.t.Error(i, fd, "one pipe is", was, x.Pipe)
			}
			byThing[it], byFile[f], byPipe[it.pipe] = f, it, x.Pipe
		}
	}
	seen := map[int]int{}
	for it, n := range byPipe {
		if it == 1 && n != 4 || it == 2 && n != 5 || it > 2 && n > 3 || seen[n] > 2 && it > 2 {
			w.t.Error("pipe", it, "is", n)
		}
		seen[n] = it
	}
}

// Promise 18.3 (W1, W3): each descriptor is one file's, each file has as many as it says, and honest ones alone keep all sound.
func TestHonest(t *testing.T) {
	r := rand.New(rand.NewSource(4))
	count := map[string]int{}
	for range 120 {
		w := start(t, begun())
		l := newLedger()
		for range 100 {
			all := l.live()
			if len(all) == 0 {
				count["dead"]++
				break
			}
			x := some(r)
			x.i = all[r.Intn(len(all))]
			switch r.Intn(12) {
			case 0, 1:
				if got := proc.Fork(w.c, x.i); got.E == api.OK {
					open := *l.open[x.i]
					l.open[got.N] = &open
				}
			case 2:
				if got := proc.Exit(w.c, x.i, 0); got.E != api.OK {
					t.Error(got)
				}
				delete(l.open, x.i)
				for i := range 8 {
					proc.Wait(w.c, i)
				}
			default:
				want := told{Ret: l.does(x)}
				if x.op == of {
					want = x.byFds(w.c)
				}
				got := w.do(x)
				if text(got) != text(want) {
					t.Errorf("%+v answers %s, want %s", x, text(got), text(want))
				}
				count[fmt.Sprint(x.op, " ", int(got.E))]++
			}
			l.isTold(w)
			if faults := audit.Faults(w.c.View()); len(faults) > 0 {
				t.Error(x, faults)
			}
			if t.Failed() {
				t.FailNow()
			}
		}
		w.isBad()
	}
	for _, want := range []string{"0 0", "0 123", "0 124", "1 0", "1 109", "2 0", "2 109", "2 124", "3 0", "3 109", "4 0", "4 109", "4 122", "dead"} {
		if count[want] < 5 {
			t.Error(want, count)
		}
	}
}

// Promise 18.3: a file of 64 descriptors, all that a session has, is ENFILE, and named by each of them.
func TestMost(t *testing.T) {
	w := start(t, sess{procs: procs{0: live(0, 1)}, files: files{0: term(1)}})
	for fd := 1; fd < 8; fd++ {
		w.gives(ask{op: dup}, fd)
	}
	for i := 1; i < 8; i++ {
		if r := proc.Fork(w.c, 0); r.N != i || r.E != api.OK {
			t.Error(i, r)
		}
	}
	w.refuses(ask{op: dup, i: 5, a: 7}, api.EMFILE)
	w.refuses(ask{dup2, 5, 7, 0}, api.ENFILE)
	w.gives(ask{dup2, 5, 7, 7}, 7)
	w.asks(ask{op: shut, i: 2, a: 3}, api.Ret{})
	w.gives(ask{dup2, 5, 7, 0}, 0)
	w.gives(ask{op: dup, i: 2}, 3)
	if faults := audit.Faults(w.c.View()); len(faults) > 0 {
		t.Error(faults)
	}
	for i := range 8 {
		for fd := range 8 {
			w.asks(ask{op: shut, i: i, a: fd}, api.Ret{})
		}
	}
	if f, is := w.c.File(0); is != api.DFree {
		t.Error(f, is)
	}
}

// Promise 18.3 (W3): what is bad holds nobody up but who needs it: a process beside it goes on with other files and pipes.
func TestBeside(t *testing.T) {
	for _, x := range recs() {
		if x == aProc(0) || x == aFile(0) {
			continue
		}
		w := start(t, sess{procs: procs{0: live(0, 1)}, files: files{0: term(1)}})
		w.spoil(x)
		w.gives(ask{op: pipe}, 1+16*2)
		w.gives(ask{op: dup, a: 2}, 3)
		w.gives(ask{dup2, 0, 0, 2}, 2)
		w.asks(ask{now, 0, 3, 1}, api.Ret{})
		w.asks(ask{op: shut, a: 1}, api.Ret{})
		w.asks(ask{op: shut, a: 3}, api.Ret{})
		s := sess{procs: procs{0: live(0, 1, 0, 1)}, files: files{0: term(2)}, pipes: pipes{}}
		switch {
		case x.Kind == 1:
			s.procs[x.Index] = api.Proc{}
		case x.Kind == 2:
			s.files[x.Index] = api.File{}
		case x.Kind == 3:
			s.pipes[x.Index] = api.Pipe{}
		}
		w.has(s)
		w.isBad(x)
	}
}

// Promise 18.3: two Commons of the same bytes are of one session: what one does the other one goes on with.
func TestTwo(t *testing.T) {
	w := start(t, begun())
	d, e := commons.New(w.k, 1)
	if e != api.OK {
		t.Fatal(e)
	}
	w.gives(ask{op: pipe}, 3+16*4)
	if r := Dup(d, 0, 4); r.N != 5 || r.E != api.OK {
		t.Error(r)
	}
	w.gives(ask{dup2, 0, 5, 3}, 3)
	for _, fd := range []int{3, 4, 5} {
		if r := Close(d, 0, fd); r.E != api.OK {
			t.Error(r)
		}
	}
	w.refuses(ask{op: shut, a: 5}, api.EBADF)
	w.has(begun())
}
