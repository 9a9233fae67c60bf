package plain

import (
	"commonage/api"
	"commonage/ring"
	"commonage/sig"
)

const (
	maxRefs = 64
	// ends is how many files a pipe is made with, and how many descriptors name these.
	ends = 2
	// A new pipe is told as two descriptors in one number, digits of this base.
	base = 16
)

// newPipe makes a pipe and gives process i its two ends; N tells the descriptors, the reader's and 16 times the writer's.
func (s *session) newPipe(i int) api.Ret {
	p := &s.procs[i]
	fds := free(p.Fds[:])
	if len(fds) < ends {
		return fails(api.EMFILE)
	}
	files, pipes := free(s.files[:]), free(s.pipes[:])
	if len(files) < ends || len(pipes) == 0 {
		return fails(api.ENFILE)
	}
	s.pipes[pipes[0]] = api.Pipe{Readers: 1, Writers: 1}
	for end, kind := range [ends]int{api.FRead, api.FWrite} {
		s.files[files[end]] = api.File{Kind: kind, Pipe: pipes[0], Refs: 1}
		p.Fds[fds[end]] = files[end] + 1
	}
	return api.Ret{N: fds[0] + base*fds[1]}
}

// close has a descriptor of process i name nothing, and its file be named once less; who is not named any more is gone, and is no end of its pipe.
func (s *session) close(i, fd int) api.Ret {
	f := s.of(i, fd)
	if f == nil {
		return fails(api.EBADF)
	}
	s.procs[i].Fds[fd] = 0
	f.Refs--
	if f.Refs == 0 {
		s.shut(*f)
		*f = api.File{}
	}
	return api.Ret{}
}

// shut has the pipe of a file that is gone one end less.
func (s *session) shut(f api.File) {
	if f.Kind == api.FTerm {
		return
	}
	p := s.pipe(f.Pipe)
	if f.Kind == api.FRead {
		p.Readers--
	} else {
		p.Writers--
	}
	// Of a bridge, too, since nobody is left who could tell.
	if p.Readers == 0 && p.Writers == 0 {
		*p = api.Pipe{}
	}
}

// dup has one more descriptor of process i name a file; N is that one.
func (s *session) dup(i, fd int) api.Ret {
	f := s.of(i, fd)
	if f == nil {
		return fails(api.EBADF)
	}
	p := &s.procs[i]
	fds := free(p.Fds[:])
	// Where one is free, no file is named as often as one may be.
	if len(fds) == 0 {
		return fails(api.EMFILE)
	}
	f.Refs++
	p.Fds[fds[0]] = p.Fds[fd]
	return api.Ret{N: fds[0]}
}

// dup2 has the descriptor to of process i name the file that fd names, whatever it named; N is to.
func (s *session) dup2(i, fd, to int) api.Ret {
	f := s.of(i, fd)
	if f == nil || !isFd(to) {
		return fails(api.EBADF)
	}
	if to == fd {
		return api.Ret{N: to}
	}
	if f.Refs == maxRefs {
		return fails(api.ENFILE)
	}
	f.Refs++
	s.close(i, to)
	p := &s.procs[i]
	p.Fds[to] = p.Fds[fd]
	return api.Ret{N: to}
}

// setNow has the file that a descriptor of process i names never wait, if on is 1, or wait again, if it is 0.
func (s *session) setNow(i, fd, on int) api.Ret {
	f := s.of(i, fd)
	if f == nil {
		return fails(api.EBADF)
	}
	if on != 0 && on != api.FNow {
		return fails(api.EINVAL)
	}
	f.Flags = on
	return api.Ret{}
}

// read takes at most n of the bytes that a descriptor of process i has to read; B is these, and N is how many.
func (s *session) read(i, fd, n int) api.Ret {
	f := s.of(i, fd)
	if f == nil || f.Kind == api.FWrite {
		return fails(api.EBADF)
	}
	if n < 0 || n > api.PipeCap {
		return fails(api.EINVAL)
	}
	if f.Kind == api.FTerm && s.procs[i].Group != s.front {
		return fails(api.ENOTTY)
	}
	if n == 0 {
		return api.Ret{}
	}
	p := &s.term
	if f.Kind == api.FRead {
		p = s.pipe(f.Pipe)
	}
	rest, b := ring.Take(*p, n)
	if len(b) > 0 {
		*p = rest
		return api.Ret{N: len(b), B: b}
	}
	// The terminal has no end, for more may always be typed.
	if f.Kind == api.FRead && p.Writers == 0 {
		return api.Ret{}
	}
	return waits(f)
}

// write puts b, or its beginning, into the pipe that a descriptor of process i writes; N is how many bytes went in.
func (s *session) write(i, fd int, b []byte) api.Ret {
	f := s.of(i, fd)
	if f == nil || f.Kind != api.FWrite {
		return fails(api.EBADF)
	}
	if len(b) > api.PipeCap {
		return fails(api.EINVAL)
	}
	if len(b) == 0 {
		return api.Ret{}
	}
	p := s.pipe(f.Pipe)
	if p.Readers == 0 {
		s.procs[i], _ = sig.Raise(s.procs[i], api.SPipe)
		return fails(api.EPIPE)
	}
	more, n := ring.Put(*p, b)
	if n == 0 || n < len(b) && len(b) <= api.PipeBuf {
		return waits(f)
	}
	*p = more
	return api.Ret{N: n}
}

// typed puts b, or its beginning, into the terminal; of more than it holds nothing is.
func (s *session) typed(b []byte) {
	if len(b) <= api.PipeCap {
		s.term, _ = ring.Put(s.term, b)
	}
}

// of answers the file that a descriptor of process i names, nil if it names none.
func (s *session) of(i, fd int) *api.File {
	if !isFd(fd) || s.procs[i].Fds[fd] == 0 {
		return nil
	}
	return &s.files[s.procs[i].Fds[fd]-1]
}

// pipe answers pipe n of the session; its bridges are behind its own ones.
func (s *session) pipe(n int) *api.Pipe {
	if n < api.Pipes {
		return &s.pipes[n]
	}
	return s.bridges[n-api.Pipes]
}

// waits answers that file f has to wait, or the error of one that never does.
func waits(f *api.File) api.Ret {
	if f.Flags == api.FNow {
		return fails(api.EAGAIN)
	}
	return api.Ret{Block: true}
}

// free answers which places have the zero value, rising.
func free[T comparable](places []T) []int {
	var none T
	var l []int
	for i, v := range places {
		if v == none {
			l = append(l, i)
		}
	}
	return l
}

// isFd tells whether a process has such a descriptor, whatever it names.
func isFd(fd int) bool {
	return fd >= 0 && fd < api.Fds
}
