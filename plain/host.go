package plain

import (
	"slices"

	"commonage/api"
	"commonage/sig"
)

// died is what the code of a process that died is above the number of the signal.
const died = 128

// host is how far a process is with what it wants. One whose slot is free or has a zombie is idle: who ends does so by its own pick, and wants nothing behind it.
type host struct {
	phase int
	sys   api.Sys // what it wants; nothing of an idle one
	stamp int     // with which it is in
}

// start has the process of slot i want x, if there is one who may.
func (s *session) start(i int, x api.Sys) {
	if s.hosts[i].phase != api.HIdle || !acts(s.procs[i]) {
		return
	}
	// What is handed in stays another one's.
	x.D = slices.Clone(x.D)
	s.hosts[i] = host{phase: api.HWant, sys: x}
}

// pick has the process of slot i go on by one step, and answers what is told of it, false if nothing is.
func (s *session) pick(i, now int) (api.Out, bool) {
	// Nobody is stopped while in, so that who is has nothing to leave.
	if s.procs[i].State != api.PLive {
		return api.Out{}, false
	}
	switch s.hosts[i].phase {
	case api.HWant:
		s.enter(i, now)
		return api.Out{}, false
	case api.HIn:
		return s.ask(i)
	case api.HBlocked:
		return s.wake(i)
	}
	o := s.end(i, api.Out{Slot: i})
	if len(o.Sigs) == 0 && o.Dies == 0 {
		return api.Out{}, false
	}
	return o, true
}

// enter asks for the section.
func (s *session) enter(i, now int) {
	if stamp, ok := s.sect.Enter(i, now); ok {
		s.hosts[i].phase, s.hosts[i].stamp = api.HIn, stamp
	}
}

// ask does what process i wants, unless another one was let in meanwhile.
func (s *session) ask(i int) (api.Out, bool) {
	h := &s.hosts[i]
	if !s.sect.Holds(i, h.stamp) {
		h.phase = api.HWant
		return api.Out{}, false
	}
	r := s.do(i, h.sys)
	s.sect.Leave(i, h.stamp)
	if r.Block {
		h.phase = api.HBlocked
		return api.Out{}, false
	}
	return s.back(i, r)
}

// wake has process i, which waits outside, be told of a signal, or want again what it waits for.
func (s *session) wake(i int) (api.Out, bool) {
	h := &s.hosts[i]
	if sig.Wakes(s.procs[i]) {
		return s.back(i, fails(api.EINTR))
	}
	if s.mayGoOn(i, h.sys) {
		h.phase = api.HWant
	}
	return api.Out{}, false
}

// mayGoOn tells whether process i, which waits for x, shall ask again: who waits for bytes that its session alone reads does so when there are some, or none will come; all others just try.
func (s *session) mayGoOn(i int, x api.Sys) bool {
	if x.Op != api.URead {
		return true
	}
	// A descriptor stays what it is while its process waits.
	f := s.of(i, x.A)
	switch {
	case f.Kind == api.FTerm:
		return s.term.Count > 0
	case f.Pipe < api.Pipes:
		p := s.pipe(f.Pipe)
		return p.Count > 0 || p.Writers == 0
	}
	return true
}

// back has process i be idle, and answers what its call returned, with the end.
func (s *session) back(i int, r api.Ret) (api.Out, bool) {
	o := api.Out{Slot: i, Sys: s.hosts[i].sys, N: r.N, E: r.E, B: r.B, Back: true}
	s.hosts[i] = host{}
	return s.end(i, o), true
}

// end has process i be told of its signals, if it goes on, and adds to o what comes of that.
func (s *session) end(i int, o api.Out) api.Out {
	// Who asked to exit goes on no more, and is told of none.
	s.procs[i], o.Sigs, o.Dies = sig.Deliver(s.procs[i])
	if o.Dies > 0 {
		s.exit(i, died+o.Dies)
	}
	return o
}
