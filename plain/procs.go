package plain

import (
	"slices"

	"commonage/api"
	"commonage/sig"
)

const (
	codes      = 256
	lastSignal = 15
	// A target is a slot, or behind these a group.
	lastTarget = 2*api.Slots - 1
)

// do has process i, which goes on, ask x.
func (s *session) do(i int, x api.Sys) api.Ret {
	switch x.Op {
	case api.UPid:
		return api.Ret{N: i}
	case api.UFork:
		return s.fork(i)
	case api.UExit:
		return s.exit(i, x.A)
	case api.UWait:
		return s.wait(i)
	case api.UKill:
		return s.kill(x.A, x.B)
	case api.UMask:
		return s.mask(i, x.A)
	case api.USig:
		return s.handle(i, x.A, x.B)
	case api.UGroup:
		return s.regroup(i, x.A, x.B)
	case api.UPipe:
		return s.newPipe(i)
	case api.URead:
		return s.read(i, x.A, x.B)
	case api.UWrite:
		return s.write(i, x.A, x.D)
	case api.UClose:
		return s.close(i, x.A)
	case api.UDup:
		return s.dup(i, x.A)
	case api.UDup2:
		return s.dup2(i, x.A, x.B)
	case api.UNow:
		return s.setNow(i, x.A, x.B)
	case api.UFront:
		return s.setFront(i, x.A)
	case api.UParent:
		return api.Ret{N: s.procs[i].Parent - 1}
	case api.UGetGroup:
		return api.Ret{N: s.procs[i].Group}
	}
	return fails(api.EINVAL)
}

// fork makes a process like i, its child; N is its slot.
func (s *session) fork(i int) api.Ret {
	free := s.slots(func(p api.Proc) bool { return p.State == 0 })
	if len(free) == 0 {
		return fails(api.EAGAIN)
	}
	p := s.procs[i]
	// All Fds of eight slots name no file more often than one may be.
	for _, fd := range p.Fds {
		if fd > 0 {
			s.files[fd-1].Refs++
		}
	}
	p.Parent, p.Pending = i+1, 0
	s.procs[free[0]] = p
	return api.Ret{N: free[0]}
}

// exit ends process i, which is a zombie from then on if there is one to wait for it.
func (s *session) exit(i, code int) api.Ret {
	p := &s.procs[i]
	for fd := range p.Fds {
		s.close(i, fd)
	}
	for _, j := range s.slots(isChildOf(i)) {
		if s.procs[j].State == api.PZombie {
			s.procs[j] = api.Proc{}
		} else {
			s.procs[j].Parent = 0
		}
	}
	// Who is a Parent has not ended, for who ends is none any more.
	if p.Parent == 0 {
		*p = api.Proc{}
		return api.Ret{}
	}
	p.State, p.Code, p.Pending = api.PZombie, (code%codes+codes)%codes, 0
	return api.Ret{}
}

// wait frees a child of i that has ended; N tells which, and its Code.
func (s *session) wait(i int) api.Ret {
	children := s.slots(isChildOf(i))
	if len(children) == 0 {
		return fails(api.ECHILD)
	}
	ended := slices.IndexFunc(children, func(j int) bool { return s.procs[j].State == api.PZombie })
	if ended < 0 {
		return api.Ret{Block: true}
	}
	z := children[ended]
	code := s.procs[z].Code
	s.procs[z] = api.Proc{}
	return api.Ret{N: codes*z + code}
}

// kill raises signal n in the process of a slot, or in all of a group; of n 0 it just tells whether there is one.
func (s *session) kill(target, n int) api.Ret {
	if target < 0 || target > lastTarget || n < 0 || n > lastSignal {
		return fails(api.EINVAL)
	}
	l := s.targets(target)
	if len(l) == 0 {
		return fails(api.ESRCH)
	}
	for _, j := range l {
		// Raise refuses signal 0, too.
		s.procs[j], _ = sig.Raise(s.procs[j], n)
	}
	return api.Ret{}
}

// targets answers whom a signal is for.
func (s *session) targets(target int) []int {
	if target >= api.Slots {
		return s.slots(isMemberOf(target - api.Slots))
	}
	if s.procs[target].State == 0 {
		return nil
	}
	return []int{target}
}

// mask has process i keep the signals of m off; N tells those that it kept off before.
func (s *session) mask(i, m int) api.Ret {
	p, old, e := sig.Mask(s.procs[i], m)
	if e != api.OK {
		return fails(e)
	}
	s.procs[i] = p
	return api.Ret{N: old}
}

// handle has process i leave signal n as it comes, ignore it or catch it, as how says.
func (s *session) handle(i, n, how int) api.Ret {
	p, e := sig.Handle(s.procs[i], n, how)
	if e != api.OK {
		return fails(e)
	}
	s.procs[i] = p
	return api.Ret{}
}

// regroup puts process i, or a child of it, into group g.
func (s *session) regroup(i, target, g int) api.Ret {
	if !isSlot(target) || !isSlot(g) {
		return fails(api.EINVAL)
	}
	p, isChild := &s.procs[target], isChildOf(i)
	if target != i && !(isChild(*p) && acts(*p)) {
		return fails(api.ESRCH)
	}
	if g != target && !s.isGroup(g) {
		return fails(api.EPERM)
	}
	p.Group = g
	return api.Ret{}
}

// setFront makes g the front group, which reads the terminal, if process i is of the one that is it now.
func (s *session) setFront(i, g int) api.Ret {
	if !isSlot(g) {
		return fails(api.EINVAL)
	}
	if s.procs[i].Group != s.front || !s.isGroup(g) {
		return fails(api.EPERM)
	}
	s.front = g
	return api.Ret{}
}

// slots answers where there is one who is wanted, rising.
func (s *session) slots(isWanted func(api.Proc) bool) []int {
	var l []int
	for i, p := range s.procs {
		if isWanted(p) {
			l = append(l, i)
		}
	}
	return l
}

// isGroup tells whether somebody who has not ended is of group g.
func (s *session) isGroup(g int) bool {
	return len(s.slots(isMemberOf(g))) > 0
}

// isMemberOf answers a function that tells who is of group g, and has not ended.
func isMemberOf(g int) func(api.Proc) bool {
	return func(p api.Proc) bool { return acts(p) && p.Group == g }
}

// isChildOf answers a function that tells whose Parent i is.
func isChildOf(i int) func(api.Proc) bool {
	return func(p api.Proc) bool { return p.Parent == i+1 }
}

// acts tells whether p is one who has not ended.
func acts(p api.Proc) bool {
	return p.State == api.PLive || p.State == api.PStopped
}

func fails(e api.Errno) api.Ret {
	return api.Ret{E: e}
}
