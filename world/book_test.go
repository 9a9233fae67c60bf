package world

import (
	"slices"

	"commonage/api"
	"commonage/ofile"
	"commonage/pslot"
	"commonage/ring"
	"commonage/sect"
	"commonage/sig"
)

// A book is a World as one keeps it, in the document's words, who has no bytes, no rights and no kernel, and where nobody does wrong: all is values.
type book struct {
	lease, now int
	pages      []*page
	bridges    []*api.Pipe
}

// A page is a session. What is free is the zero value.
type page struct {
	b     *book
	n     int
	procs [8]api.Proc
	files [12]api.File
	pipes []*api.Pipe // behind its own four those of its bridges
	term  api.Pipe
	front int
	sect  *sect.Sect
	desks [8]desk
}

// A desk is a Host.
type desk struct {
	phase, stamp int
	s            api.Sys
}

// opened is the book of a World that begins.
func opened(p api.Plan) *book {
	b := &book{lease: p.Lease}
	for n := range p.Bad {
		g := &page{b: b, n: n, term: ends(1, 1), sect: sect.New(p.Lease)}
		for range 4 {
			g.pipes = append(g.pipes, &api.Pipe{})
		}
		g.files[0] = api.File{Kind: 3, Refs: 1}
		g.procs[0] = api.Proc{State: 1, Fds: [8]int{1}}
		b.pages = append(b.pages, g)
	}
	for _, x := range p.Bridges {
		q := ends(1, 1)
		b.bridges = append(b.bridges, &q)
		for n, s := range [2]int{x.To, x.From} {
			g := b.pages[s]
			at := len(g.pipes) - 3
			g.files[at] = api.File{Kind: 1 + n, Pipe: len(g.pipes), Refs: 1}
			g.procs[0].Fds[at] = at + 1
			g.pipes = append(g.pipes, &q)
		}
	}
	return b
}

// do is World's.
func (b *book) do(s api.Step) (api.Out, bool) {
	if s.Kind == 3 {
		b.now = min(b.now+min(max(s.N, 0), 1000), 1<<30)
	}
	if s.S < 0 || s.S >= len(b.pages) || s.P < 0 || s.P > 7 {
		return api.Out{}, false
	}
	g := b.pages[s.S]
	d := &g.desks[s.P]
	switch s.Kind {
	case 1:
		if st := g.procs[s.P].State; d.phase == 0 && (st == 1 || st == 3) {
			*d = desk{phase: 1, s: s.Sys}
		}
	case 2:
		o, ok := g.pick(s.P)
		if ok {
			o.Session = s.S
		}
		return o, ok
	case 4:
		if len(s.B) <= 32 {
			g.term, _ = ring.Put(g.term, s.B)
		}
	}
	return api.Out{}, false
}

// who is the environment of slot i.
func (g *page) who(i int) int { return 9*g.n + i }

// pick is Host's. No slot is DBad here.
func (g *page) pick(i int) (api.Out, bool) {
	d := &g.desks[i]
	switch st := g.procs[i].State; {
	case st == 0 || st == 2:
		g.rest(i)
		return api.Out{}, false
	case st == 3:
		if d.phase == 2 {
			g.sect.Leave(g.who(i), d.stamp)
			d.phase = 1
		}
		return api.Out{}, false
	}
	switch d.phase {
	case 0:
		o := api.Out{Slot: i}
		g.end(i, &o)
		if len(o.Sigs) > 0 || o.Dies > 0 {
			return o, true
		}
	case 1:
		if stamp, ok := g.sect.Enter(g.who(i), g.b.now); ok {
			d.phase, d.stamp = 2, stamp
		}
	case 2:
		if !g.sect.Holds(g.who(i), d.stamp) {
			d.phase = 1
			break
		}
		r := g.call(i, d.s)
		g.sect.Leave(g.who(i), d.stamp)
		if r.Block {
			d.phase = 3
			break
		}
		return g.back(i, r), true
	case 3:
		if sig.Wakes(g.procs[i]) {
			return g.back(i, api.Ret{E: 104}), true
		}
		if g.wakes(i, d.s) {
			d.phase = 1
		}
	}
	return api.Out{}, false
}

// back is an Out with a return, and the end.
func (g *page) back(i int, r api.Ret) api.Out {
	s := g.desks[i].s
	g.desks[i] = desk{}
	o := api.Out{Slot: i, Sys: s, N: r.N, E: r.E, B: r.B, Back: true}
	if s.Op != api.UExit {
		g.end(i, &o)
	}
	if s.Op == api.UFork && r.E == 0 {
		g.rest(r.N)
	}
	return o
}

// rest has a Host be idle, and neither in nor in the queue.
func (g *page) rest(i int) {
	if d := g.desks[i]; d.phase == 1 || d.phase == 2 {
		g.sect.Quit(g.who(i))
	}
	g.desks[i] = desk{}
}

func (g *page) end(i int, o *api.Out) {
	if g.procs[i].State != 1 {
		return
	}
	g.procs[i], o.Sigs, o.Dies = sig.Deliver(g.procs[i])
	if o.Dies > 0 {
		g.exit(i, 128+o.Dies)
	}
}

// wakes is what calls.Wake's program says.
func (g *page) wakes(i int, s api.Sys) bool {
	if s.Op != api.URead {
		return true
	}
	x := g.files[g.procs[i].Fds[s.A]-1]
	switch {
	case x.Kind == 3:
		return g.term.Count > 0
	case x.Pipe < 4:
		return g.pipes[x.Pipe].Count > 0 || g.pipes[x.Pipe].Writers == 0
	}
	return true
}

// call is calls.Do.
func (g *page) call(i int, s api.Sys) api.Ret {
	p := &g.procs[i]
	switch s.Op {
	case api.UPid:
		return api.Ret{N: i}
	case api.UFork:
		return g.fork(i)
	case api.UExit:
		return g.exit(i, s.A)
	case api.UWait:
		return g.wait(i)
	case api.UKill:
		return g.kill(s.A, s.B)
	case api.UMask:
		q, n, e := sig.Mask(*p, s.A)
		if e == 0 {
			*p = q
		}
		return api.Ret{N: n, E: e}
	case api.USig:
		q, e := sig.Handle(*p, s.A, s.B)
		if e == 0 {
			*p = q
		}
		return api.Ret{E: e}
	case api.UGroup:
		return g.regroup(i, s.A, s.B)
	case api.UPipe:
		return g.pipe(i)
	case api.UFront:
		return g.setFront(i, s.A)
	case api.UParent:
		return api.Ret{N: p.Parent - 1}
	case api.UGetGroup:
		return api.Ret{N: p.Group}
	case api.URead, api.UWrite, api.UClose, api.UDup, api.UDup2, api.UNow:
		if s.A < 0 || s.A > 7 || p.Fds[s.A] == 0 {
			return fails(109)
		}
		return g.uses(i, p.Fds[s.A]-1, s)
	}
	return fails(122)
}

// uses is a call of a process that has file f open as descriptor s.A.
func (g *page) uses(i, f int, s api.Sys) api.Ret {
	p, x := &g.procs[i], &g.files[f]
	switch s.Op {
	case api.URead:
		return g.read(i, *x, s.B)
	case api.UWrite:
		return g.write(i, *x, s.D)
	case api.UClose:
		p.Fds[s.A] = 0
		g.closeFile(f)
		return api.Ret{}
	case api.UNow:
		if s.B != 0 && s.B != 1 {
			return fails(122)
		}
		x.Flags = s.B
		return api.Ret{}
	case api.UDup:
		free := slices.Index(p.Fds[:], 0)
		if free < 0 {
			return fails(124)
		}
		p.Fds[free] = f + 1
		x.Refs++
		return api.Ret{N: free}
	}
	switch {
	case s.B < 0 || s.B > 7:
		return fails(109)
	case s.B == s.A:
		return api.Ret{N: s.B}
	case x.Refs == 64:
		return fails(123)
	}
	x.Refs++
	if was := p.Fds[s.B]; was > 0 {
		g.closeFile(was - 1)
	}
	p.Fds[s.B] = f + 1
	return api.Ret{N: s.B}
}

// fork is proc.Fork. All eight have 64 Fds, so that no file has too many Refs.
func (g *page) fork(i int) api.Ret {
	child := slices.Index(g.procs[:], api.Proc{})
	if child < 0 {
		return fails(111)
	}
	p := g.procs[i]
	for _, fd := range p.Fds {
		if fd > 0 {
			g.files[fd-1].Refs++
		}
	}
	p.Parent, p.Pending = i+1, 0
	g.procs[child] = p
	return api.Ret{N: child}
}

func (g *page) exit(i, code int) api.Ret {
	p := &g.procs[i]
	for _, fd := range p.Fds {
		if fd > 0 {
			g.closeFile(fd - 1)
		}
	}
	for j := range g.procs {
		if q := &g.procs[j]; q.State == 2 && q.Parent == i+1 {
			*q = api.Proc{}
		} else if q.State > 0 && q.Parent == i+1 {
			q.Parent = 0
		}
	}
	if p.Parent == 0 || !g.acts(p.Parent-1) {
		*p = api.Proc{}
		return api.Ret{}
	}
	p.State, p.Code, p.Fds, p.Pending = 2, int(uint8(code)), [8]int{}, 0
	return api.Ret{}
}

// acts tells whether slot i has one who has not ended.
func (g *page) acts(i int) bool { return g.procs[i].State == 1 || g.procs[i].State == 3 }

// actsIn tells whether a group has one who has not ended.
func (g *page) actsIn(group int) bool {
	for i, p := range g.procs {
		if g.acts(i) && p.Group == group {
			return true
		}
	}
	return false
}

func (g *page) wait(i int) api.Ret {
	r := fails(110)
	for j, q := range g.procs {
		switch {
		case q.State == 2 && q.Parent == i+1:
			g.procs[j] = api.Proc{}
			return api.Ret{N: 256*j + q.Code}
		case q.State > 0 && q.Parent == i+1:
			r = api.Ret{Block: true}
		}
	}
	return r
}

func (g *page) kill(target, n int) api.Ret {
	if target < 0 || target > 15 || n < 0 || n > 15 {
		return fails(122)
	}
	none := true
	for j, p := range g.procs {
		if p.State == 0 || target < 8 && j != target || target > 7 && (!g.acts(j) || p.Group != target-8) {
			continue
		}
		none = false
		g.procs[j], _ = sig.Raise(p, n)
	}
	if none {
		return fails(103)
	}
	return api.Ret{}
}

func (g *page) regroup(i, target, group int) api.Ret {
	switch {
	case target < 0 || target > 7 || group < 0 || group > 7:
		return fails(122)
	case target != i && (!g.acts(target) || g.procs[target].Parent != i+1):
		return fails(103)
	case group != target && !g.actsIn(group):
		return fails(101)
	}
	g.procs[target].Group = group
	return api.Ret{}
}

func (g *page) setFront(i, group int) api.Ret {
	switch {
	case group < 0 || group > 7:
		return fails(122)
	case g.procs[i].Group != g.front || !g.actsIn(group):
		return fails(101)
	}
	g.front = group
	return api.Ret{}
}

// free are the first two places that are 0, as far as there are some.
func free[T comparable](l []T) []int {
	var zero T
	var at []int
	for i, v := range l {
		if v == zero && len(at) < 2 {
			at = append(at, i)
		}
	}
	return at
}

func (g *page) pipe(i int) api.Ret {
	at := slices.IndexFunc(g.pipes[:4], func(p *api.Pipe) bool { return *p == api.Pipe{} })
	fds, fs := free(g.procs[i].Fds[:]), free(g.files[:])
	switch {
	case len(fds) < 2:
		return fails(124)
	case len(fs) < 2 || at < 0:
		return fails(123)
	}
	*g.pipes[at] = ends(1, 1)
	for n := range 2 {
		g.files[fs[n]] = api.File{Kind: 1 + n, Pipe: at, Refs: 1}
		g.procs[i].Fds[fds[n]] = fs[n] + 1
	}
	return api.Ret{N: fds[0] + 16*fds[1]}
}

func (g *page) closeFile(f int) {
	x := &g.files[f]
	x.Refs--
	if x.Refs > 0 {
		return
	}
	switch p := g.pipes[x.Pipe]; {
	case x.Kind == 1:
		p.Readers--
	case x.Kind == 2:
		p.Writers--
	}
	if p := g.pipes[x.Pipe]; x.Kind < 3 && x.Pipe < 4 && p.Readers+p.Writers == 0 {
		*p = api.Pipe{}
	}
	*x = api.File{}
}

// flow is the pipe of a file.
func (g *page) flow(x api.File) *api.Pipe {
	if x.Kind == 3 {
		return &g.term
	}
	return g.pipes[x.Pipe]
}

func (g *page) read(i int, x api.File, n int) api.Ret {
	switch p := g.flow(x); {
	case x.Kind == 2:
		return fails(109)
	case n < 0 || n > 32:
		return fails(122)
	case x.Kind == 3 && g.procs[i].Group != g.front:
		return fails(125)
	case n == 0:
		return api.Ret{}
	case p.Count > 0:
		q, b := ring.Take(*p, n)
		*p = q
		return api.Ret{N: len(b), B: b}
	case x.Kind == 1 && p.Writers == 0:
		return api.Ret{}
	case x.Flags == 1:
		return fails(111)
	}
	return api.Ret{Block: true}
}

func (g *page) write(i int, x api.File, b []byte) api.Ret {
	p := g.flow(x)
	room := 32 - p.Count
	switch {
	case x.Kind != 2:
		return fails(109)
	case len(b) > 32:
		return fails(122)
	case len(b) == 0:
		return api.Ret{}
	case p.Readers == 0:
		g.procs[i], _ = sig.Raise(g.procs[i], 13)
		return fails(132)
	case len(b) <= 8 && room >= len(b), len(b) > 8 && room > 0:
		q, n := ring.Put(*p, b)
		*p = q
		return api.Ret{N: n}
	case x.Flags == 1:
		return fails(111)
	}
	return api.Ret{Block: true}
}

// raw is what the session's commons are.
func (g *page) raw() []byte {
	var all []byte
	for _, p := range g.procs {
		b, _ := pslot.Encode(p)
		all = append(all, orBlank(b, 24)...)
	}
	for _, f := range g.files {
		b, _ := ofile.Encode(f)
		all = append(all, orBlank(b, 8)...)
	}
	for _, p := range g.pipes[:4] {
		var b []byte
		if *p != (api.Pipe{}) {
			b, _ = ring.Encode(*p)
		}
		all = append(all, orBlank(b, 40)...)
	}
	b, _ := ring.Encode(g.term)
	return append(append(all, b...), byte(g.front), 211, byte(213+g.front), 0)
}

// orBlank is b, or as many bytes of 0 if there is none.
func orBlank(b []byte, n int) []byte {
	if b == nil {
		return make([]byte, n)
	}
	return b
}

func ends(readers, writers int) api.Pipe { return api.Pipe{Readers: readers, Writers: writers} }

func fails(e api.Errno) api.Ret { return api.Ret{E: e} }
