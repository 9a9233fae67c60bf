package host

import (
	"bytes"
	"fmt"
	"math"
	"math/rand"
	"slices"
	"testing"

	"commonage/api"
	"commonage/audit"
	"commonage/calls"
	"commonage/commons"
	"commonage/kern"
	"commonage/ofile"
	"commonage/pred"
	"commonage/proc"
	"commonage/pslot"
	"commonage/ring"
	"commonage/sig"
)

var wild = []int{math.MinInt, math.MinInt + 1, -1 << 62, -1 << 32, -65536, -257, -19, -8, -2, -1, 0, 1, 2, 3, 4, 5, 6, 7, 8, 9, 10, 11, 15, 16, 18, 19, 32, 33, 40, 63, 64, 99, 100, 255, 256, 65535, 65536, 1 << 31, 1 << 32, 1<<32 + 1, 1 << 62, math.MaxInt - 1, math.MaxInt}

// The environments: one whom nobody trusts, one of each slot behind it, one of another session, and one of a third one, without Caps.
const (
	envWild  = 0
	envSlots = 1
	envOther = 9
	envBare  = 10
)

// The Sects: one of the other session, the one that the Hosts enter, and one more that they might.
const (
	notOurs = iota
	section
	another
	sections
)

const lease = 5

// The regions: the commons, and two bridges to another session, pipes 4 and 5.
const (
	ours = iota
	bridgeA
	bridgeB
	regions
)

// tty stands for the terminal where a pipe's number is asked for, nobody for a slot whose environment holds the section.
const (
	tty    = -1
	nobody = -2
)

func boot() api.Boot {
	return api.Boot{
		Frames: []int{20, 20, 1},
		Envs:   []int{0, 0, 0, 0, 0, 0, 0, 0, 0, 1, 2},
		Sects:  [][]int{{1}, {0, 2}, {0}},
		Lease:  lease,
		Shared: []api.Share{
			{N: 492, To: []int{0}},
			{Frame: 8, N: 40, To: []int{0, 1}},
			{Session: 1, Frame: 9, Lo: 3, N: 40, To: []int{1, 0}},
		},
	}
}

// size is how many bytes a region has.
func size(region int) int { return [...]int{492, 40, 40}[region] }

// sess is what a session has, as values; what is not told is free, but the bridges and the terminal, which have one end each way then. A zero Proc, File or Pipe is a bad one, and so is a front below 0.
type sess struct {
	procs map[int]api.Proc
	files map[int]api.File
	pipes map[int]api.Pipe
	front int
}

// A few of each, by number.
type (
	procs = map[int]api.Proc
	files = map[int]api.File
	rings = map[int]api.Pipe
)

// A room is a session on a kernel, with a Host of each slot.
type room struct {
	t     *testing.T
	k     *kern.Kern
	hosts [8]*Host
}

// start is a room where s is.
func start(t *testing.T, s sess) *room {
	t.Helper()
	k, e := kern.New(boot())
	if e != api.OK {
		t.Fatal(e)
	}
	w := &room{t: t, k: k}
	for i, p := range s.procs {
		w.lay(aProc(i), rowOf(p))
	}
	for i, f := range s.files {
		w.lay(aFile(i), rowOf(f))
	}
	for i := tty; i < 6; i++ {
		p, there := s.pipes[i]
		switch {
		case there:
			w.lay(aPipe(i), rowOf(p))
		case i == tty || i > 3:
			w.lay(aPipe(i), rowOf(ends(1, 1)))
		}
	}
	w.lay(theFront, frontOf(s.front))
	for i := range w.hosts {
		w.hosts[i] = w.host(envSlots+i, i)
	}
	return w
}

// host is a new Host.
func (w *room) host(env, slot int) *Host {
	w.t.Helper()
	h, e := New(w.k, env, slot, section)
	if e != api.OK {
		w.t.Fatal(e)
	}
	return h
}

// by has the Host of a slot be one of other Caps: the first bytes of each region, with these rights.
func (w *room) by(i int, caps [regions]api.Cap) {
	w.t.Helper()
	for r, c := range caps {
		c.Obj = r
		if _, e := w.k.Space().Put(envBare, c); e != api.OK {
			w.t.Fatal(e)
		}
	}
	w.hosts[i] = w.host(envBare, i)
}

// write has one whom nobody trusts write bytes.
func (w *room) write(region, at int, b []byte) {
	w.t.Helper()
	if a := w.k.Do(envWild, api.Call{Op: api.KWrite, Cap: w.k.Space().Names(envWild)[region], At: at, B: b}); a.E != api.OK {
		w.t.Fatal(region, at, a.E)
	}
}

// lay has one whom nobody trusts write the beginning of a record.
func (w *room) lay(x api.Rec, b []byte) {
	w.t.Helper()
	region, at := lies(x)
	w.write(region, at, b)
}

// spoil has one whom nobody trusts turn a byte of a record, so that it is bad, or back.
func (w *room) spoil(x api.Rec) {
	w.t.Helper()
	region, at := lies(x)
	w.write(region, at, []byte{w.raw(region)[at] ^ 85})
}

// raw is what a region has.
func (w *room) raw(region int) []byte {
	w.t.Helper()
	b, e := w.k.Regions().Raw(region)
	if e != api.OK {
		w.t.Fatal(e)
	}
	return b
}

// all is what all regions have.
func (w *room) all() [][]byte {
	w.t.Helper()
	l := make([][]byte, regions)
	for r := range l {
		l[r] = w.raw(r)
	}
	return l
}

// enter has an environment enter the section, or ask again, by itself: its stamp.
func (w *room) enter(env int) int {
	return w.k.Do(env, api.Call{Op: api.KEnter, N: section}).N
}

// leave has whoever holds the section leave it.
func (w *room) leave() {
	if who, stamp, _, ok := w.k.Sect(section).Holder(); ok {
		w.k.Do(who, api.Call{Op: api.KLeave, N: section, At: stamp})
	}
}

// gate tells who holds the section, with which stamp, since when, and who waits for it.
func (w *room) gate() string {
	x := w.k.Sect(section)
	who, stamp, since, ok := x.Holder()
	return fmt.Sprint(who, stamp, since, ok, x.Queue())
}

// isAt fails unless this slot's environment holds the section, or nobody does, and these slots' ones wait for it.
func (w *room) isAt(holder int, queue ...int) {
	w.t.Helper()
	x := w.k.Sect(section)
	who, _, _, ok := x.Holder()
	if ok != (holder != nobody) || ok && who != envSlots+holder {
		w.t.Errorf("%d, %v holds, want %d", who-envSlots, ok, holder)
	}
	l := x.Queue()
	for n := range l {
		l[n] -= envSlots
	}
	if !slices.Equal(l, queue) {
		w.t.Errorf("%v waits, want %v", l, queue)
	}
}

// rowOf are the bytes of a record; of a zero one some that are bad.
func rowOf(v any) []byte {
	b, ok := []byte(nil), false
	switch x := v.(type) {
	case api.Proc:
		b, ok = pslot.Encode(x)
	case api.File:
		b, ok = ofile.Encode(x)
	case api.Pipe:
		b, ok = ring.Encode(x)
		ok = ok && x != (api.Pipe{})
	}
	if !ok {
		return []byte{99}
	}
	return b
}

// frontOf are the bytes of a front group; of one that is none bytes that are bad.
func frontOf(g int) []byte {
	if g < 0 || g > 7 {
		return []byte{9, 211, 222, 0}
	}
	return []byte{byte(g), 211, byte(213 + g), 0}
}

func aProc(i int) api.Rec { return api.Rec{Kind: 1, Index: i} }
func aFile(i int) api.Rec { return api.Rec{Kind: 2, Index: i} }

// aPipe is a pipe's record, or the terminal's.
func aPipe(i int) api.Rec {
	if i == tty {
		return api.Rec{Kind: 4}
	}
	return api.Rec{Kind: 3, Index: i}
}

var theFront = api.Rec{Kind: 5}

// recs are all records of a session with two bridges, by Kind, then Index.
func recs() []api.Rec {
	var l []api.Rec
	for kind, n := range []int{0, 8, 12, 6, 1, 1} {
		for i := range n {
			l = append(l, api.Rec{Kind: kind, Index: i})
		}
	}
	return l
}

// lies is where a record is: the region, and the first byte.
func lies(x api.Rec) (region, at int) {
	switch {
	case x.Kind == 1:
		return ours, 24 * x.Index
	case x.Kind == 2:
		return ours, 192 + 8*x.Index
	case x.Kind == 3 && x.Index < 4:
		return ours, 288 + 40*x.Index
	case x.Kind == 3:
		return bridgeA + x.Index - 4, 0
	case x.Kind == 4:
		return ours, 448
	}
	return ours, 488
}

// live is a process that goes on, of group 0, with these Fds.
func live(fds ...int) api.Proc {
	p := api.Proc{State: api.PLive}
	copy(p.Fds[:], fds)
	return p
}

// told is p with these signals Pending.
func told(p api.Proc, signals ...int) api.Proc {
	p.Pending |= set(signals...)
	return p
}

// catches is p with these signals Caught.
func catches(p api.Proc, signals ...int) api.Proc {
	p.Caught |= set(signals...)
	return p
}

// set has a bit for each signal.
func set(signals ...int) int {
	m := 0
	for _, n := range signals {
		m |= 1 << n
	}
	return m
}

func zombie() api.Proc { return api.Proc{State: api.PZombie, Parent: 3, Group: 2, Code: 9} }

func stopped(fds ...int) api.Proc {
	p := live(fds...)
	p.State = api.PStopped
	return p
}

func ends(readers, writers int) api.Pipe { return api.Pipe{Readers: readers, Writers: writers} }

// holds is p with these bytes.
func holds(p api.Pipe, b ...byte) api.Pipe {
	p.Head, p.Count = 0, copy(p.Data[:], b)
	return p
}

// reader is a file that reads a pipe, or the terminal.
func reader(at int) api.File {
	if at == tty {
		return api.File{Kind: api.FTerm, Refs: 1}
	}
	return api.File{Kind: api.FRead, Pipe: at, Refs: 1}
}

// writer is a file that writes a pipe.
func writer(at int) api.File { return api.File{Kind: api.FWrite, Pipe: at, Refs: 1} }

// run is n bytes, each one more than the one ahead.
func run(first byte, n int) []byte {
	b := make([]byte, n)
	for i := range b {
		b[i] = first + byte(i)
	}
	return b
}

func sys(op, a, b int, d ...byte) api.Sys { return api.Sys{Op: op, A: a, B: b, D: d} }

// text tells all that is answered.
func text(o api.Out, ok bool) string {
	s := o.Sys
	return fmt.Sprint(ok, " ", o.Session, ".", o.Slot, " ", s.Op, s.A, s.B, s.D, " ", o.N, int(o.E), o.B, " ", o.Back, o.Sigs, o.Dies)
}

// A keeper is a Host in the chapter's words.
type keeper struct {
	k                       *kern.Kern
	c                       *commons.Commons
	env, slot, phase, stamp int
	s                       api.Sys
}

func (m *keeper) start(s api.Sys) bool {
	m.c.Look()
	p, is := m.c.Proc(m.slot)
	if m.phase != 0 || is != 1 || p.State == 2 {
		return false
	}
	s.D = slices.Clone(s.D)
	m.s, m.phase = s, 1
	return true
}

func (m *keeper) pick() (api.Out, bool) {
	m.c.Look()
	p, is := m.c.Proc(m.slot)
	switch {
	case is == 0, is == 1 && p.State == 2:
		m.out()
		return api.Out{}, false
	case is == 1 && p.State == 3:
		if m.phase == 2 {
			m.leave()
			m.phase = 1
		}
		return api.Out{}, false
	case is == 2 && m.phase == 0:
		return api.Out{}, false
	case is == 2:
		if m.phase == 2 {
			m.leave()
		}
		if m.phase == 1 {
			m.k.Sect(section).Quit(m.env)
		}
		m.phase = 0
		return api.Out{Slot: m.slot, Sys: m.s, E: 105, Back: true}, true
	}
	return m.goesOn(p)
}

// goesOn is a Pick of a slot that is DGood and PLive.
func (m *keeper) goesOn(p api.Proc) (api.Out, bool) {
	switch m.phase {
	case 0:
		o := api.Out{Slot: m.slot}
		m.end(&o)
		if len(o.Sigs) > 0 || o.Dies > 0 {
			return o, true
		}
	case 1:
		if a := m.k.Do(m.env, api.Call{Op: 8, N: section}); a.N > 0 {
			m.phase, m.stamp = 2, a.N
		}
	case 2:
		if !m.k.Sect(section).Holds(m.env, m.stamp) {
			m.k.Sect(section).Quit(m.env)
			m.phase = 1
			break
		}
		r := calls.Do(m.c, m.slot, m.s)
		m.leave()
		if r.Block {
			m.phase = 3
			break
		}
		m.phase = 0
		o := api.Out{Slot: m.slot, Sys: m.s, N: r.N, E: r.E, B: r.B, Back: true}
		if m.s.Op != 3 {
			m.end(&o)
		}
		return o, true
	case 3:
		if sig.Wakes(p) {
			m.phase = 0
			o := api.Out{Slot: m.slot, Sys: m.s, E: 104, Back: true}
			m.end(&o)
			return o, true
		}
		if is, _ := pred.Eval(m.c.View(), m.k.Now(), calls.Wake(m.c, m.slot, m.s)...); is {
			m.phase = 1
		}
	}
	return api.Out{}, false
}

func (m *keeper) end(o *api.Out) {
	p, is := m.c.Proc(m.slot)
	if is != 1 || p.State != 1 {
		return
	}
	p, o.Sigs, o.Dies = sig.Deliver(p)
	m.c.SetProc(m.slot, p)
	if o.Dies > 0 {
		proc.Exit(m.c, m.slot, 128+o.Dies)
	}
}

func (m *keeper) leave() {
	m.k.Do(m.env, api.Call{Op: 9, N: section, At: m.stamp})
}

// out has it be HIdle, and neither in nor in the queue.
func (m *keeper) out() {
	if m.phase == 1 || m.phase == 2 {
		m.k.Sect(section).Quit(m.env)
	}
	m.phase = 0
}

func (m *keeper) fresh() {
	m.out()
	if c, e := commons.New(m.k, m.env); e == 0 {
		m.c = c
	}
}

// A pair is the same session twice: in one it is Hosts that are picked, in the other one keepers.
type pair struct {
	w, twin *room
	keepers [8]*keeper
}

// twins is s twice.
func twins(t *testing.T, s sess) *pair {
	t.Helper()
	p := &pair{w: start(t, s), twin: start(t, s)}
	for i := range p.keepers {
		p.keep(i)
	}
	return p
}

// keep has the twin's Host of a slot be a keeper.
func (p *pair) keep(i int) {
	h := p.twin.hosts[i]
	p.keepers[i] = &keeper{k: p.twin.k, c: h.Commons(), env: h.env, slot: i}
}

// by has the Host of a slot, and its keeper, be of other Caps.
func (p *pair) by(i int, caps [regions]api.Cap) {
	p.w.t.Helper()
	p.w.by(i, caps)
	p.twin.by(i, caps)
	p.keep(i)
}

// both does the same to both.
func (p *pair) both(f func(w *room)) {
	f(p.w)
	f(p.twin)
}

// start starts, and fails unless all is as the chapter says.
func (p *pair) start(i int, s api.Sys) bool {
	p.w.t.Helper()
	handed := slices.Clone(s.D)
	got, want := p.w.hosts[i].Start(s), p.keepers[i].start(s)
	if got != want || !bytes.Equal(handed, s.D) {
		p.w.t.Errorf("Start of %d, %+v: %v, want %v; %v was handed in", i, s, got, want, handed)
	}
	clear(s.D)
	p.same(fmt.Sprintf("Start of %d, %+v", i, s))
	return got
}

// pick picks, and fails unless all is as the chapter says.
func (p *pair) pick(i int) (api.Out, bool) {
	p.w.t.Helper()
	o, ok := p.w.hosts[i].Pick()
	want, is := p.keepers[i].pick()
	if text(o, ok) != text(want, is) {
		p.w.t.Errorf("Pick of %d: %s, want %s", i, text(o, ok), text(want, is))
	}
	p.same(fmt.Sprintf("Pick of %d, %s", i, text(o, ok)))
	return o, ok
}

// fresh has a Host and its keeper be fresh.
func (p *pair) fresh(i int) {
	p.w.t.Helper()
	p.w.hosts[i].Fresh()
	p.keepers[i].fresh()
	p.same(fmt.Sprint("Fresh of ", i))
}

// same fails unless both are at the same, have the same bytes, and know the same to be bad.
func (p *pair) same(behind string) {
	t := p.w.t
	t.Helper()
	if is, want := p.w.gate(), p.twin.gate(); is != want {
		t.Errorf("%s: the section is %s, want %s", behind, is, want)
	}
	is, want := p.w.all(), p.twin.all()
	for r := range regions {
		if !bytes.Equal(is[r], want[r]) {
			t.Errorf("%s leaves in region %d\n%v, want\n%v", behind, r, is[r], want[r])
		}
	}
	for i, h := range p.w.hosts {
		m := p.keepers[i]
		if h.Phase() != m.phase {
			t.Errorf("%s: %d is at %d, want %d", behind, i, h.Phase(), m.phase)
		}
		if is, want := h.Commons().Bad(), m.c.Bad(); !slices.Equal(is, want) {
			t.Errorf("%s: %d knows %v to be bad, want %v", behind, i, is, want)
		}
	}
}

// faults is what audit says of the commons.
func (w *room) faults() []string {
	w.t.Helper()
	return audit.Faults(w.raw(ours))
}

// random is some session, with much that is odd.
func random(r *rand.Rand) sess {
	s := sess{procs: procs{}, files: files{}, pipes: rings{}, front: r.Intn(2)}
	if r.Intn(12) == 0 {
		s.front = -1
	}
	for i := range 8 {
		if r.Intn(6) > 0 {
			s.procs[i] = randomProc(r)
		}
	}
	for i := range 12 {
		if r.Intn(4) == 0 {
			continue
		}
		f := api.File{Kind: 1 + r.Intn(2), Pipe: r.Intn(6), Refs: []int{1, 1, 2, 3, 63, 64}[r.Intn(6)], Flags: r.Intn(4) / 3}
		if r.Intn(6) == 0 {
			f.Kind, f.Pipe = 3, 0
		}
		s.files[i] = f
	}
	for i := tty; i < 6; i++ {
		if r.Intn(5) > 0 {
			s.pipes[i] = randomPipe(r)
		}
	}
	return s
}

// randomProc is some process, mostly one that goes on, with few signals.
func randomProc(r *rand.Rand) api.Proc {
	p := api.Proc{State: []int{1, 1, 1, 1, 1, 1, 2, 3}[r.Intn(8)], Parent: r.Intn(9), Group: r.Intn(2), Mask: r.Intn(128) << 1}
	p.Ignored = r.Intn(1<<15) << 1 &^ (1<<9 | 1<<14) & (r.Intn(1<<15) << 1)
	p.Caught = r.Intn(1<<15) << 1 &^ (1<<9 | 1<<14) &^ p.Ignored
	if p.State == 2 {
		p.Code = r.Intn(256)
		return p
	}
	for range max(0, r.Intn(6)-3) {
		p.Pending |= 1 << (1 + r.Intn(15))
	}
	for at := range p.Fds {
		p.Fds[at] = max(0, r.Intn(18)-5)
	}
	return p
}

func randomPipe(r *rand.Rand) api.Pipe {
	p := ends(min(r.Intn(4), 2), min(r.Intn(4), 2))
	p.Head, p.Count = r.Intn(32), []int{0, 0, 0, 1 + r.Intn(8), r.Intn(33), 24 + r.Intn(9), 32}[r.Intn(7)]
	r.Read(p.Data[:])
	return p
}

// some is a call at large, mostly of what there is.
func some(r *rand.Rand) api.Sys {
	s := sys(1+r.Intn(18), r.Intn(8), r.Intn(8))
	if r.Intn(3) == 0 {
		s.Op = []int{api.URead, api.UWrite}[r.Intn(2)]
	}
	switch s.Op {
	case api.UKill:
		s.A, s.B = r.Intn(16), r.Intn(16)
	case api.UMask:
		s.A = r.Intn(65536)
	case api.USig:
		s.A, s.B = r.Intn(16), r.Intn(3)
	case api.URead:
		s.B = r.Intn(33)
	case api.UWrite:
		s.D = make([]byte, []int{r.Intn(9), r.Intn(9), r.Intn(33), 33 + r.Intn(3)}[r.Intn(4)])
		r.Read(s.D)
	case api.UNow:
		s.B = r.Intn(2)
	}
	if r.Intn(30) == 0 {
		s.Op = wild[r.Intn(len(wild))]
	}
	if r.Intn(15) == 0 {
		s.A = wild[r.Intn(len(wild))]
	}
	if r.Intn(15) == 0 {
		s.B = wild[r.Intn(len(wild))]
	}
	return s
}
