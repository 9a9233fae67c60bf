package calls

import (
	"bytes"
	"fmt"
	"math"
	"math/rand"
	"slices"
	"testing"

	"commonage/api"
	"commonage/commons"
	"commonage/fds"
	"commonage/kern"
	"commonage/ofile"
	"commonage/pipes"
	"commonage/proc"
	"commonage/pslot"
	"commonage/ring"
)

var wild = []int{math.MinInt, math.MinInt + 1, -1 << 62, -1 << 32, -65536, -65535, -10000, -9999, -257, -256, -19, -18, -8, -3, -2, -1, 0, 1, 2, 3, 4, 5, 6, 7, 8, 9, 10, 11, 12, 13, 14, 15, 16, 17, 18, 19, 20, 32, 33, 40, 63, 64, 127, 128, 255, 256, 257, 9999, 10000, 65535, 65536, 1 << 31, 1 << 32, 1<<32 + 1, 1<<32 + 10, 1<<61 + 1, 1 << 62, math.MaxInt - 1, math.MaxInt}

// The environments: one who keeps to the document and one of the same session who writes anything; one of another session; and one without Caps.
const (
	envHonest = iota
	envWild
	envOther
	envBare
)

// The regions: the commons, and two bridges to another session, pipes 4 and 5.
const (
	ours = iota
	bridgeA
	bridgeB
	regions
)

// tty stands for the terminal where a pipe's number is asked for.
const tty = -1

// rw is a right to read and write.
const rw = api.RRead | api.RWrite

func boot() api.Boot {
	return api.Boot{
		Frames: []int{20, 20, 1},
		Envs:   []int{0, 0, 1, 2},
		Lease:  5,
		Shared: []api.Share{
			{N: 492, To: []int{0}},
			{Frame: 8, N: 40, To: []int{0, 1}},
			{Session: 1, Frame: 9, Lo: 3, N: 40, To: []int{1, 0}},
		},
	}
}

// size is how many bytes a region has.
func size(region int) int { return [...]int{492, 40, 40}[region] }

// sess is what a session has, as values; what is not told is free, but the bridges and the terminal, which have one end each way then. A zero Proc, File or Pipe is a bad one, and so is a front below 0.
type sess struct {
	procs map[int]api.Proc
	files map[int]api.File
	pipes map[int]api.Pipe
	front int
}

// A few of each, by number.
type (
	procs = map[int]api.Proc
	files = map[int]api.File
	rings = map[int]api.Pipe
)

// A world is a session, as one reaches it by a Commons of a kernel.
type world struct {
	t *testing.T
	k *kern.Kern
	c *commons.Commons
}

// start is a world of a new kernel where s is.
func start(t *testing.T, s sess) *world {
	t.Helper()
	k, e := kern.New(boot())
	if e != api.OK {
		t.Fatal(e)
	}
	w := &world{t: t, k: k}
	for i, p := range s.procs {
		w.lay(aProc(i), rowOf(p))
	}
	for i, f := range s.files {
		w.lay(aFile(i), rowOf(f))
	}
	for i := tty; i < 6; i++ {
		p, there := s.pipes[i]
		switch {
		case there:
			w.lay(aPipe(i), rowOf(p))
		case i == tty || i > 3:
			w.lay(aPipe(i), rowOf(ends(1, 1)))
		}
	}
	w.lay(theFront, frontOf(s.front))
	w.c = w.commons(envHonest)
	return w
}

func (w *world) commons(env int) *commons.Commons {
	w.t.Helper()
	c, e := commons.New(w.k, env)
	if e != api.OK {
		w.t.Fatal(e)
	}
	return c
}

// by is w by a Commons of other Caps: the first n bytes of each of its regions, with these rights.
func (w *world) by(caps [regions]api.Cap) *world {
	w.t.Helper()
	for r, c := range caps {
		c.Obj = r
		if _, e := w.k.Space().Put(envBare, c); e != api.OK {
			w.t.Fatal(e)
		}
	}
	w.c = w.commons(envBare)
	return w
}

// write has one whom nobody trusts write bytes.
func (w *world) write(region, at int, b []byte) {
	w.t.Helper()
	if a := w.k.Do(envWild, api.Call{Op: api.KWrite, Cap: w.k.Space().Names(envWild)[region], At: at, B: b}); a.E != api.OK {
		w.t.Fatal(region, at, a.E)
	}
}

// lay has one whom nobody trusts write the beginning of a record.
func (w *world) lay(x api.Rec, b []byte) {
	w.t.Helper()
	region, at, _ := lies(x)
	w.write(region, at, b)
}

// spoil has one whom nobody trusts turn a byte of a record, so that it is bad, or back.
func (w *world) spoil(x api.Rec) {
	w.t.Helper()
	region, at, _ := lies(x)
	w.write(region, at, []byte{w.raw(region)[at] ^ 85})
}

// raw is what a region has.
func (w *world) raw(region int) []byte {
	w.t.Helper()
	b, e := w.k.Regions().Raw(region)
	if e != api.OK {
		w.t.Fatal(e)
	}
	return b
}

// all is what all regions have.
func (w *world) all() [][]byte {
	w.t.Helper()
	l := make([][]byte, regions)
	for r := range l {
		l[r] = w.raw(r)
	}
	return l
}

// rowOf are the bytes of a record; of a zero one some that are bad.
func rowOf(v any) []byte {
	b, ok := []byte(nil), false
	switch x := v.(type) {
	case api.Proc:
		b, ok = pslot.Encode(x)
	case api.File:
		b, ok = ofile.Encode(x)
	case api.Pipe:
		b, ok = ring.Encode(x)
		ok = ok && x != (api.Pipe{})
	}
	if !ok {
		return []byte{99}
	}
	return b
}

// frontOf are the bytes of a front group; of one that is none bytes that are bad.
func frontOf(g int) []byte {
	if g < 0 || g > 7 {
		return []byte{9, 211, 222, 0}
	}
	return []byte{byte(g), 211, byte(213 + g), 0}
}

func aProc(i int) api.Rec { return api.Rec{Kind: 1, Index: i} }
func aFile(i int) api.Rec { return api.Rec{Kind: 2, Index: i} }

// aPipe is a pipe's record, or the terminal's.
func aPipe(i int) api.Rec {
	if i == tty {
		return api.Rec{Kind: 4}
	}
	return api.Rec{Kind: 3, Index: i}
}

var theFront = api.Rec{Kind: 5}

// recs are all records of a session with two bridges, by Kind, then Index.
func recs() []api.Rec {
	var l []api.Rec
	for kind, n := range []int{0, 8, 12, 6, 1, 1} {
		for i := range n {
			l = append(l, api.Rec{Kind: kind, Index: i})
		}
	}
	return l
}

// lies is where a record is: the region, the first byte, and how many they are.
func lies(x api.Rec) (region, at, n int) {
	switch {
	case x.Kind == 1:
		return ours, 24 * x.Index, 24
	case x.Kind == 2:
		return ours, 192 + 8*x.Index, 8
	case x.Kind == 3 && x.Index < 4:
		return ours, 288 + 40*x.Index, 40
	case x.Kind == 3:
		return bridgeA + x.Index - 4, 0, 40
	case x.Kind == 4:
		return ours, 448, 40
	}
	return ours, 488, 4
}

// live is a process that goes on, of group 0, with these Fds.
func live(fds ...int) api.Proc {
	p := api.Proc{State: api.PLive}
	copy(p.Fds[:], fds)
	return p
}

// in is p in another group.
func in(g int, p api.Proc) api.Proc {
	p.Group = g
	return p
}

func zombie() api.Proc { return api.Proc{State: api.PZombie, Parent: 3, Group: 2, Code: 9} }

func stopped(fds ...int) api.Proc {
	p := live(fds...)
	p.State = api.PStopped
	return p
}

func ends(readers, writers int) api.Pipe { return api.Pipe{Readers: readers, Writers: writers} }

// holds is p with these bytes.
func holds(p api.Pipe, b ...byte) api.Pipe {
	p.Head, p.Count = 0, copy(p.Data[:], b)
	return p
}

// reader is a file that reads a pipe, or the terminal.
func reader(at int) api.File {
	if at == tty {
		return api.File{Kind: api.FTerm, Refs: 1}
	}
	return api.File{Kind: api.FRead, Pipe: at, Refs: 1}
}

// writer is a file that writes a pipe.
func writer(at int) api.File { return api.File{Kind: api.FWrite, Pipe: at, Refs: 1} }

// run is n bytes, each one more than the one ahead.
func run(first byte, n int) []byte {
	b := make([]byte, n)
	for i := range b {
		b[i] = first + byte(i)
	}
	return b
}

func fails(e api.Errno) api.Ret { return api.Ret{E: e} }

func sys(op, a, b int, d ...byte) api.Sys { return api.Sys{Op: op, A: a, B: b, D: d} }

// text tells all that is answered.
func text(r api.Ret) string { return fmt.Sprint(r.N, int(r.E), r.B, r.Block) }

// below is what the chapter says of each Op, by the calls of the layers below that it names.
func below(c *commons.Commons, i int, s api.Sys) api.Ret {
	c.Look()
	switch s.Op {
	case 1, 6, 7, 17, 18:
		return ofSelf(c, i, s)
	case 2:
		return proc.Fork(c, i)
	case 3:
		return proc.Exit(c, i, s.A)
	case 4:
		return proc.Wait(c, i)
	case 5:
		return proc.Kill(c, i, s.A, s.B)
	case 8:
		return proc.Group(c, i, s.A, s.B)
	case 9:
		return fds.Pipe(c, i)
	case 10:
		return pipes.Read(c, i, s.A, s.B)
	case 11:
		return pipes.Write(c, i, s.A, s.D)
	case 12:
		return fds.Close(c, i, s.A)
	case 13:
		return fds.Dup(c, i, s.A)
	case 14:
		return fds.Dup2(c, i, s.A, s.B)
	case 15:
		return fds.Now(c, i, s.A, s.B)
	case 16:
		return pipes.Front(c, i, s.A)
	}
	return fails(122)
}

// ofSelf is what the chapter says of the calls that are about the process itself, with Mask and Handle in the words of chapter 14.
func ofSelf(c *commons.Commons, i int, s api.Sys) api.Ret {
	p, is := c.Proc(i)
	if is != 1 || p.State != 1 {
		return fails(105)
	}
	n := 0
	switch s.Op {
	case 1:
		return api.Ret{N: i}
	case 17:
		return api.Ret{N: p.Parent - 1}
	case 18:
		return api.Ret{N: p.Group}
	case 6:
		if s.A < 0 || s.A > 65535 {
			return fails(122)
		}
		n, p.Mask = p.Mask, s.A&^(1|1<<9|1<<14)
	case 7:
		if s.A < 1 || s.A > 15 || s.A == 9 || s.A == 14 || s.B < 0 || s.B > 2 {
			return fails(122)
		}
		bit := 1 << s.A
		p.Ignored, p.Caught = p.Ignored&^bit, p.Caught&^bit
		switch s.B {
		case 1:
			p.Ignored, p.Pending = p.Ignored|bit, p.Pending&^bit
		case 2:
			p.Caught |= bit
		}
	}
	if !c.SetProc(i, p) {
		return fails(105)
	}
	return api.Ret{N: n}
}

// A pair is the same session twice: one is asked by this layer, the other one by the layers below.
type pair struct{ w, twin *world }

// twins is s twice, each by a Commons of the same Caps, if there are some.
func twins(t *testing.T, s sess, caps ...[regions]api.Cap) pair {
	t.Helper()
	p := pair{start(t, s), start(t, s)}
	for _, c := range caps {
		p.w.by(c)
		p.twin.by(c)
	}
	return p
}

// spoil has a record be bad, or back, in both.
func (p pair) spoil(x api.Rec) {
	p.w.t.Helper()
	p.w.spoil(x)
	p.twin.spoil(x)
}

// lay has bytes of a record be others in both.
func (p pair) lay(x api.Rec, b []byte) {
	p.w.t.Helper()
	p.w.lay(x, b)
	p.twin.lay(x, b)
}

// do asks, and fails unless the answer, all bytes, all that is bad and what was handed in are as the chapter says.
func (p pair) do(i int, s api.Sys) api.Ret {
	t := p.w.t
	t.Helper()
	handed := slices.Clone(s.D)
	got, want := Do(p.w.c, i, s), below(p.twin.c, i, s)
	if text(got) != text(want) {
		t.Errorf("%d: %+v answers %s, want %s", i, s, text(got), text(want))
	}
	if !bytes.Equal(handed, s.D) {
		t.Errorf("%d: %+v had %v handed in", i, s, handed)
	}
	p.same(i, s)
	return got
}

// same fails unless both have the same bytes, and the same is bad.
func (p pair) same(i int, s api.Sys) {
	t := p.w.t
	t.Helper()
	is, want := p.w.all(), p.twin.all()
	for r := range regions {
		if !bytes.Equal(is[r], want[r]) {
			t.Errorf("%d: %+v leaves in region %d\n%v, want\n%v", i, s, r, is[r], want[r])
		}
	}
	if is, want := p.w.c.Bad(), p.twin.c.Bad(); !slices.Equal(is, want) {
		t.Errorf("%d: %+v knows %v to be bad, want %v", i, s, is, want)
	}
}

// asks fails unless it is answered so.
func (p pair) asks(i int, s api.Sys, want api.Ret) {
	p.w.t.Helper()
	if got := p.do(i, s); text(got) != text(want) {
		p.w.t.Errorf("%d: %+v answers %s, want %s", i, s, text(got), text(want))
	}
}

// leaves fails unless it is answered so, and no byte is another one then.
func (p pair) leaves(i int, s api.Sys, want api.Ret) {
	p.w.t.Helper()
	was := p.w.all()
	p.asks(i, s, want)
	if is := p.w.all(); !slices.EqualFunc(is, was, bytes.Equal) {
		p.w.t.Errorf("%d: %+v leaves %v, was %v", i, s, is, was)
	}
}

// has fails unless a slot has this process.
func (p pair) has(i int, want api.Proc) {
	p.w.t.Helper()
	got, is := pslot.Decode(p.w.raw(ours)[24*i : 24*i+24])
	if is != api.DGood || got != want {
		p.w.t.Errorf("process %d is %+v, want %+v", i, got, want)
	}
}

// random is some session, with much that is odd.
func random(r *rand.Rand) sess {
	s := sess{procs: procs{}, files: files{}, pipes: rings{}, front: r.Intn(3)}
	if r.Intn(12) == 0 {
		s.front = -1
	}
	for i := range 8 {
		if r.Intn(4) > 0 {
			s.procs[i] = randomProc(r)
		}
	}
	for i := range 12 {
		if r.Intn(4) == 0 {
			continue
		}
		f := api.File{Kind: 1 + r.Intn(2), Pipe: r.Intn(6), Refs: []int{1, 1, 2, 3, 63, 64}[r.Intn(6)], Flags: r.Intn(2)}
		switch r.Intn(12) {
		case 0, 1:
			f.Kind, f.Pipe = 3, 0
		case 2:
			f.Pipe = 6 + r.Intn(2)
		}
		s.files[i] = f
	}
	for i := tty; i < 6; i++ {
		if r.Intn(4) > 0 {
			s.pipes[i] = randomPipe(r)
		}
	}
	return s
}

func randomProc(r *rand.Rand) api.Proc {
	p := api.Proc{State: []int{1, 1, 1, 1, 2, 3}[r.Intn(6)], Parent: r.Intn(9), Group: r.Intn(3), Mask: r.Intn(128) << 1}
	p.Ignored = r.Intn(1<<15) << 1 &^ (1<<9 | 1<<14)
	p.Caught = r.Intn(1<<15) << 1 &^ (1<<9 | 1<<14) &^ p.Ignored
	if p.State == 2 {
		p.Code = r.Intn(256)
		return p
	}
	p.Pending = r.Intn(1<<15) << 1
	for at := range p.Fds {
		p.Fds[at] = max(0, r.Intn(18)-5)
	}
	return p
}

func randomPipe(r *rand.Rand) api.Pipe {
	p := ends(min(r.Intn(4), 2), min(r.Intn(4), 2))
	p.Head, p.Count = r.Intn(32), []int{0, 0, 1 + r.Intn(8), r.Intn(33), 24 + r.Intn(9), 32}[r.Intn(6)]
	r.Read(p.Data[:])
	return p
}

// some is a call at large, mostly of what there is.
func some(r *rand.Rand) (int, api.Sys) {
	i, s := r.Intn(8), sys(1+r.Intn(18), r.Intn(8), r.Intn(8))
	if r.Intn(3) == 0 {
		s.Op = []int{api.URead, api.UWrite}[r.Intn(2)]
	}
	switch s.Op {
	case api.UKill:
		s.A, s.B = r.Intn(16), r.Intn(16)
	case api.UMask:
		s.A = r.Intn(65536)
	case api.USig:
		s.A, s.B = r.Intn(16), r.Intn(3)
	case api.URead:
		s.B = r.Intn(33)
	case api.UWrite:
		s.D = make([]byte, []int{r.Intn(9), r.Intn(9), r.Intn(33), 33 + r.Intn(3)}[r.Intn(4)])
		r.Read(s.D)
	case api.UNow:
		s.B = r.Intn(2)
	}
	if r.Intn(30) == 0 {
		s.Op = wild[r.Intn(len(wild))]
	}
	if r.Intn(20) == 0 {
		i = wild[r.Intn(len(wild))]
	}
	if r.Intn(12) == 0 {
		s.A = wild[r.Intn(len(wild))]
	}
	if r.Intn(12) == 0 {
		s.B = wild[r.Intn(len(wild))]
	}
	if s.Op != api.UWrite && r.Intn(12) == 0 {
		s.D = run(byte(r.Intn(256)), r.Intn(5))
	}
	return i, s
}
