package fds

import (
	"bytes"
	"cmp"
	"fmt"
	"maps"
	"math"
	"slices"
	"testing"

	"commonage/api"
	"commonage/commons"
	"commonage/kern"
	"commonage/ofile"
	"commonage/pslot"
	"commonage/ring"
)

var wild = []int{math.MinInt, math.MinInt + 1, -1 << 62, -1 << 32, -65536, -257, -256, -255, -24, -8, -3, -2, -1, 0, 1, 2, 3, 4, 5, 6, 7, 8, 9, 10, 11, 12, 13, 14, 15, 16, 17, 24, 31, 32, 63, 64, 65, 127, 128, 255, 256, 257, 511, 512, 513, 65535, 65536, 1 << 31, 1 << 32, 1<<32 + 1, 1<<61 + 1, 1 << 62, math.MaxInt - 1, math.MaxInt}

// The regions of a session: its commons, and two bridges, pipes 4 and 5.
const (
	ours = iota
	bridgeA
	bridgeB
	regions
)

// boot is a Boot of two sessions with two bridges between them. Environment 0 is one who keeps to the document, 1 one of the same session who writes anything, 2 is of the other session, and 3 has no Caps.
func boot() api.Boot {
	return api.Boot{
		Frames: []int{20, 20, 1},
		Envs:   []int{0, 0, 1, 2},
		Lease:  5,
		Shared: []api.Share{
			{N: 492, To: []int{0}},
			{Frame: 8, N: 40, To: []int{0, 1}},
			{Session: 1, Frame: 9, Lo: 3, N: 40, To: []int{1, 0}},
			{Session: 1, N: 492, To: []int{1}},
		},
	}
}

// sess is what a session has, as values; what is not told is free. A zero Proc, File or Pipe is a bad one.
type sess struct {
	procs map[int]api.Proc
	files map[int]api.File
	pipes map[int]api.Pipe
}

// A world is a session, as one reaches it by a Commons, and the same in the chapter's words.
type world struct {
	t *testing.T
	k *kern.Kern
	c *commons.Commons
	m model
}

// start is a world of a new kernel where s is, with bridges of one end each where s tells of none.
func start(t *testing.T, s sess) *world {
	t.Helper()
	k, e := kern.New(boot())
	if e != api.OK {
		t.Fatal(e)
	}
	w := &world{t: t, k: k, m: model{bad: map[api.Rec]bool{}}}
	for r := range regions {
		w.m.read[r], w.m.write[r] = size(r), size(r)
	}
	w.lay(4, api.Pipe{Readers: 1, Writers: 1})
	w.lay(5, api.Pipe{Readers: 1, Writers: 1})
	w.write(ours, 448, rowOf(api.Pipe{Readers: 1, Writers: 1}))
	w.write(ours, 488, []byte{0, 211, 213, 0})
	for i, p := range s.procs {
		w.lay(i, p)
	}
	for i, f := range s.files {
		w.lay(i, f)
	}
	for i, p := range s.pipes {
		w.lay(i, p)
	}
	w.c, e = commons.New(k, 0)
	if e != api.OK {
		t.Fatal(e)
	}
	return w
}

// size is how many bytes a region of a session has.
func size(region int) int { return [...]int{492, 40, 40}[region] }

// by is w by a Commons of other Caps: the first n bytes of each region, with these rights.
func (w *world) by(caps [regions]api.Cap) *world {
	w.t.Helper()
	for r, c := range caps {
		c.Obj = r
		if _, e := w.k.Space().Put(3, c); e != api.OK {
			w.t.Fatal(e)
		}
		w.m.read[r], w.m.write[r] = c.Rights%2*c.N, c.Rights/2%2*c.N
	}
	c, e := commons.New(w.k, 3)
	if e != api.OK {
		w.t.Fatal(e)
	}
	w.c = c
	return w
}

// write has one whom nobody trusts write bytes.
func (w *world) write(region, at int, b []byte) {
	w.t.Helper()
	if a := w.k.Do(1, api.Call{Op: api.KWrite, Cap: w.k.Space().Names(1)[region], At: at, B: b}); a.E != api.OK {
		w.t.Fatal(region, at, a.E)
	}
}

// lay has one whom nobody trusts write a record; of a zero one bytes that are bad.
func (w *world) lay(i int, v any) {
	w.t.Helper()
	b := rowOf(v)
	if b == nil {
		b = []byte{99}
	}
	region, at, _ := lies(recOf(i, v))
	w.write(region, at, b)
}

// spoil has one whom nobody trusts turn a byte of a record, so that it is bad, or back.
func (w *world) spoil(x api.Rec) {
	w.t.Helper()
	region, at, _ := lies(x)
	w.write(region, at, []byte{w.raw(region)[at] ^ 85})
}

// raw is what a region has.
func (w *world) raw(region int) []byte {
	w.t.Helper()
	b, e := w.k.Regions().Raw(region)
	if e != api.OK {
		w.t.Fatal(e)
	}
	return b
}

// all is what all regions have, the other session's too.
func (w *world) all() [][]byte {
	w.t.Helper()
	l := make([][]byte, w.k.Regions().Len())
	for r := range l {
		l[r] = w.raw(r)
	}
	return l
}

// rowOf are the bytes of a record; none of a zero one.
func rowOf(v any) []byte {
	var b []byte
	switch x := v.(type) {
	case api.Proc:
		b, _ = pslot.Encode(x)
	case api.File:
		b, _ = ofile.Encode(x)
	case api.Pipe:
		if x != (api.Pipe{}) {
			b, _ = ring.Encode(x)
		}
	}
	return b
}

func recOf(i int, v any) api.Rec {
	switch v.(type) {
	case api.Proc:
		return aProc(i)
	case api.File:
		return aFile(i)
	}
	return aPipe(i)
}

func aProc(i int) api.Rec { return api.Rec{Kind: 1, Index: i} }
func aFile(i int) api.Rec { return api.Rec{Kind: 2, Index: i} }
func aPipe(i int) api.Rec { return api.Rec{Kind: 3, Index: i} }

// isRec tells whether there is a record of that Kind and number.
func isRec(x api.Rec) bool { return x.Index >= 0 && x.Index < counts()[x.Kind] }

// counts is how many records there are of each Kind.
func counts() [6]int { return [6]int{0, 8, 12, 6, 1, 1} }

// recs are all records of a session with two bridges, by Kind, then Index.
func recs() []api.Rec {
	var l []api.Rec
	for kind, n := range counts() {
		for i := range n {
			l = append(l, api.Rec{Kind: kind, Index: i})
		}
	}
	return l
}

// lies is where a record is: the region, the first byte, and how many they are.
func lies(x api.Rec) (region, at, n int) {
	switch {
	case x.Kind == 1:
		return ours, 24 * x.Index, 24
	case x.Kind == 2:
		return ours, 192 + 8*x.Index, 8
	case x.Kind == 3 && x.Index < 4:
		return ours, 288 + 40*x.Index, 40
	case x.Kind == 3:
		return x.Index - 3, 0, 40
	case x.Kind == 4:
		return ours, 448, 40
	}
	return ours, 488, 4
}

// A model is the commons of a session and its bridges in the words of chapter 15: bytes, how many of each region may be read and written, and what was bad once.
type model struct {
	b           [regions][]byte
	read, write [regions]int
	bad         map[api.Rec]bool
}

// get is the bytes of a record, none if it can't be read.
func (m *model) get(x api.Rec) []byte {
	if !isRec(x) || m.bad[x] {
		return nil
	}
	region, at, n := lies(x)
	if at+n > m.read[region] {
		return nil
	}
	return m.b[region][at : at+n]
}

// put writes the bytes of a record, if it can be written.
func (m *model) put(x api.Rec, b []byte) bool {
	if !isRec(x) || m.bad[x] || b == nil {
		return false
	}
	region, at, n := lies(x)
	if at+n > m.write[region] {
		return false
	}
	copy(m.b[region][at:at+n], b)
	return true
}

// The records of chapter 15, one by one.
func (m *model) proc(i int) (api.Proc, int)     { return pslot.Decode(m.get(aProc(i))) }
func (m *model) file(i int) (api.File, int)     { return ofile.Decode(m.get(aFile(i))) }
func (m *model) pipe(i int) (api.Pipe, int)     { return ring.Decode(m.get(aPipe(i))) }
func (m *model) term() (api.Pipe, int)          { return ring.Decode(m.get(api.Rec{Kind: 4})) }
func (m *model) front() []byte                  { return m.get(api.Rec{Kind: 5}) }
func (m *model) setProc(i int, p api.Proc) bool { return m.put(aProc(i), rowOf(p)) }
func (m *model) setFile(i int, f api.File) bool { return m.put(aFile(i), rowOf(f)) }
func (m *model) freeFile(i int) bool            { return m.put(aFile(i), make([]byte, 8)) }
func (m *model) freePipe(i int) bool            { return m.put(aPipe(i), make([]byte, 40)) }

// setPipe may set a pipe without ends, too, since a bridge may be one.
func (m *model) setPipe(i int, p api.Pipe) bool {
	b, _ := ring.Encode(p)
	return m.put(aPipe(i), b)
}

func fails(e api.Errno) api.Ret { return api.Ret{E: e} }

// look is Look in the words of chapter 15.
func (m *model) look() {
	for _, x := range recs() {
		is := 0
		switch x.Kind {
		case 1:
			_, is = m.proc(x.Index)
		case 2:
			_, is = m.file(x.Index)
		case 3:
			_, is = m.pipe(x.Index)
		case 4:
			_, is = m.term()
		case 5:
			if b := m.front(); len(b) != 4 || b[0] > 7 || b[1] != 211 || b[2] != b[0]+213 || b[3] != 0 {
				is = 2
			}
		}
		if is == 2 {
			m.bad[x] = true
		}
	}
}

// self is Self in the words of chapter 17.
func (m *model) self(i int) (api.Proc, api.Errno) {
	p, is := m.proc(i)
	if is != 1 || p.State != 1 {
		return api.Proc{}, 105
	}
	return p, 0
}

// closeFile is CloseFile in the words of chapter 17.
func (m *model) closeFile(i int) api.Errno {
	f, is := m.file(i)
	if is != 1 {
		return 105
	}
	if f.Refs > 1 {
		f.Refs--
		if !m.setFile(i, f) {
			return 105
		}
		return 0
	}
	if !m.freeFile(i) {
		return 105
	}
	if f.Kind == 3 {
		return 0
	}
	p, is := m.pipe(f.Pipe)
	if is != 1 {
		return 105
	}
	if f.Kind == 1 && p.Readers > 0 {
		p.Readers--
	}
	if f.Kind == 2 && p.Writers > 0 {
		p.Writers--
	}
	ok := false
	if f.Pipe < 4 && p.Readers == 0 && p.Writers == 0 {
		ok = m.freePipe(f.Pipe)
	} else {
		ok = m.setPipe(f.Pipe, p)
	}
	if !ok {
		return 105
	}
	return 0
}

// of is Of in the chapter's words.
func (m *model) of(i, fd int) (int, api.File, api.Errno) {
	p, e := m.self(i)
	if e != 0 {
		return 0, api.File{}, e
	}
	if fd < 0 || fd > 7 || p.Fds[fd] == 0 {
		return 0, api.File{}, 109
	}
	f := p.Fds[fd] - 1
	x, is := m.file(f)
	if is != 1 {
		return 0, api.File{}, 105
	}
	return f, x, 0
}

// makePipe is Pipe in the chapter's words.
func (m *model) makePipe(i int) api.Ret {
	p, e := m.self(i)
	if e != 0 {
		return fails(e)
	}
	var fds, files, pipes []int
	for fd, f := range p.Fds {
		if f == 0 {
			fds = append(fds, fd)
		}
	}
	for f := range 12 {
		if _, is := m.file(f); is == 0 {
			files = append(files, f)
		}
	}
	for n := range 4 {
		if _, is := m.pipe(n); is == 0 {
			pipes = append(pipes, n)
		}
	}
	if len(fds) < 2 {
		return fails(124)
	}
	if len(files) < 2 || len(pipes) < 1 {
		return fails(123)
	}
	if !m.setPipe(pipes[0], api.Pipe{Readers: 1, Writers: 1}) || !m.setFile(files[0], api.File{Kind: 1, Pipe: pipes[0], Refs: 1}) || !m.setFile(files[1], api.File{Kind: 2, Pipe: pipes[0], Refs: 1}) {
		return fails(105)
	}
	p.Fds[fds[0]] = files[0] + 1
	p.Fds[fds[1]] = files[1] + 1
	if !m.setProc(i, p) {
		return fails(105)
	}
	return api.Ret{N: fds[0] + 16*fds[1]}
}

// shut is Close in the chapter's words.
func (m *model) shut(i, fd int) api.Ret {
	p, e := m.self(i)
	if e != 0 {
		return fails(e)
	}
	if fd < 0 || fd > 7 || p.Fds[fd] == 0 {
		return fails(109)
	}
	f := p.Fds[fd] - 1
	p.Fds[fd] = 0
	if !m.setProc(i, p) {
		return fails(105)
	}
	return fails(m.closeFile(f))
}

// dup is Dup in the chapter's words.
func (m *model) dup(i, fd int) api.Ret {
	f, x, e := m.of(i, fd)
	if e != 0 {
		return fails(e)
	}
	p, _ := m.self(i)
	least := slices.Index(p.Fds[:], 0)
	if least < 0 {
		return fails(124)
	}
	if x.Refs >= 64 {
		return fails(123)
	}
	x.Refs++
	p.Fds[least] = f + 1
	if !m.setFile(f, x) || !m.setProc(i, p) {
		return fails(105)
	}
	return api.Ret{N: least}
}

// dup2 is Dup2 in the chapter's words.
func (m *model) dup2(i, fd, to int) api.Ret {
	f, x, e := m.of(i, fd)
	switch {
	case e != 0:
		return fails(e)
	case to < 0 || to > 7:
		return fails(109)
	case to == fd:
		return api.Ret{N: to}
	case x.Refs >= 64:
		return fails(123)
	}
	x.Refs++
	if !m.setFile(f, x) {
		return fails(105)
	}
	m.shut(i, to)
	p, _ := m.self(i)
	p.Fds[to] = f + 1
	if !m.setProc(i, p) {
		return fails(105)
	}
	return api.Ret{N: to}
}

// now is Now in the chapter's words.
func (m *model) now(i, fd, on int) api.Ret {
	f, x, e := m.of(i, fd)
	if e != 0 {
		return fails(e)
	}
	if on != 0 && on != 1 {
		return fails(122)
	}
	x.Flags = on
	if !m.setFile(f, x) {
		return fails(105)
	}
	return api.Ret{}
}

// The calls of this layer.
const (
	pipe = iota
	shut
	dup
	dup2
	now
	of
	ops
)

// An ask is a call with its arguments, of which some take fewer than three.
type ask struct{ op, i, a, b int }

// A told is what a call answers: a Ret, and of Of a file.
type told struct {
	api.Ret
	f int
	x api.File
}

// byFds is what the program answers.
func (x ask) byFds(c *commons.Commons) (r told) {
	switch x.op {
	case pipe:
		r.Ret = Pipe(c, x.i)
	case shut:
		r.Ret = Close(c, x.i, x.a)
	case dup:
		r.Ret = Dup(c, x.i, x.a)
	case dup2:
		r.Ret = Dup2(c, x.i, x.a, x.b)
	case now:
		r.Ret = Now(c, x.i, x.a, x.b)
	case of:
		r.f, r.x, r.E = Of(c, x.i, x.a)
	}
	return r
}

// byModel is what the chapter answers.
func (x ask) byModel(m *model) (r told) {
	m.look()
	switch x.op {
	case pipe:
		r.Ret = m.makePipe(x.i)
	case shut:
		r.Ret = m.shut(x.i, x.a)
	case dup:
		r.Ret = m.dup(x.i, x.a)
	case dup2:
		r.Ret = m.dup2(x.i, x.a, x.b)
	case now:
		r.Ret = m.now(x.i, x.a, x.b)
	case of:
		r.f, r.x, r.E = m.of(x.i, x.a)
	}
	return r
}

// do asks, and fails unless the answer, all bytes and all that is bad are as the chapter says.
func (w *world) do(x ask) told {
	w.t.Helper()
	was := w.all()
	for r := range regions {
		w.m.b[r] = slices.Clone(was[r])
	}
	want, got := x.byModel(&w.m), x.byFds(w.c)
	if text(got) != text(want) {
		w.t.Errorf("%+v answers %s, want %s", x, text(got), text(want))
	}
	for r, b := range w.all() {
		wants := was[r]
		if r < regions {
			wants = w.m.b[r]
		}
		if !bytes.Equal(b, wants) {
			w.t.Errorf("%+v leaves in region %d\n%v, want\n%v, was\n%v", x, r, b, wants, was[r])
		}
	}
	w.isBad(slices.SortedFunc(maps.Keys(w.m.bad), func(a, b api.Rec) int {
		return cmp.Or(cmp.Compare(a.Kind, b.Kind), cmp.Compare(a.Index, b.Index))
	})...)
	return got
}

// text tells all that is answered.
func text(r told) string { return fmt.Sprint(r.N, int(r.E), r.B, r.Block, r.f, r.x) }

// asks fails unless it is answered so.
func (w *world) asks(x ask, want api.Ret) {
	w.t.Helper()
	if got := w.do(x); text(got) != text(told{Ret: want}) {
		w.t.Errorf("%+v answers %s, want %s", x, text(got), text(told{Ret: want}))
	}
}

// gives fails unless it is answered with that number.
func (w *world) gives(x ask, n int) {
	w.t.Helper()
	w.asks(x, api.Ret{N: n})
}

// refuses fails unless it is answered with an error, and nothing else is another one then.
func (w *world) refuses(x ask, e api.Errno) {
	w.t.Helper()
	was := w.all()
	w.asks(x, api.Ret{E: e})
	if is := w.all(); !slices.EqualFunc(is, was, bytes.Equal) {
		w.t.Errorf("%+v leaves %v, was %v", x, is, was)
	}
}

func (w *world) isBad(want ...api.Rec) {
	w.t.Helper()
	if got := w.c.Bad(); !slices.Equal(got, want) {
		w.t.Errorf("Bad() = %v, want %v", got, want)
	}
}

// is what a Decode says: the record, or zero and whether it is free or bad.
type is[T any] struct {
	v    T
	what int
}

func isOf[T any](v T, what int) is[T] { return is[T]{v, what} }

func wants[T comparable](l map[int]T, i int) is[T] {
	v, there := l[i]
	var zero T
	switch {
	case !there:
		return is[T]{zero, api.DFree}
	case v == zero:
		return is[T]{zero, api.DBad}
	}
	return is[T]{v, api.DGood}
}

// has fails unless the session has just what s tells; of pipes that s does not tell the bridges are not looked at.
func (w *world) has(s sess) {
	w.t.Helper()
	b := w.raw(ours)
	for i := range 8 {
		if got, want := isOf(pslot.Decode(b[24*i:24*i+24])), wants(s.procs, i); got != want {
			w.t.Errorf("process %d is %+v, want %+v", i, got, want)
		}
	}
	for i := range 12 {
		if got, want := isOf(ofile.Decode(b[192+8*i:200+8*i])), wants(s.files, i); got != want {
			w.t.Errorf("file %d is %+v, want %+v", i, got, want)
		}
	}
	for i := range 6 {
		if _, there := s.pipes[i]; i > 3 && !there {
			continue
		}
		region, at, n := lies(aPipe(i))
		if got, want := isOf(ring.Decode(w.raw(region)[at:at+n])), wants(s.pipes, i); got != want {
			w.t.Errorf("pipe %d is %+v, want %+v", i, got, want)
		}
	}
}

// live is a process that goes on, of group 0, with these Fds.
func live(parent int, fds ...int) api.Proc {
	p := api.Proc{State: api.PLive, Parent: parent}
	copy(p.Fds[:], fds)
	return p
}

func zombie(parent, code int) api.Proc {
	return api.Proc{State: api.PZombie, Parent: parent, Code: code}
}

func stopped(parent int) api.Proc { return api.Proc{State: api.PStopped, Parent: parent} }

func term(refs int) api.File { return api.File{Kind: api.FTerm, Refs: refs} }

func reads(pipe, refs int) api.File { return api.File{Kind: api.FRead, Pipe: pipe, Refs: refs} }

func writes(pipe, refs int) api.File { return api.File{Kind: api.FWrite, Pipe: pipe, Refs: refs} }

// A few of each, by number.
type (
	procs = map[int]api.Proc
	files = map[int]api.File
	pipes = map[int]api.Pipe
)
