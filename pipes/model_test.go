package pipes

import (
	"bytes"
	"cmp"
	"fmt"
	"maps"
	"math"
	"slices"
	"testing"

	"commonage/api"
	"commonage/commons"
	"commonage/kern"
	"commonage/ofile"
	"commonage/pslot"
	"commonage/ring"
)

var wild = []int{math.MinInt, math.MinInt + 1, -1 << 62, -1 << 32, -65536, -257, -256, -255, -32, -24, -8, -3, -2, -1, 0, 1, 2, 3, 4, 5, 6, 7, 8, 9, 10, 11, 12, 15, 16, 24, 31, 32, 33, 40, 63, 64, 65, 127, 128, 255, 256, 257, 511, 512, 513, 65535, 65536, 1 << 31, 1 << 32, 1<<32 + 1, 1<<61 + 1, 1 << 62, math.MaxInt - 1, math.MaxInt}

// The regions: the commons of two sessions, and two bridges between them, pipes 4 and 5 of both.
const (
	ours = iota
	theirs
	bridgeA
	bridgeB
	regions
)

// The environments: one who keeps to the document and one of the same session who writes anything; two of the other session; and one without Caps.
const (
	envHonest = iota
	envWild
	envOther
	envOtherWild
	envBare
)

// tty stands for the terminal where a pipe's number is asked for.
const tty = -1

func boot() api.Boot {
	return api.Boot{
		Frames: []int{20, 20, 1},
		Envs:   []int{0, 0, 1, 1, 2},
		Lease:  5,
		Shared: []api.Share{
			{N: 492, To: []int{0}},
			{Session: 1, N: 492, To: []int{1}},
			{Frame: 8, N: 40, To: []int{0, 1}},
			{Session: 1, Frame: 9, Lo: 3, N: 40, To: []int{1, 0}},
		},
	}
}

// sess is what a session has, as values; what is not told is free, but the bridges and the terminal, which have one end each way then. A zero Proc, File or Pipe is a bad one, and so is a front below 0.
type sess struct {
	procs map[int]api.Proc
	files map[int]api.File
	pipes map[int]api.Pipe
	front int
}

// A few of each, by number.
type (
	procs = map[int]api.Proc
	files = map[int]api.File
	rings = map[int]api.Pipe
)

// A world is a session, as one reaches it by a Commons, and the same in the chapter's words.
type world struct {
	t *testing.T
	k *kern.Kern
	c *commons.Commons
	m model
}

// start is a world of a new kernel where s is.
func start(t *testing.T, s sess) *world {
	t.Helper()
	k, e := kern.New(boot())
	if e != api.OK {
		t.Fatal(e)
	}
	w := &world{t: t, k: k, m: model{bad: map[api.Rec]bool{}}}
	for r := range regions {
		w.m.read[r], w.m.write[r] = size(r), size(r)
	}
	for i, p := range s.procs {
		w.lay(i, p)
	}
	for i, f := range s.files {
		w.lay(i, f)
	}
	for i := tty; i < 6; i++ {
		if p, there := s.pipe(i); there {
			w.lay(i, p)
		}
	}
	w.write(ours, 488, frontOf(s.front))
	w.c = w.commons(envHonest)
	return w
}

func (w *world) commons(env int) *commons.Commons {
	w.t.Helper()
	c, e := commons.New(w.k, env)
	if e != api.OK {
		w.t.Fatal(e)
	}
	return c
}

// pipe is a pipe of s, or the terminal, false if it is free.
func (s sess) pipe(i int) (api.Pipe, bool) {
	if p, there := s.pipes[i]; there {
		return p, true
	}
	if i == tty || i > 3 {
		return ends(1, 1), true
	}
	return api.Pipe{}, false
}

// size is how many bytes a region has.
func size(region int) int { return [...]int{492, 492, 40, 40}[region] }

// byCaps are the regions of a session's Caps, in order.
func byCaps() [3]int { return [3]int{ours, bridgeA, bridgeB} }

// by is w by a Commons of other Caps: the first n bytes of each of its regions, with these rights.
func (w *world) by(caps [3]api.Cap) *world {
	w.t.Helper()
	for n, r := range byCaps() {
		c := caps[n]
		c.Obj = r
		if _, e := w.k.Space().Put(envBare, c); e != api.OK {
			w.t.Fatal(e)
		}
		w.m.read[r], w.m.write[r] = c.Rights%2*c.N, c.Rights/2%2*c.N
	}
	w.c = w.commons(envBare)
	return w
}

// write has one whom nobody trusts write bytes.
func (w *world) write(region, at int, b []byte) {
	w.t.Helper()
	env, name := envWild, slices.Index([]int{ours, bridgeA, bridgeB}, region)
	if region == theirs {
		env, name = envOtherWild, 0
	}
	if a := w.k.Do(env, api.Call{Op: api.KWrite, Cap: w.k.Space().Names(env)[name], At: at, B: b}); a.E != api.OK {
		w.t.Fatal(region, at, a.E)
	}
}

// lay has one whom nobody trusts write a record; of a zero one bytes that are bad.
func (w *world) lay(i int, v any) {
	w.t.Helper()
	b := rowOf(v)
	if b == nil {
		b = []byte{99}
	}
	region, at, _ := lies(recOf(i, v))
	w.write(region, at, b)
}

// blank has one whom nobody trusts make a record free.
func (w *world) blank(x api.Rec) {
	w.t.Helper()
	region, at, n := lies(x)
	w.write(region, at, make([]byte, n))
}

// spoil has one whom nobody trusts turn a byte of a record, so that it is bad, or back.
func (w *world) spoil(x api.Rec) {
	w.t.Helper()
	region, at, _ := lies(x)
	w.write(region, at, []byte{w.raw(region)[at] ^ 85})
}

// raw is what a region has.
func (w *world) raw(region int) []byte {
	w.t.Helper()
	b, e := w.k.Regions().Raw(region)
	if e != api.OK {
		w.t.Fatal(e)
	}
	return b
}

// all is what all regions have.
func (w *world) all() [][]byte {
	w.t.Helper()
	l := make([][]byte, w.k.Regions().Len())
	for r := range l {
		l[r] = w.raw(r)
	}
	return l
}

// rowOf are the bytes of a record; none of a zero one.
func rowOf(v any) []byte {
	var b []byte
	switch x := v.(type) {
	case api.Proc:
		b, _ = pslot.Encode(x)
	case api.File:
		b, _ = ofile.Encode(x)
	case api.Pipe:
		if x != (api.Pipe{}) {
			b, _ = ring.Encode(x)
		}
	}
	return b
}

// frontOf are the bytes of a front group, in the words of chapter 15; of one that is none bytes that are bad.
func frontOf(g int) []byte {
	if g < 0 || g > 7 {
		return []byte{9, 211, 222, 0}
	}
	return []byte{byte(g), 211, byte(213 + g), 0}
}

func recOf(i int, v any) api.Rec {
	switch v.(type) {
	case api.Proc:
		return aProc(i)
	case api.File:
		return aFile(i)
	}
	return aPipe(i)
}

func aProc(i int) api.Rec { return api.Rec{Kind: 1, Index: i} }
func aFile(i int) api.Rec { return api.Rec{Kind: 2, Index: i} }

// aPipe is a pipe's record, or the terminal's.
func aPipe(i int) api.Rec {
	if i == tty {
		return api.Rec{Kind: 4}
	}
	return api.Rec{Kind: 3, Index: i}
}

var theFront = api.Rec{Kind: 5}

// counts is how many records there are of each Kind.
func counts() [6]int { return [6]int{0, 8, 12, 6, 1, 1} }

// recs are all records of a session with two bridges, by Kind, then Index.
func recs() []api.Rec {
	var l []api.Rec
	for kind, n := range counts() {
		for i := range n {
			l = append(l, api.Rec{Kind: kind, Index: i})
		}
	}
	return l
}

// lies is where a record is: the region, the first byte, and how many they are.
func lies(x api.Rec) (region, at, n int) {
	switch {
	case x.Kind == 1:
		return ours, 24 * x.Index, 24
	case x.Kind == 2:
		return ours, 192 + 8*x.Index, 8
	case x.Kind == 3 && x.Index < 4:
		return ours, 288 + 40*x.Index, 40
	case x.Kind == 3:
		return bridgeA + x.Index - 4, 0, 40
	case x.Kind == 4:
		return ours, 448, 40
	}
	return ours, 488, 4
}

// A model is the commons of a session and its bridges in the words of chapter 15: bytes, how many of each region may be read and written, and what was bad once.
type model struct {
	b           [regions][]byte
	read, write [regions]int
	bad         map[api.Rec]bool
}

// get is the bytes of a record, none if it can't be read.
func (m *model) get(x api.Rec) []byte {
	if x.Index < 0 || x.Index >= counts()[x.Kind] || m.bad[x] {
		return nil
	}
	region, at, n := lies(x)
	if at+n > m.read[region] {
		return nil
	}
	return m.b[region][at : at+n]
}

// put writes the bytes of a record, if it can be written.
func (m *model) put(x api.Rec, b []byte) bool {
	if m.bad[x] || b == nil {
		return false
	}
	region, at, n := lies(x)
	if at+n > m.write[region] {
		return false
	}
	copy(m.b[region][at:at+n], b)
	return true
}

// The records of chapter 15, one by one.
func (m *model) proc(i int) (api.Proc, int)     { return pslot.Decode(m.get(aProc(i))) }
func (m *model) file(i int) (api.File, int)     { return ofile.Decode(m.get(aFile(i))) }
func (m *model) pipe(i int) (api.Pipe, int)     { return ring.Decode(m.get(aPipe(i))) }
func (m *model) setProc(i int, p api.Proc) bool { return m.put(aProc(i), rowOf(p)) }

func (m *model) front() (int, bool) {
	b := m.get(theFront)
	if len(b) != 4 || b[0] > 7 || !bytes.Equal(b, frontOf(int(b[0]))) {
		return 0, false
	}
	return int(b[0]), true
}

// setPipe may set a pipe without ends, too, since a bridge may be one.
func (m *model) setPipe(i int, p api.Pipe) bool {
	b, _ := ring.Encode(p)
	return m.put(aPipe(i), b)
}

func fails(e api.Errno) api.Ret { return api.Ret{E: e} }

// look is Look in the words of chapter 15.
func (m *model) look() {
	for _, x := range recs() {
		is := 0
		switch x.Kind {
		case 1:
			_, is = m.proc(x.Index)
		case 2:
			_, is = m.file(x.Index)
		case 3:
			_, is = m.pipe(x.Index)
		case 4:
			_, is = m.pipe(tty)
		case 5:
			if _, ok := m.front(); !ok {
				is = 2
			}
		}
		if is == 2 {
			m.bad[x] = true
		}
	}
}

// self is Self in the words of chapter 17.
func (m *model) self(i int) (api.Proc, api.Errno) {
	p, is := m.proc(i)
	if is != 1 || p.State != 1 {
		return api.Proc{}, 105
	}
	return p, 0
}

// of is Of in the words of chapter 18.
func (m *model) of(i, fd int) (api.Proc, api.File, api.Errno) {
	p, e := m.self(i)
	if e != 0 {
		return p, api.File{}, e
	}
	if fd < 0 || fd > 7 || p.Fds[fd] == 0 {
		return p, api.File{}, 109
	}
	x, is := m.file(p.Fds[fd] - 1)
	if is != 1 {
		return p, api.File{}, 105
	}
	return p, x, 0
}

// reads is Read in the chapter's words, with the queue of chapter 13 gone round byte by byte.
func (m *model) reads(i, fd, n int) api.Ret {
	self, x, e := m.of(i, fd)
	if e != 0 {
		return fails(e)
	}
	if x.Kind == 2 {
		return fails(109)
	}
	if n < 0 || n > 32 {
		return fails(122)
	}
	at := x.Pipe
	if x.Kind == 3 {
		at = tty
		g, ok := m.front()
		if !ok {
			return fails(105)
		}
		if g != self.Group {
			return fails(125)
		}
	}
	if n == 0 {
		return api.Ret{}
	}
	p, is := m.pipe(at)
	if is != 1 {
		return fails(105)
	}
	var b []byte
	for p.Count > 0 && len(b) < n {
		b = append(b, p.Data[p.Head])
		p.Head, p.Count = (p.Head+1)%32, p.Count-1
	}
	switch {
	case len(b) > 0 && m.setPipe(at, p):
		return api.Ret{N: len(b), B: b}
	case len(b) > 0:
		return fails(105)
	case x.Kind == 1 && p.Writers == 0:
		return api.Ret{}
	}
	return waits(x)
}

// writes is Write in the chapter's words.
func (m *model) writes(i, fd int, b []byte) api.Ret {
	self, x, e := m.of(i, fd)
	if e != 0 {
		return fails(e)
	}
	if x.Kind != 2 {
		return fails(109)
	}
	if len(b) > 32 {
		return fails(122)
	}
	if len(b) == 0 {
		return api.Ret{}
	}
	p, is := m.pipe(x.Pipe)
	if is != 1 {
		return fails(105)
	}
	if p.Readers == 0 {
		// Raise in the words of chapter 14, of SPipe and one who is live.
		if self.Ignored>>13%2 == 0 {
			self.Pending |= 1 << 13
		}
		if !m.setProc(i, self) {
			return fails(105)
		}
		return fails(132)
	}
	room := 32 - p.Count
	if len(b) <= 8 && room >= len(b) || len(b) > 8 && room >= 1 {
		n := 0
		for n < len(b) && p.Count < 32 {
			p.Data[(p.Head+p.Count)%32] = b[n]
			n, p.Count = n+1, p.Count+1
		}
		if !m.setPipe(x.Pipe, p) {
			return fails(105)
		}
		return api.Ret{N: n}
	}
	return waits(x)
}

// waits is what is told where bytes, or room for them, are not there.
func waits(x api.File) api.Ret {
	if x.Flags == 1 {
		return fails(111)
	}
	return api.Ret{Block: true}
}

// fronts is Front in the chapter's words.
func (m *model) fronts(i, g int) api.Ret {
	self, e := m.self(i)
	if e != 0 {
		return fails(e)
	}
	if g < 0 || g > 7 {
		return fails(122)
	}
	was, ok := m.front()
	if !ok {
		return fails(105)
	}
	if self.Group != was {
		return fails(101)
	}
	is := false
	for n := range 8 {
		if p, what := m.proc(n); what == 1 && p.State != 2 && p.Group == g {
			is = true
		}
	}
	if !is {
		return fails(101)
	}
	if !m.put(theFront, frontOf(g)) {
		return fails(105)
	}
	return api.Ret{}
}

// types is Type in the chapter's words.
func (m *model) types(b []byte) api.Ret {
	p, is := m.pipe(tty)
	if is != 1 {
		return api.Ret{}
	}
	n := 0
	for n < len(b) && p.Count < 32 {
		p.Data[(p.Head+p.Count)%32] = b[n]
		n, p.Count = n+1, p.Count+1
	}
	if !m.setPipe(tty, p) {
		return api.Ret{}
	}
	return api.Ret{N: n}
}

// The calls of this layer.
const (
	read = iota
	write
	front
	types
	ops
)

// An ask is a call with its arguments, of which each takes some: of process i and its descriptor fd, n bytes, or group n, or the bytes b.
type ask struct {
	op, i, fd, n int
	b            []byte
}

// byPipes is what the program answers; of Type N is how many.
func (x ask) byPipes(c *commons.Commons) (r api.Ret) {
	switch x.op {
	case read:
		return Read(c, x.i, x.fd, x.n)
	case write:
		return Write(c, x.i, x.fd, x.b)
	case front:
		return Front(c, x.i, x.n)
	}
	return api.Ret{N: Type(c, x.b)}
}

// byModel is what the chapter answers.
func (x ask) byModel(m *model) (r api.Ret) {
	m.look()
	switch x.op {
	case read:
		return m.reads(x.i, x.fd, x.n)
	case write:
		return m.writes(x.i, x.fd, x.b)
	case front:
		return m.fronts(x.i, x.n)
	}
	return m.types(x.b)
}

// do asks, and fails unless the answer, all bytes, all that is bad and what was handed in are as the chapter says.
func (w *world) do(x ask) api.Ret {
	w.t.Helper()
	was := w.all()
	for r := range regions {
		w.m.b[r] = slices.Clone(was[r])
	}
	handed := slices.Clone(x.b)
	want, got := x.byModel(&w.m), x.byPipes(w.c)
	if text(got) != text(want) {
		w.t.Errorf("%+v answers %s, want %s", x, text(got), text(want))
	}
	if !bytes.Equal(handed, x.b) {
		w.t.Errorf("%+v had %v handed in", x, handed)
	}
	for r, b := range w.all() {
		if !bytes.Equal(b, w.m.b[r]) {
			w.t.Errorf("%+v leaves in region %d\n%v, want\n%v, was\n%v", x, r, b, w.m.b[r], was[r])
		}
	}
	w.isBad(slices.SortedFunc(maps.Keys(w.m.bad), func(a, b api.Rec) int {
		return cmp.Or(cmp.Compare(a.Kind, b.Kind), cmp.Compare(a.Index, b.Index))
	})...)
	return got
}

// text tells all that is answered.
func text(r api.Ret) string { return fmt.Sprint(r.N, int(r.E), r.B, r.Block) }

// asks fails unless it is answered so.
func (w *world) asks(x ask, want api.Ret) {
	w.t.Helper()
	if got := w.do(x); text(got) != text(want) {
		w.t.Errorf("%+v answers %s, want %s", x, text(got), text(want))
	}
}

// leaves fails unless it is answered so, and no byte is another one then.
func (w *world) leaves(x ask, want api.Ret) {
	w.t.Helper()
	was := w.all()
	w.asks(x, want)
	if is := w.all(); !slices.EqualFunc(is, was, bytes.Equal) {
		w.t.Errorf("%+v leaves %v, was %v", x, is, was)
	}
}

// refuses fails unless it is answered with an error, and nothing else is another one then.
func (w *world) refuses(x ask, e api.Errno) {
	w.t.Helper()
	w.leaves(x, api.Ret{E: e})
}

func (w *world) isBad(want ...api.Rec) {
	w.t.Helper()
	if got := w.c.Bad(); !slices.Equal(got, want) {
		w.t.Errorf("Bad() = %v, want %v", got, want)
	}
}

// is what a Decode says: the record, or zero and whether it is free or bad.
type is[T any] struct {
	v    T
	what int
}

func isOf[T any](v T, what int) is[T] { return is[T]{v, what} }

func wants[T comparable](v T, there bool) is[T] {
	var zero T
	switch {
	case !there:
		return is[T]{zero, api.DFree}
	case v == zero:
		return is[T]{zero, api.DBad}
	}
	return is[T]{v, api.DGood}
}

// has fails unless the session has just what s tells.
func (w *world) has(s sess) {
	w.t.Helper()
	b := w.raw(ours)
	for i := range 8 {
		p, there := s.procs[i]
		if got, want := isOf(pslot.Decode(b[24*i:24*i+24])), wants(p, there); got != want {
			w.t.Errorf("process %d is %+v, want %+v", i, got, want)
		}
	}
	for i := range 12 {
		f, there := s.files[i]
		if got, want := isOf(ofile.Decode(b[192+8*i:200+8*i])), wants(f, there); got != want {
			w.t.Errorf("file %d is %+v, want %+v", i, got, want)
		}
	}
	for i := tty; i < 6; i++ {
		region, at, n := lies(aPipe(i))
		if got, want := isOf(ring.Decode(w.raw(region)[at:at+n])), wants(s.pipe(i)); got != want {
			w.t.Errorf("pipe %d is %+v, want %+v", i, got, want)
		}
	}
	if got, want := b[488:], frontOf(s.front); !bytes.Equal(got, want) {
		w.t.Errorf("the front is %v, want %v", got, want)
	}
}

// live is a process that goes on, of group 0, with these Fds.
func live(fds ...int) api.Proc {
	p := api.Proc{State: api.PLive}
	copy(p.Fds[:], fds)
	return p
}

// in is p in another group.
func in(g int, p api.Proc) api.Proc {
	p.Group = g
	return p
}

func zombie(g int) api.Proc { return api.Proc{State: api.PZombie, Group: g, Code: 9} }

func stopped(g int) api.Proc { return api.Proc{State: api.PStopped, Group: g} }

func ends(readers, writers int) api.Pipe { return api.Pipe{Readers: readers, Writers: writers} }

// holds is p with these bytes from a place on, round behind the last, and others all around them.
func holds(p api.Pipe, head int, b ...byte) api.Pipe {
	for i := range p.Data {
		p.Data[i] = byte(200 + i)
	}
	p.Head, p.Count = head, len(b)
	for i, x := range b {
		p.Data[(head+i)%32] = x
	}
	return p
}

// run is n bytes, each one more than the one ahead.
func run(first byte, n int) []byte {
	b := make([]byte, n)
	for i := range b {
		b[i] = first + byte(i)
	}
	return b
}

// reader is a file that reads a pipe, or the terminal.
func reader(at, flags int) api.File {
	if at == tty {
		return api.File{Kind: api.FTerm, Refs: 1, Flags: flags}
	}
	return api.File{Kind: api.FRead, Pipe: at, Refs: 1, Flags: flags}
}

// writer is a file that writes a pipe.
func writer(at, flags int) api.File {
	return api.File{Kind: api.FWrite, Pipe: at, Refs: 1, Flags: flags}
}
