package proc

import (
	"bytes"
	"cmp"
	"fmt"
	"maps"
	"math"
	"math/rand"
	"slices"
	"testing"

	"commonage/api"
	"commonage/audit"
	"commonage/commons"
	"commonage/kern"
	"commonage/ofile"
	"commonage/pslot"
	"commonage/ring"
)

var wild = []int{math.MinInt, math.MinInt + 1, -1 << 62, -1 << 32, -65536, -257, -256, -255, -24, -8, -3, -2, -1, 0, 1, 2, 3, 4, 5, 6, 7, 8, 9, 10, 11, 12, 13, 14, 15, 16, 17, 24, 31, 32, 63, 64, 65, 127, 128, 255, 256, 257, 511, 512, 513, 65535, 65536, 1 << 31, 1 << 32, 1<<32 + 1, 1<<61 + 1, 1 << 62, math.MaxInt - 1, math.MaxInt}

// The regions of a session: its commons, and two bridges, pipes 4 and 5.
const (
	ours = iota
	bridgeA
	bridgeB
	regions
)

// boot is a Boot of two sessions with two bridges between them. Environment 0 is one who keeps to the document, 1 one of the same session who writes anything, 2 is of the other session, and 3 has no Caps.
func boot() api.Boot {
	return api.Boot{
		Frames: []int{20, 20, 1},
		Envs:   []int{0, 0, 1, 2},
		Lease:  5,
		Shared: []api.Share{
			{N: 492, To: []int{0}},
			{Frame: 8, N: 40, To: []int{0, 1}},
			{Session: 1, Frame: 9, Lo: 3, N: 40, To: []int{1, 0}},
			{Session: 1, N: 492, To: []int{1}},
		},
	}
}

// sess is what a session has, as values; what is not told is free. A zero Proc, File or Pipe is a bad one.
type sess struct {
	procs map[int]api.Proc
	files map[int]api.File
	pipes map[int]api.Pipe
}

// A world is a session, as one reaches it by a Commons, and the same in the chapter's words.
type world struct {
	t *testing.T
	k *kern.Kern
	c *commons.Commons
	m model
}

// start is a world of a new kernel where s is, with bridges of one end each where s tells of none.
func start(t *testing.T, s sess) *world {
	t.Helper()
	k, e := kern.New(boot())
	if e != api.OK {
		t.Fatal(e)
	}
	w := &world{t: t, k: k, m: model{bad: map[api.Rec]bool{}}}
	for r := range regions {
		w.m.read[r], w.m.write[r] = size(r), size(r)
	}
	w.lay(4, api.Pipe{Readers: 1, Writers: 1})
	w.lay(5, api.Pipe{Readers: 1, Writers: 1})
	w.write(ours, 448, rowOf(api.Pipe{Readers: 1, Writers: 1}))
	w.write(ours, 488, []byte{0, 211, 213, 0})
	for i, p := range s.procs {
		w.lay(i, p)
	}
	for i, f := range s.files {
		w.lay(i, f)
	}
	for i, p := range s.pipes {
		w.lay(i, p)
	}
	w.c, e = commons.New(k, 0)
	if e != api.OK {
		t.Fatal(e)
	}
	return w
}

// size is how many bytes a region of a session has.
func size(region int) int { return [...]int{492, 40, 40}[region] }

// by is w by a Commons of other Caps: the first n bytes of each region, with these rights.
func (w *world) by(caps [regions]api.Cap) *world {
	w.t.Helper()
	for r, c := range caps {
		c.Obj = r
		if _, e := w.k.Space().Put(3, c); e != api.OK {
			w.t.Fatal(e)
		}
		w.m.read[r], w.m.write[r] = c.Rights%2*c.N, c.Rights/2%2*c.N
	}
	c, e := commons.New(w.k, 3)
	if e != api.OK {
		w.t.Fatal(e)
	}
	w.c = c
	return w
}

// write has one whom nobody trusts write bytes.
func (w *world) write(region, at int, b []byte) {
	w.t.Helper()
	if a := w.k.Do(1, api.Call{Op: api.KWrite, Cap: w.k.Space().Names(1)[region], At: at, B: b}); a.E != api.OK {
		w.t.Fatal(region, at, a.E)
	}
}

// lay has one whom nobody trusts write a record; of a zero one bytes that are bad.
func (w *world) lay(i int, v any) {
	w.t.Helper()
	b := rowOf(v)
	if b == nil {
		b = []byte{99}
	}
	region, at, _ := lies(recOf(i, v))
	w.write(region, at, b)
}

// spoil has one whom nobody trusts turn a byte of a record, so that it is bad, or back.
func (w *world) spoil(x api.Rec) {
	w.t.Helper()
	region, at, _ := lies(x)
	w.write(region, at, []byte{w.raw(region)[at] ^ 85})
}

// raw is what a region has.
func (w *world) raw(region int) []byte {
	w.t.Helper()
	b, e := w.k.Regions().Raw(region)
	if e != api.OK {
		w.t.Fatal(e)
	}
	return b
}

// all is what all regions have, the other session's too.
func (w *world) all() [][]byte {
	w.t.Helper()
	l := make([][]byte, w.k.Regions().Len())
	for r := range l {
		l[r] = w.raw(r)
	}
	return l
}

// rowOf are the bytes of a record; none of a zero one.
func rowOf(v any) []byte {
	var b []byte
	switch x := v.(type) {
	case api.Proc:
		b, _ = pslot.Encode(x)
	case api.File:
		b, _ = ofile.Encode(x)
	case api.Pipe:
		if x != (api.Pipe{}) {
			b, _ = ring.Encode(x)
		}
	}
	return b
}

func recOf(i int, v any) api.Rec {
	switch v.(type) {
	case api.Proc:
		return aProc(i)
	case api.File:
		return aFile(i)
	}
	return aPipe(i)
}

func aProc(i int) api.Rec { return api.Rec{Kind: 1, Index: i} }
func aFile(i int) api.Rec { return api.Rec{Kind: 2, Index: i} }
func aPipe(i int) api.Rec { return api.Rec{Kind: 3, Index: i} }

// isRec tells whether there is a record of that Kind and number.
func isRec(x api.Rec) bool { return x.Index >= 0 && x.Index < counts()[x.Kind] }

// counts is how many records there are of each Kind.
func counts() [6]int { return [6]int{0, 8, 12, 6, 1, 1} }

// recs are all records of a session with two bridges, by Kind, then Index.
func recs() []api.Rec {
	var l []api.Rec
	for kind, n := range counts() {
		for i := range n {
			l = append(l, api.Rec{Kind: kind, Index: i})
		}
	}
	return l
}

// lies is where a record is: the region, the first byte, and how many they are.
func lies(x api.Rec) (region, at, n int) {
	switch {
	case x.Kind == 1:
		return ours, 24 * x.Index, 24
	case x.Kind == 2:
		return ours, 192 + 8*x.Index, 8
	case x.Kind == 3 && x.Index < 4:
		return ours, 288 + 40*x.Index, 40
	case x.Kind == 3:
		return x.Index - 3, 0, 40
	case x.Kind == 4:
		return ours, 448, 40
	}
	return ours, 488, 4
}

// A model is the commons of a session and its bridges in the words of chapter 15: bytes, how many of each region may be read and written, and what was bad once.
type model struct {
	b           [regions][]byte
	read, write [regions]int
	bad         map[api.Rec]bool
}

// get is the bytes of a record, none if it can't be read.
func (m *model) get(x api.Rec) []byte {
	if !isRec(x) || m.bad[x] {
		return nil
	}
	region, at, n := lies(x)
	if at+n > m.read[region] {
		return nil
	}
	return m.b[region][at : at+n]
}

// put writes the bytes of a record, if it can be written.
func (m *model) put(x api.Rec, b []byte) bool {
	if !isRec(x) || m.bad[x] || b == nil {
		return false
	}
	region, at, n := lies(x)
	if at+n > m.write[region] {
		return false
	}
	copy(m.b[region][at:at+n], b)
	return true
}

// The records of chapter 15, one by one.
func (m *model) proc(i int) (api.Proc, int)     { return pslot.Decode(m.get(aProc(i))) }
func (m *model) file(i int) (api.File, int)     { return ofile.Decode(m.get(aFile(i))) }
func (m *model) pipe(i int) (api.Pipe, int)     { return ring.Decode(m.get(aPipe(i))) }
func (m *model) term() (api.Pipe, int)          { return ring.Decode(m.get(api.Rec{Kind: 4})) }
func (m *model) front() []byte                  { return m.get(api.Rec{Kind: 5}) }
func (m *model) setProc(i int, p api.Proc) bool { return m.put(aProc(i), rowOf(p)) }
func (m *model) setFile(i int, f api.File) bool { return m.put(aFile(i), rowOf(f)) }
func (m *model) freeProc(i int) bool            { return m.put(aProc(i), make([]byte, 24)) }
func (m *model) freeFile(i int) bool            { return m.put(aFile(i), make([]byte, 8)) }
func (m *model) freePipe(i int) bool            { return m.put(aPipe(i), make([]byte, 40)) }

// setPipe may set a pipe without ends, too, since a bridge may be one.
func (m *model) setPipe(i int, p api.Pipe) bool {
	b, _ := ring.Encode(p)
	return m.put(aPipe(i), b)
}

func (m *model) isGood(i int) bool {
	_, is := m.proc(i)
	return is == 1
}

func (m *model) isZombie(i int) bool {
	p, is := m.proc(i)
	return is == 1 && p.State == 2
}

func (m *model) isChild(j, i int) bool {
	p, is := m.proc(j)
	return is == 1 && p.Parent == i+1
}

func (m *model) isIn(i, g int) bool {
	p, is := m.proc(i)
	return is == 1 && p.State != 2 && p.Group == g
}

func fails(e api.Errno) api.Ret { return api.Ret{E: e} }

// look is Look in the words of chapter 15.
func (m *model) look() {
	for _, x := range recs() {
		is := 0
		switch x.Kind {
		case 1:
			_, is = m.proc(x.Index)
		case 2:
			_, is = m.file(x.Index)
		case 3:
			_, is = m.pipe(x.Index)
		case 4:
			_, is = m.term()
		case 5:
			if b := m.front(); len(b) != 4 || b[0] > 7 || b[1] != 211 || b[2] != b[0]+213 || b[3] != 0 {
				is = 2
			}
		}
		if is == 2 {
			m.bad[x] = true
		}
	}
}

// self is Self in the chapter's words.
func (m *model) self(i int) (api.Proc, api.Errno) {
	p, is := m.proc(i)
	if is != 1 || p.State != 1 {
		return api.Proc{}, 105
	}
	return p, 0
}

// fork is Fork in the chapter's words.
func (m *model) fork(i int) api.Ret {
	p, e := m.self(i)
	if e != 0 {
		return fails(e)
	}
	least := -1
	for j := 7; j >= 0; j-- {
		if _, is := m.proc(j); is == 0 {
			least = j
		}
	}
	if least < 0 {
		return fails(111)
	}
	named := map[int]int{}
	for _, fd := range p.Fds {
		named[fd]++
	}
	for _, fd := range p.Fds {
		if fd == 0 {
			continue
		}
		f, is := m.file(fd - 1)
		if is != 1 {
			return fails(105)
		}
		if f.Refs+named[fd] > 64 {
			return fails(123)
		}
	}
	for j := range 12 {
		if named[j+1] == 0 {
			continue
		}
		f, _ := m.file(j)
		f.Refs += named[j+1]
		if !m.setFile(j, f) {
			return fails(105)
		}
	}
	if !m.setProc(least, api.Proc{State: 1, Parent: i + 1, Group: p.Group, Mask: p.Mask, Ignored: p.Ignored, Caught: p.Caught, Fds: p.Fds}) {
		return fails(105)
	}
	return api.Ret{N: least}
}

// exit is Exit in the chapter's words.
func (m *model) exit(i, code int) api.Ret {
	if _, e := m.self(i); e != 0 {
		return fails(e)
	}
	m.closeAll(i)
	for j := range 8 {
		if j == i || !m.isChild(j, i) {
			continue
		}
		if m.isZombie(j) {
			m.freeProc(j)
		} else {
			p, _ := m.proc(j)
			p.Parent = 0
			m.setProc(j, p)
		}
	}
	p, _ := m.proc(i)
	if parent := p.Parent - 1; !m.isGood(parent) || m.isZombie(parent) {
		if !m.freeProc(i) {
			return fails(105)
		}
		return api.Ret{}
	}
	code %= 256
	if code < 0 {
		code += 256
	}
	z := api.Proc{State: 2, Parent: p.Parent, Group: p.Group, Code: code, Mask: p.Mask, Ignored: p.Ignored, Caught: p.Caught}
	if !m.setProc(i, z) {
		return fails(105)
	}
	return api.Ret{}
}

// wait is Wait in the chapter's words.
func (m *model) wait(i int) api.Ret {
	if _, e := m.self(i); e != 0 {
		return fails(e)
	}
	others := 0
	for j := range 8 {
		if !m.isChild(j, i) {
			continue
		}
		if !m.isZombie(j) {
			others++
			continue
		}
		z, _ := m.proc(j)
		if !m.freeProc(j) {
			return fails(105)
		}
		return api.Ret{N: 256*j + z.Code}
	}
	if others > 0 {
		return api.Ret{Block: true}
	}
	return fails(110)
}

// raise is what chapter 14 says of Raise; false, if it refuses.
func raise(p api.Proc, n int) (api.Proc, bool) {
	if n < 1 || n > 15 || p.State == 2 {
		return p, false
	}
	if p.Ignored>>n%2 == 0 || n == 9 || n == 14 {
		p.Pending |= 1 << n
	}
	if n == 9 || n == 15 {
		p.State = 1
	}
	if n == 14 && p.Pending>>15%2 == 1 {
		p.Pending -= 1 << 15
	}
	if n == 15 && p.Pending>>14%2 == 1 {
		p.Pending -= 1 << 14
	}
	return p, true
}

// kill is Kill in the chapter's words.
func (m *model) kill(i, target, n int) api.Ret {
	if _, e := m.self(i); e != 0 {
		return fails(e)
	}
	if target < 0 || target > 15 || n < 0 || n > 15 {
		return fails(122)
	}
	var l []int
	if target < 8 {
		_, is := m.proc(target)
		if is == 2 {
			return fails(105)
		}
		if is == 0 {
			return fails(103)
		}
		l = []int{target}
	} else {
		for j := range 8 {
			if m.isIn(j, target-8) {
				l = append(l, j)
			}
		}
		if l == nil {
			return fails(103)
		}
	}
	for _, j := range l {
		p, _ := m.proc(j)
		if p, ok := raise(p, n); ok && !m.setProc(j, p) {
			return fails(105)
		}
	}
	return api.Ret{}
}

// group is Group in the chapter's words.
func (m *model) group(i, target, g int) api.Ret {
	if _, e := m.self(i); e != 0 {
		return fails(e)
	}
	if target < 0 || target > 7 || g < 0 || g > 7 {
		return fails(122)
	}
	p, is := m.proc(target)
	if target != i {
		if is == 2 {
			return fails(105)
		}
		if !m.isChild(target, i) || m.isZombie(target) {
			return fails(103)
		}
	}
	may := g == target
	for j := range 8 {
		may = may || m.isIn(j, g)
	}
	if !may {
		return fails(101)
	}
	p.Group = g
	if !m.setProc(target, p) {
		return fails(105)
	}
	return api.Ret{}
}

// closeAll is CloseAll in the chapter's words.
func (m *model) closeAll(i int) {
	if !m.isGood(i) {
		return
	}
	p, _ := m.proc(i)
	for at := range 8 {
		if p.Fds[at] != 0 {
			m.closeFile(p.Fds[at] - 1)
			p.Fds[at] = 0
		}
	}
	m.setProc(i, p)
}

// closeFile is CloseFile in the chapter's words.
func (m *model) closeFile(i int) api.Errno {
	f, is := m.file(i)
	if is != 1 {
		return 105
	}
	if f.Refs > 1 {
		f.Refs--
		if !m.setFile(i, f) {
			return 105
		}
		return 0
	}
	if !m.freeFile(i) {
		return 105
	}
	if f.Kind == 3 {
		return 0
	}
	p, is := m.pipe(f.Pipe)
	if is != 1 {
		return 105
	}
	if f.Kind == 1 && p.Readers > 0 {
		p.Readers--
	}
	if f.Kind == 2 && p.Writers > 0 {
		p.Writers--
	}
	ok := false
	if f.Pipe < 4 && p.Readers == 0 && p.Writers == 0 {
		ok = m.freePipe(f.Pipe)
	} else {
		ok = m.setPipe(f.Pipe, p)
	}
	if !ok {
		return 105
	}
	return 0
}

// The calls of this layer.
const (
	self = iota
	fork
	exit
	wait
	kill
	group
	closeAll
	closeFile
	ops
)

// An ask is a call with its arguments, of which some take fewer than three.
type ask struct{ op, i, a, b int }

// byProc is what the program answers.
func (x ask) byProc(c *commons.Commons) (r api.Ret, p api.Proc) {
	switch x.op {
	case self:
		p, r.E = Self(c, x.i)
	case fork:
		r = Fork(c, x.i)
	case exit:
		r = Exit(c, x.i, x.a)
	case wait:
		r = Wait(c, x.i)
	case kill:
		r = Kill(c, x.i, x.a, x.b)
	case group:
		r = Group(c, x.i, x.a, x.b)
	case closeAll:
		CloseAll(c, x.i)
	case closeFile:
		r.E = CloseFile(c, x.i)
	}
	return r, p
}

// byModel is what the chapter answers.
func (x ask) byModel(m *model) (r api.Ret, p api.Proc) {
	m.look()
	switch x.op {
	case self:
		p, r.E = m.self(x.i)
	case fork:
		r = m.fork(x.i)
	case exit:
		r = m.exit(x.i, x.a)
	case wait:
		r = m.wait(x.i)
	case kill:
		r = m.kill(x.i, x.a, x.b)
	case group:
		r = m.group(x.i, x.a, x.b)
	case closeAll:
		m.closeAll(x.i)
	case closeFile:
		r.E = m.closeFile(x.i)
	}
	return r, p
}

// do asks, and fails unless the answer, all bytes and all that is bad are as the chapter says.
func (w *world) do(x ask) (api.Ret, api.Proc) {
	w.t.Helper()
	was := w.all()
	for r := range regions {
		w.m.b[r] = slices.Clone(was[r])
	}
	want, wants := x.byModel(&w.m)
	got, gets := x.byProc(w.c)
	if text(got) != text(want) || gets != wants {
		w.t.Errorf("%+v answers %s, %+v, want %s, %+v", x, text(got), gets, text(want), wants)
	}
	for r, b := range w.all() {
		wants := was[r]
		if r < regions {
			wants = w.m.b[r]
		}
		if !bytes.Equal(b, wants) {
			w.t.Errorf("%+v leaves in region %d\n%v, want\n%v, was\n%v", x, r, b, wants, was[r])
		}
	}
	w.isBad(slices.SortedFunc(maps.Keys(w.m.bad), func(a, b api.Rec) int {
		return cmp.Or(cmp.Compare(a.Kind, b.Kind), cmp.Compare(a.Index, b.Index))
	})...)
	return got, gets
}

// text tells all of a Ret.
func text(r api.Ret) string { return fmt.Sprint(r.N, int(r.E), r.B, r.Block) }

// asks fails unless it is answered so.
func (w *world) asks(x ask, want api.Ret) {
	w.t.Helper()
	if got, _ := w.do(x); text(got) != text(want) {
		w.t.Errorf("%+v answers %s, want %s", x, text(got), text(want))
	}
}

// refuses fails unless it is answered with an error, and nothing else is another one then.
func (w *world) refuses(x ask, e api.Errno) {
	w.t.Helper()
	was := w.all()
	w.asks(x, api.Ret{E: e})
	if is := w.all(); !slices.EqualFunc(is, was, bytes.Equal) {
		w.t.Errorf("%+v leaves %v, was %v", x, is, was)
	}
}

func (w *world) isBad(want ...api.Rec) {
	w.t.Helper()
	if got := w.c.Bad(); !slices.Equal(got, want) {
		w.t.Errorf("Bad() = %v, want %v", got, want)
	}
}

// is what a Decode says: the record, or zero and whether it is free or bad.
type is[T any] struct {
	v    T
	what int
}

func isOf[T any](v T, what int) is[T] { return is[T]{v, what} }

func wants[T comparable](l map[int]T, i int) is[T] {
	v, there := l[i]
	var zero T
	switch {
	case !there:
		return is[T]{zero, api.DFree}
	case v == zero:
		return is[T]{zero, api.DBad}
	}
	return is[T]{v, api.DGood}
}

// has fails unless the session has just what s tells; of pipes that s does not tell the bridges are not looked at.
func (w *world) has(s sess) {
	w.t.Helper()
	b := w.raw(ours)
	for i := range 8 {
		if got, want := isOf(pslot.Decode(b[24*i:24*i+24])), wants(s.procs, i); got != want {
			w.t.Errorf("process %d is %+v, want %+v", i, got, want)
		}
	}
	for i := range 12 {
		if got, want := isOf(ofile.Decode(b[192+8*i:200+8*i])), wants(s.files, i); got != want {
			w.t.Errorf("file %d is %+v, want %+v", i, got, want)
		}
	}
	for i := range 6 {
		if _, there := s.pipes[i]; i > 3 && !there {
			continue
		}
		region, at, n := lies(aPipe(i))
		if got, want := isOf(ring.Decode(w.raw(region)[at:at+n])), wants(s.pipes, i); got != want {
			w.t.Errorf("pipe %d is %+v, want %+v", i, got, want)
		}
	}
}

// live is a process that goes on, of group 0, with these Fds.
func live(parent int, fds ...int) api.Proc {
	p := api.Proc{State: api.PLive, Parent: parent}
	copy(p.Fds[:], fds)
	return p
}

func zombie(parent, code int) api.Proc {
	return api.Proc{State: api.PZombie, Parent: parent, Code: code}
}

func stopped(parent int) api.Proc { return api.Proc{State: api.PStopped, Parent: parent} }

func in(group int, p api.Proc) api.Proc {
	p.Group = group
	return p
}

func term(refs int) api.File { return api.File{Kind: api.FTerm, Refs: refs} }

func reads(pipe, refs int) api.File { return api.File{Kind: api.FRead, Pipe: pipe, Refs: refs} }

func writes(pipe, refs int) api.File { return api.File{Kind: api.FWrite, Pipe: pipe, Refs: refs} }

// A few of each, by number.
type (
	procs = map[int]api.Proc
	files = map[int]api.File
	pipes = map[int]api.Pipe
)

// Promise 17.3: the chapter's example.
func TestExample(t *testing.T) {
	w := start(t, sess{procs: procs{0: live(0)}})
	w.refuses(ask{op: wait}, api.ECHILD)
}

// Promise 17.1: the errors of this layer, states and kinds have the chapters' numbers.
func TestNumbers(t *testing.T) {
	if got := [...]api.Errno{api.EPERM, api.ESRCH, api.EIO, api.ECHILD, api.EAGAIN, api.EINVAL, api.ENFILE}; got != [...]api.Errno{101, 103, 105, 110, 111, 122, 123} {
		t.Error(got)
	}
	if got := [...]int{api.PLive, api.PZombie, api.PStopped, api.FRead, api.FWrite, api.FTerm, api.DFree, api.DGood, api.DBad}; got != [...]int{1, 2, 3, 1, 2, 3, 0, 1, 2} {
		t.Error(got)
	}
}

// full is a process all of whose fields are set.
func full() api.Proc {
	return api.Proc{State: 1, Parent: 3, Group: 7, Pending: 1<<5 | 1<<14, Mask: 1<<1 | 1<<5, Ignored: 1<<3 | 1<<15, Caught: 1<<2 | 1<<13, Fds: [8]int{12, 0, 1, 1, 5, 0, 12, 1}}
}

// Promise 17.1: Self is the process just as it is there; EIO of one that does not go on.
func TestSelf(t *testing.T) {
	w := start(t, sess{procs: procs{0: live(0), 1: zombie(1, 9), 2: stopped(1), 3: {}, 7: full()}})
	for i, want := range map[int]api.Proc{0: live(0), 7: full()} {
		got, e := Self(w.c, i)
		if got != want || e != api.OK {
			t.Error(i, got, e)
		}
		w.do(ask{op: self, i: i})
	}
	for _, i := range wild {
		if i == 0 || i == 7 {
			continue
		}
		w.refuses(ask{op: self, i: i}, api.EIO)
		if got, e := Self(w.c, i); got != (api.Proc{}) || e != api.EIO {
			t.Error(i, got, e)
		}
	}
	w.has(sess{procs: procs{0: live(0), 1: zombie(1, 9), 2: stopped(1), 3: {}, 7: full()}})
}

// Promise 17.1: each call beside CloseFile and CloseAll begins with Self's error, ahead of any error of its own.
func TestBeginsWithSelf(t *testing.T) {
	s := sess{procs: procs{0: live(0, 3), 1: zombie(1, 9), 2: stopped(1), 3: {}, 4: in(3, stopped(1)), 5: live(5), 6: zombie(5, 1)}, files: files{2: term(1)}}
	for op := self; op <= group; op++ {
		w := start(t, s)
		for _, i := range wild {
			if i == 0 || i == 5 {
				continue
			}
			for _, a := range []int{-1, 0, 3, 5, 7, 8, 9, 15, 16} {
				w.refuses(ask{op, i, a, 99}, api.EIO)
				w.refuses(ask{op, i, a, 1}, api.EIO)
			}
		}
		w.has(s)
	}
}

// Promises 15.2, 17.1: each call begins with Look, whatever it answers: what is bad anywhere is bad from then on.
func TestBeginsWithLook(t *testing.T) {
	for op := range ops {
		for _, i := range []int{0, 3, 11, 99, -1} {
			for _, x := range recs() {
				w := start(t, sess{procs: procs{0: live(0, 1)}, files: files{0: term(1), 11: writes(5, 2)}, pipes: pipes{0: {Readers: 1}}})
				w.spoil(x)
				w.isBad()
				w.do(ask{op, i, 16, 16})
				w.isBad(x)
				w.spoil(x)
				w.do(ask{op, i, 16, 16})
				w.isBad(x)
				if t.Failed() {
					t.FailNow()
				}
			}
		}
	}
}

// Promise 17.1: what was bad once is EIO even if another one mended it.
func TestStaysBad(t *testing.T) {
	w := start(t, sess{procs: procs{0: live(0, 1), 1: live(1), 2: zombie(1, 5)}, files: files{0: term(1)}})
	for i := range 3 {
		w.spoil(aProc(i))
	}
	w.asks(ask{op: self, i: 1}, api.Ret{E: api.EIO})
	for i := range 3 {
		w.spoil(aProc(i))
		w.refuses(ask{op: self, i: i}, api.EIO)
		w.refuses(ask{op: exit, i: i}, api.EIO)
		w.refuses(ask{op: closeAll, i: i}, api.OK)
	}
	w.lay(4, live(0))
	w.refuses(ask{op: kill, i: 4, a: 1, b: 9}, api.EIO)
	w.refuses(ask{op: group, i: 4, a: 1, b: 1}, api.EIO)
	w.asks(ask{op: fork, i: 4}, api.Ret{N: 3})
}

// Promise 17.2: a child is like its parent, but for its Parent and what is pending; files are named so many times more.
func TestFork(t *testing.T) {
	p := full()
	w := start(t, sess{procs: procs{2: p, 0: live(0)}, files: files{0: term(3), 4: writes(5, 1), 11: reads(4, 60), 1: term(9)}})
	w.asks(ask{op: fork, i: 2}, api.Ret{N: 1})
	child := p
	child.Parent, child.Pending = 3, 0
	s := sess{procs: procs{0: live(0), 1: child, 2: p}, files: files{0: term(6), 4: writes(5, 2), 11: reads(4, 62), 1: term(9)}}
	w.has(s)
	w.asks(ask{op: fork, i: 1}, api.Ret{N: 3})
	child.Parent = 2
	s.procs[3] = child
	s.files[0], s.files[4], s.files[11] = term(9), writes(5, 3), reads(4, 64)
	w.has(s)
	w.refuses(ask{op: fork, i: 3}, api.ENFILE)
	w.asks(ask{op: fork, i: 0}, api.Ret{N: 4})
	s.procs[4] = live(1)
	w.has(s)
}

// Promise 17.2: a file keeps all else when it is named more often, for each kind.
func TestForkKeepsFiles(t *testing.T) {
	for kind := 1; kind <= 3; kind++ {
		for pipe := range 8 {
			f := api.File{Kind: kind, Pipe: pipe % (1 + kind%3*7), Refs: 1 + pipe, Flags: pipe % 2}
			w := start(t, sess{procs: procs{5: live(0, 0, 9)}, files: files{8: f}})
			w.asks(ask{op: fork, i: 5}, api.Ret{})
			f.Refs++
			w.has(sess{procs: procs{5: live(0, 0, 9), 0: live(6, 0, 9)}, files: files{8: f}})
		}
	}
}

// Promise 17.2: the least free slot is taken, a bad one never.
func TestForkSlot(t *testing.T) {
	for at := range 7 {
		for bad := range 7 {
			s := sess{procs: procs{7: live(0)}}
			for i := range 7 {
				if i < at {
					s.procs[i] = zombie(0, i)
				}
			}
			s.procs[bad] = api.Proc{}
			want := at
			if bad == at {
				want++
			}
			w := start(t, s)
			if want == 7 {
				w.refuses(ask{op: fork, i: 7}, api.EAGAIN)
				continue
			}
			w.asks(ask{op: fork, i: 7}, api.Ret{N: want})
			s.procs[want] = live(8)
			w.has(s)
		}
	}
}

// Promise 17.2: without a free slot a Fork is EAGAIN, ahead of what its files say.
func TestForkAgain(t *testing.T) {
	s := sess{procs: procs{0: live(0, 1, 12)}, files: files{11: term(64)}}
	for i := range 7 {
		s.procs[i+1] = [...]api.Proc{live(1), stopped(0), zombie(1, 3), {}}[i%4]
	}
	w := start(t, s)
	w.refuses(ask{op: fork}, api.EAGAIN)
	w.lay(0, term(1))
	w.lay(11, term(1))
	w.refuses(ask{op: fork}, api.EAGAIN)
	w.write(ours, 24*6, make([]byte, 24))
	w.asks(ask{op: fork}, api.Ret{N: 6})
	w.refuses(ask{op: fork}, api.EAGAIN)
}

// Promise 17.2: the files are asked in the order of the Fds, each for being there, then for its Refs; where one is refused, nothing was done.
func TestForkFiles(t *testing.T) {
	for _, x := range []struct {
		fds []int
		e   api.Errno
	}{
		{[]int{3, 4}, api.EIO},
		{[]int{4, 3}, api.ENFILE},
		{[]int{0, 1, 0, 4, 0, 3}, api.ENFILE},
		{[]int{5, 4}, api.EIO},
		{[]int{4, 5}, api.ENFILE},
		{[]int{1, 2, 1, 0, 0, 0, 0, 5}, api.EIO},
		{[]int{1, 2, 1, 2, 0, 0, 0, 5}, api.ENFILE},
		{[]int{0, 0, 0, 0, 0, 0, 0, 4}, api.ENFILE},
		{[]int{2, 1, 2}, api.ENFILE},
		{[]int{2, 2, 5}, api.ENFILE},
		{[]int{5, 2, 2}, api.EIO},
		{[]int{1, 1, 1, 1, 1, 1, 1, 1}, api.OK},
		{[]int{12, 12, 12, 12, 12, 12, 12, 2}, api.OK},
		{[]int{12, 12, 12, 12, 12, 12, 12, 12}, api.ENFILE},
		{[]int{0, 2, 1}, api.OK},
		{nil, api.OK},
	} {
		s := sess{procs: procs{0: live(0, x.fds...)}, files: files{0: term(1), 1: term(63), 3: writes(1, 64), 4: {}, 11: reads(2, 57)}}
		w := start(t, s)
		if x.e != api.OK {
			w.refuses(ask{op: fork}, x.e)
			w.has(s)
			continue
		}
		w.asks(ask{op: fork}, api.Ret{N: 1})
		s.procs[1] = live(1, x.fds...)
		for _, fd := range x.fds {
			if f := s.files[fd-1]; fd > 0 {
				f.Refs++
				s.files[fd-1] = f
			}
		}
		w.has(s)
	}
}

// Promise 17.2: Refs may be 64, and no more, however often the process names the file.
func TestForkRefs(t *testing.T) {
	for n := range 8 {
		for refs := 55; refs <= 64; refs++ {
			p := live(0)
			for at := range n + 1 {
				p.Fds[7-at] = 6
			}
			w := start(t, sess{procs: procs{0: p}, files: files{5: reads(4, refs)}})
			if refs+n+1 > 64 {
				w.refuses(ask{op: fork}, api.ENFILE)
				continue
			}
			w.asks(ask{op: fork}, api.Ret{N: 1})
			q := p
			q.Parent = 1
			w.has(sess{procs: procs{0: p, 1: q}, files: files{5: reads(4, refs+n+1)}})
		}
	}
}

// Promise 17.2: who ends is a zombie of its parent, with the code modulo 256, no Fds and nothing pending, all else as it was.
func TestExit(t *testing.T) {
	for code, want := range map[int]int{0: 0, 1: 1, 255: 255, 256: 0, 257: 1, 513: 1, 65535: 255, -1: 255, -255: 1, -256: 0, -257: 255, -300: 212, math.MaxInt: 255, math.MinInt: 0, math.MinInt + 1: 1} {
		p := full()
		s := sess{procs: procs{4: p, 2: live(0)}, files: files{0: term(3), 4: writes(5, 1), 11: reads(4, 3)}}
		w := start(t, s)
		w.asks(ask{exit, 4, code, 0}, api.Ret{})
		p.State, p.Code, p.Pending, p.Fds = api.PZombie, want, 0, [8]int{}
		w.has(sess{procs: procs{4: p, 2: live(0)}, files: files{11: reads(4, 1)}, pipes: pipes{4: {Readers: 1, Writers: 1}, 5: {Readers: 1}}})
	}
}

// Promise 17.2: who has a parent that goes on, or is stopped, is a zombie; else its slot is free.
func TestExitParent(t *testing.T) {
	for is, parent := range []api.Proc{live(0), stopped(0), zombie(0, 1), {}} {
		w := start(t, sess{procs: procs{6: parent, 1: live(7)}})
		w.asks(ask{exit, 1, 5, 0}, api.Ret{})
		s := sess{procs: procs{6: parent}}
		if is < 2 {
			s.procs[1] = zombie(7, 5)
		}
		w.has(s)
	}
	for _, parent := range []int{0, 7} {
		w := start(t, sess{procs: procs{1: live(parent)}})
		w.asks(ask{exit, 1, 5, 0}, api.Ret{})
		w.has(sess{})
	}
	w := start(t, sess{procs: procs{0: live(1, 1)}, files: files{0: term(1)}})
	w.asks(ask{exit, 0, 5, 0}, api.Ret{})
	w.has(sess{procs: procs{0: zombie(1, 5)}})
}

// Promise 17.2: the zombies among the children of who ends are freed, the others have no Parent; nobody else is another one.
func TestExitChildren(t *testing.T) {
	kid := full()
	s := sess{procs: procs{0: zombie(3, 1), 1: in(4, stopped(3)), 2: live(8), 3: zombie(3, 4), 4: zombie(4, 2), 5: kid, 6: {}, 7: live(2)}, files: files{0: term(3), 4: writes(5, 1), 11: reads(4, 3)}}
	w := start(t, s)
	w.asks(ask{exit, 2, 77, 0}, api.Ret{})
	kid.Parent = 0
	w.has(sess{procs: procs{1: in(4, stopped(0)), 2: zombie(8, 77), 4: zombie(4, 2), 5: kid, 6: {}, 7: live(2)}, files: s.files})
}

// Promise 17.2: its Parent is asked when its children are done with: a zombie that is both is freed then.
func TestExitBoth(t *testing.T) {
	w := start(t, sess{procs: procs{1: live(3), 2: zombie(2, 4)}})
	w.asks(ask{exit, 1, 6, 0}, api.Ret{})
	w.has(sess{})
	w = start(t, sess{procs: procs{1: live(3), 2: live(2)}})
	w.asks(ask{exit, 1, 6, 0}, api.Ret{})
	w.has(sess{procs: procs{1: zombie(3, 6), 2: live(0)}})
}

// Promise 17.3: the least zombie child is told, once; then Block while there are others, and ECHILD when there are none.
func TestWait(t *testing.T) {
	s := sess{procs: procs{0: zombie(6, 255), 1: zombie(0, 1), 2: live(6, 1), 3: zombie(6, 0), 4: stopped(6), 5: live(0), 6: zombie(3, 9), 7: zombie(6, 7)}, files: files{0: term(1)}}
	w := start(t, s)
	for i, n := range []int{255, 3 * 256, 7*256 + 7} {
		w.asks(ask{op: wait, i: 5}, api.Ret{N: n})
		delete(s.procs, []int{0, 3, 7}[i])
		w.has(s)
	}
	w.asks(ask{op: wait, i: 5}, api.Ret{Block: true})
	w.has(s)
	w.lay(2, live(0))
	w.asks(ask{op: wait, i: 5}, api.Ret{Block: true})
	w.lay(4, live(3))
	w.refuses(ask{op: wait, i: 5}, api.ECHILD)
	w.asks(ask{op: wait, i: 2}, api.Ret{N: 6*256 + 9})
	w.asks(ask{op: wait, i: 2}, api.Ret{Block: true})
}

// Promise 17.3: a bad slot is nobody's child; one that is its own Parent is its own child.
func TestWaitOdd(t *testing.T) {
	w := start(t, sess{procs: procs{0: live(0), 1: zombie(1, 4), 2: live(1)}})
	w.spoil(aProc(1))
	w.asks(ask{op: wait}, api.Ret{Block: true})
	w.spoil(aProc(2))
	w.asks(ask{op: wait}, api.Ret{E: api.ECHILD})
	w = start(t, sess{procs: procs{3: live(4)}})
	w.asks(ask{op: wait, i: 3}, api.Ret{Block: true})
	w.lay(5, zombie(4, 6))
	w.asks(ask{op: wait, i: 3}, api.Ret{N: 5*256 + 6})
}

// Promise 17.3: targets and signals outside 0 to 15 are EINVAL, ahead of whether there is such a slot or group.
func TestKillRefuses(t *testing.T) {
	w := start(t, sess{procs: procs{0: live(0), 1: {}, 3: zombie(1, 4), 4: in(6, zombie(1, 4))}})
	for _, n := range wild {
		if n < 0 || n > 15 {
			for _, target := range []int{0, 1, 2, 3, 8, 9} {
				w.refuses(ask{kill, 0, target, n}, api.EINVAL)
				w.refuses(ask{kill, 0, n, target}, api.EINVAL)
			}
			w.refuses(ask{kill, 0, n, n}, api.EINVAL)
			continue
		}
		w.refuses(ask{kill, 0, 1, n}, api.EIO)
		w.refuses(ask{kill, 0, 2, n}, api.ESRCH)
		w.refuses(ask{kill, 0, 3, n}, api.OK)
		for _, g := range []int{1, 2, 3, 4, 5, 6, 7} {
			w.refuses(ask{kill, 0, 8 + g, n}, api.ESRCH)
		}
	}
}

// Promise 17.3: each signal is Raised in the process of a slot, whoever asks, and in no other one.
func TestKillOne(t *testing.T) {
	for n := range 16 {
		for _, p := range []api.Proc{full(), live(1), stopped(0), zombie(1, 5), {State: 3, Pending: 1<<14 | 1<<15, Ignored: 1<<5 | 1<<15}, {State: 1, Ignored: 1<<2 | 1<<3, Pending: 1 << 14}} {
			s := sess{procs: procs{2: live(0), 0: in(7, stopped(3)), 4: p}}
			w := start(t, s)
			w.asks(ask{kill, 2, 4, n}, api.Ret{})
			s.procs[4], _ = raise(p, n)
			w.has(s)
		}
	}
	w := start(t, sess{procs: procs{7: live(0)}})
	w.asks(ask{kill, 7, 7, 9}, api.Ret{})
	w.has(sess{procs: procs{7: {State: 1, Pending: 1 << 9}}})
}

// Promise 17.3: a group is all of its processes that have not ended, the asking one too, and nobody else.
func TestKillGroup(t *testing.T) {
	for g := range 8 {
		other := (g + 3) % 8
		s := sess{procs: procs{
			0: in(g, live(0)), 1: in(other, live(0)), 2: in(g, stopped(1)), 3: in(g, zombie(1, 2)), 4: in(g, live(1)), 5: {}, 7: in(g, api.Proc{State: 3, Ignored: 1 << 15}),
		}}
		w := start(t, s)
		w.refuses(ask{kill, 1, 8 + g, 0}, api.OK)
		w.asks(ask{kill, 4, 8 + g, 15}, api.Ret{})
		for _, i := range []int{0, 2, 4} {
			p := s.procs[i]
			p.State, p.Pending = 1, 1<<15
			s.procs[i] = p
		}
		s.procs[7] = in(g, api.Proc{State: 1, Ignored: 1 << 15})
		w.has(s)
		w.asks(ask{kill, 1, 8 + other, 3}, api.Ret{})
		s.procs[1] = in(other, api.Proc{State: 1, Pending: 1 << 3})
		w.has(s)
	}
}

// Promise 17.3: a group may be joined that is the target's own number, or one that somebody is in who has not ended.
func TestGroup(t *testing.T) {
	for i := range 8 {
		for target := range 8 {
			for g := range 8 {
				if i == target {
					continue
				}
				s := sess{procs: procs{i: in(6, live(0)), target: in(3, full())}}
				p := s.procs[target]
				p.Parent = i + 1
				s.procs[target] = p
				w := start(t, s)
				for _, x := range []int{target, i} {
					if g != x && g != 6 && g != w.groupOf(target) {
						w.refuses(ask{group, i, x, g}, api.EPERM)
						continue
					}
					w.asks(ask{group, i, x, g}, api.Ret{})
					p = s.procs[x]
					p.Group = g
					s.procs[x] = p
					w.has(s)
				}
			}
		}
	}
}

// groupOf is the group of a process.
func (w *world) groupOf(i int) int { return int(w.raw(ours)[24*i+2]) }

// Promise 17.3: the group of a zombie, or of a bad one, is none that may be joined; that of a stopped one is.
func TestGroupOfWhom(t *testing.T) {
	s := sess{procs: procs{0: live(0), 1: in(5, zombie(1, 1)), 2: in(4, stopped(3)), 3: live(1), 6: {}}}
	w := start(t, s)
	for _, target := range []int{0, 3} {
		w.refuses(ask{group, 0, target, 5}, api.EPERM)
		w.refuses(ask{group, 0, target, 6}, api.EPERM)
		w.refuses(ask{group, 0, target, 7}, api.EPERM)
		w.refuses(ask{group, 0, target, 0}, api.OK)
	}
	w.asks(ask{group, 0, 3, 4}, api.Ret{})
	w.asks(ask{group, 0, 0, 4}, api.Ret{})
	w.asks(ask{group, 0, 3, 3}, api.Ret{})
	w.asks(ask{group, 3, 3, 4}, api.Ret{})
	w.asks(ask{group, 3, 3, 3}, api.Ret{})
	w.refuses(ask{group, 0, 3, 0}, api.EPERM)
	s.procs[0], s.procs[3] = in(4, live(0)), in(3, live(1))
	w.has(s)
}

// Promise 17.3: errors in the order of the sentence: numbers, a bad target, one that is no child or has ended, the group.
func TestGroupRefuses(t *testing.T) {
	w := start(t, sess{procs: procs{0: live(0), 1: {}, 2: zombie(1, 1), 3: live(2), 4: stopped(1), 5: live(5)}})
	for _, n := range wild {
		if n >= 0 && n < 8 {
			for _, x := range []struct {
				target int
				e      api.Errno
			}{{1, api.EIO}, {2, api.ESRCH}, {3, api.ESRCH}, {5, api.ESRCH}, {6, api.ESRCH}, {7, api.ESRCH}} {
				w.refuses(ask{group, 0, x.target, n}, x.e)
			}
			continue
		}
		for target := range 8 {
			w.refuses(ask{group, 0, target, n}, api.EINVAL)
			w.refuses(ask{group, 0, n, target}, api.EINVAL)
		}
		w.refuses(ask{group, 0, n, n}, api.EINVAL)
	}
	for _, target := range []int{0, 4} {
		w.refuses(ask{group, 0, target, 6}, api.EPERM)
	}
	// Its own Parent is no reason, and neither is another one's.
	w.asks(ask{group, 5, 5, 5}, api.Ret{})
	w.asks(ask{group, 3, 3, 5}, api.Ret{})
	w.asks(ask{group, 0, 4, 4}, api.Ret{})
}

// Promise 17.4: a file is named once less, and is gone behind the last time; its pipe has one end less then.
func TestCloseFile(t *testing.T) {
	for at := range 12 {
		for kind := 1; kind <= 3; kind++ {
			for pipe := range 6 {
				f := api.File{Kind: kind, Pipe: pipe % (1 + kind%3*5), Refs: 2, Flags: at % 2}
				p := api.Pipe{Head: at, Count: 5, Readers: 3, Writers: 7}
				p.Data[at] = 9
				s := sess{files: files{at: f, (at + 1) % 12: term(5)}, pipes: pipes{0: p, 1: p, 2: p, 3: p, 4: p, 5: p}}
				w := start(t, s)
				w.asks(ask{op: closeFile, i: at}, api.Ret{})
				f.Refs = 1
				s.files[at] = f
				w.has(s)
				w.asks(ask{op: closeFile, i: at}, api.Ret{})
				delete(s.files, at)
				switch kind {
				case 1:
					p.Readers = 2
				case 2:
					p.Writers = 6
				}
				s.pipes[f.Pipe] = p
				w.has(s)
				w.refuses(ask{op: closeFile, i: at}, api.EIO)
			}
		}
	}
}

// Promise 17.4: a pipe of the session's own that has no ends is freed, with its bytes; a bridge stays.
func TestCloseLastEnd(t *testing.T) {
	for pipe := range 6 {
		for readers := range 3 {
			for writers := range 3 {
				for kind := 1; kind <= 2; kind++ {
					p := api.Pipe{Head: 31, Count: 32, Readers: readers, Writers: writers, Data: [32]byte{1, 31: 2}}
					s := sess{files: files{6: {Kind: kind, Pipe: pipe, Refs: 1}}, pipes: pipes{pipe: p}}
					w := start(t, s)
					w.asks(ask{op: closeFile, i: 6}, api.Ret{})
					if kind == 1 {
						p.Readers = []int{0, 0, 1}[readers]
					} else {
						p.Writers = []int{0, 0, 1}[writers]
					}
					s.pipes[pipe] = p
					if pipe < 4 && p.Readers+p.Writers == 0 {
						delete(s.pipes, pipe)
					}
					delete(s.files, 6)
					w.has(s)
				}
			}
		}
	}
}

// Promise 17.4: what is no good file is EIO, and leaves all as it is; a file whose pipe is no good one is gone all the same.
func TestCloseFileRefuses(t *testing.T) {
	w := start(t, sess{files: files{3: {}, 4: term(1)}})
	for _, f := range wild {
		if f != 4 {
			w.refuses(ask{op: closeFile, i: f}, api.EIO)
		}
	}
	for pipe := range 8 {
		for kind := 1; kind <= 2; kind++ {
			for _, bad := range []bool{false, true} {
				s := sess{files: files{0: {Kind: kind, Pipe: pipe, Refs: 2}}, pipes: pipes{4: {Readers: 2}}}
				if bad && pipe < 6 {
					s.pipes[pipe] = api.Pipe{}
				}
				w := start(t, s)
				w.asks(ask{op: closeFile}, api.Ret{})
				s.files[0] = api.File{Kind: kind, Pipe: pipe, Refs: 1}
				w.has(s)
				if !bad && (pipe == 4 || pipe == 5) {
					continue
				}
				w.asks(ask{op: closeFile}, api.Ret{E: api.EIO})
				delete(s.files, 0)
				w.has(s)
			}
		}
	}
}

// Promise 17.4: all Fds are closed in order, errors passed over, whatever the process' state; a slot that is no good one is passed over.
func TestCloseAll(t *testing.T) {
	for state := 1; state <= 3; state += 2 {
		p := full()
		p.State = state
		p.Fds = [8]int{5, 3, 2, 2, 0, 1, 5, 12}
		s := sess{procs: procs{1: live(0, 2, 4), 6: p}, files: files{0: {}, 1: reads(2, 2), 2: writes(3, 1), 3: term(2), 4: term(2), 11: writes(2, 1)}, pipes: pipes{2: {Readers: 1, Writers: 1, Count: 3}}}
		w := start(t, s)
		w.asks(ask{op: closeAll, i: 6}, api.Ret{})
		p.Fds = [8]int{}
		s = sess{procs: procs{1: live(0, 2, 4), 6: p}, files: files{0: {}, 3: term(2)}}
		w.has(s)
		for _, i := range append([]int{6}, wild...) {
			if i != 1 {
				w.refuses(ask{op: closeAll, i: i}, api.OK)
			}
		}
		w.asks(ask{op: closeAll, i: 1}, api.Ret{})
		s.procs[1], s.files[3] = live(0), term(1)
		w.has(s)
	}
	w := start(t, sess{procs: procs{0: zombie(1, 4), 1: {}}, files: files{0: term(3)}})
	w.refuses(ask{op: closeAll}, api.OK)
	w.refuses(ask{op: closeAll, i: 1}, api.OK)
}

// Promise 17.2: Exit closes all ahead of its own end, errors passed over.
func TestExitCloses(t *testing.T) {
	w := start(t, sess{procs: procs{3: live(0, 1, 2, 3, 3, 4)}, files: files{0: term(1), 1: {}, 2: reads(1, 2), 3: writes(7, 1)}, pipes: pipes{1: {Readers: 1}}})
	w.asks(ask{op: exit, i: 3}, api.Ret{})
	w.has(sess{files: files{1: {}}})
}

// rw is a right to read and write.
const rw = api.RRead | api.RWrite

// byCaps is a world of a busy session, by a Commons with other Caps.
func byCaps(t *testing.T, caps [regions]api.Cap) *world {
	t.Helper()
	return start(t, sess{
		procs: procs{0: live(0, 1, 2, 3), 1: zombie(1, 5), 2: live(1, 1), 3: stopped(1), 5: live(0)},
		files: files{0: term(2), 1: writes(4, 1), 2: reads(5, 1), 3: reads(0, 1)},
		pipes: pipes{0: {Readers: 1, Writers: 1}},
	}).by(caps)
}

// Promise 17.1: a Set or Free that is false is EIO: where the commons may be read alone nothing is done, and the bridges stay as they are.
func TestReadAlone(t *testing.T) {
	for _, x := range []struct {
		a ask
		e api.Errno
	}{
		{ask{fork, 0, 0, 0}, api.EIO},
		{ask{fork, 2, 0, 0}, api.EIO},
		{ask{fork, 5, 0, 0}, api.EIO},
		{ask{exit, 0, 1, 0}, api.EIO},
		{ask{exit, 2, 1, 0}, api.EIO},
		{ask{wait, 0, 0, 0}, api.EIO},
		{ask{wait, 2, 0, 0}, api.ECHILD},
		{ask{kill, 0, 2, 1}, api.EIO},
		{ask{kill, 0, 8, 1}, api.EIO},
		{ask{kill, 0, 8, 0}, api.OK},
		{ask{kill, 0, 1, 9}, api.OK},
		{ask{group, 0, 2, 2}, api.EIO},
		{ask{group, 0, 0, 0}, api.EIO},
		{ask{group, 0, 0, 7}, api.EPERM},
		{ask{closeAll, 0, 0, 0}, api.OK},
		{ask{closeFile, 0, 0, 0}, api.EIO},
		{ask{closeFile, 1, 0, 0}, api.EIO},
		{ask{closeFile, 2, 0, 0}, api.EIO},
		{ask{closeFile, 3, 0, 0}, api.EIO},
	} {
		w := byCaps(t, [regions]api.Cap{{Rights: api.RRead, N: 492}, {Rights: rw, N: 40}, {Rights: rw, N: 40}})
		w.refuses(x.a, x.e)
	}
}

// Promises 17.1, 17.4: where a bridge may be read alone it is EIO, told behind what was done ahead of it, which stays.
func TestStays(t *testing.T) {
	for _, bridge := range []api.Cap{{Rights: api.RRead, N: 40}, {Rights: rw, N: 39}, {Rights: api.RWrite, N: 40}, {N: 40}} {
		caps := [regions]api.Cap{{Rights: rw, N: 492}, bridge, bridge}
		for f := 1; f <= 2; f++ {
			w := byCaps(t, caps)
			w.asks(ask{op: closeFile, i: f}, api.Ret{E: api.EIO})
			if b := w.raw(ours)[192+8*f:]; !bytes.Equal(b[:8], make([]byte, 8)) {
				t.Error(f, b)
			}
		}
		w := byCaps(t, caps)
		w.asks(ask{op: exit}, api.Ret{})
		w.has(sess{procs: procs{2: live(0, 1), 3: stopped(0), 5: live(0)}, files: files{0: term(1), 3: reads(0, 1)}, pipes: pipes{0: {Readers: 1, Writers: 1}, 4: {Readers: 1, Writers: 1}, 5: {Readers: 1, Writers: 1}}})
	}
}

// Promises 17.1, 17.5 (W3): whatever of its bytes a Commons may reach, each call is as the chapter says.
func TestCaps(t *testing.T) {
	r := rand.New(rand.NewSource(1))
	for range 3000 {
		var caps [regions]api.Cap
		for i := range caps {
			caps[i] = api.Cap{Rights: []int{1, 2, 3, 3, 3, 3}[r.Intn(6)], N: size(i)}
			if r.Intn(3) == 0 {
				caps[i].N = r.Intn(size(i) + 1)
			}
		}
		w := start(t, random(r)).by(caps)
		for range 3 {
			w.do(some(r))
		}
		if t.Failed() {
			t.FailNow()
		}
	}
}

// random is some session, with much that is odd.
func random(r *rand.Rand) sess {
	s := sess{procs{}, files{}, pipes{}}
	for i := range 8 {
		if r.Intn(4) == 0 {
			continue
		}
		p := api.Proc{State: 1 + r.Intn(3), Parent: r.Intn(9), Group: r.Intn(8), Mask: r.Intn(128) << 1, Ignored: 1 << 3, Caught: 1 << 5}
		if p.State == 2 {
			p.Code = r.Intn(256)
		} else {
			p.Pending = r.Intn(1<<15) << 1
			for at := range p.Fds {
				p.Fds[at] = max(0, r.Intn(26)-13)
			}
		}
		if r.Intn(3) == 0 {
			p.Parent, p.Group = r.Intn(2), r.Intn(2)
		}
		s.procs[i] = p
	}
	for i := range 12 {
		if r.Intn(5) == 0 {
			continue
		}
		f := api.File{Kind: 1 + r.Intn(3), Refs: 1 + r.Intn(3), Flags: r.Intn(2)}
		if f.Kind != 3 {
			f.Pipe = r.Intn(8)
		}
		if r.Intn(9) == 0 {
			f.Refs = 60 + r.Intn(5)
		}
		s.files[i] = f
	}
	for i := range 6 {
		if r.Intn(4) > 0 {
			s.pipes[i] = api.Pipe{Head: r.Intn(32), Count: 1 + r.Intn(32), Readers: r.Intn(3), Writers: r.Intn(3)}
		}
	}
	return s
}

// some is a call at large, mostly of what there is.
func some(r *rand.Rand) ask {
	x := ask{r.Intn(ops), r.Intn(8), r.Intn(8), r.Intn(8)}
	switch x.op {
	case exit:
		x.a = r.Intn(1024) - 512
	case kill:
		x.a, x.b = r.Intn(16), r.Intn(16)
	case closeFile:
		x.i = r.Intn(12)
	}
	if r.Intn(20) == 0 {
		x.i = wild[r.Intn(len(wild))]
	}
	if r.Intn(20) == 0 {
		x.a, x.b = wild[r.Intn(len(wild))], wild[r.Intn(len(wild))]
	}
	return x
}

// Promise 17.5 (W1, W3): sessions at large, beside one who writes anything: each call is as the chapter says, what is bad is EIO and stays as it is.
func TestAtLarge(t *testing.T) {
	r := rand.New(rand.NewSource(2))
	count := map[string]int{}
	for range 2500 {
		w := start(t, random(r))
		for range 12 {
			switch r.Intn(12) {
			case 0:
				w.spoil(recs()[r.Intn(28)])
			case 1:
				other := random(r)
				i := r.Intn(8)
				if p, there := other.procs[i]; there {
					w.lay(i, p)
				}
				if f, there := other.files[i]; there {
					w.lay(i, f)
				}
			}
			x := some(r)
			was := w.all()
			got, _ := w.do(x)
			count[fmt.Sprint(x.op, " ", int(got.E), " ", got.Block)]++
			w.keepsOff(was)
			w.isOf(x, got)
			if t.Failed() {
				t.FailNow()
			}
		}
	}
	for _, want := range []string{"0 0", "0 105", "1 0", "1 105", "1 111", "1 123", "2 0", "2 105", "3 0", "3 105", "3 110", "4 0", "4 103", "4 105", "4 122", "5 0", "5 101", "5 103", "5 105", "5 122", "6 0", "7 0", "7 105"} {
		if count[want+" false"] < 20 {
			t.Error(want, count)
		}
	}
	if count["3 0 true"] < 20 {
		t.Error(count)
	}
}

// keepsOff fails if what is bad has other bytes than it had.
func (w *world) keepsOff(was [][]byte) {
	w.t.Helper()
	for _, x := range w.c.Bad() {
		region, at, n := lies(x)
		if b := w.raw(region)[at : at+n]; !bytes.Equal(b, was[region][at:at+n]) {
			w.t.Errorf("%v is bad, and is %v, was %v", x, b, was[region][at:at+n])
		}
	}
}

// isOf fails unless an answer is one that the call may tell, with no result beside an error or a Block.
func (w *world) isOf(x ask, r api.Ret) {
	w.t.Helper()
	may := [ops][]api.Errno{
		{api.EIO}, {api.EIO, api.EAGAIN, api.ENFILE}, {api.EIO}, {api.EIO, api.ECHILD},
		{api.EIO, api.EINVAL, api.ESRCH}, {api.EIO, api.EINVAL, api.ESRCH, api.EPERM}, {}, {api.EIO},
	}[x.op]
	if r.E != api.OK && !slices.Contains(may, r.E) {
		w.t.Errorf("%+v answers %v", x, r.E)
	}
	if r.N != 0 && (r.E != api.OK || r.Block) || r.Block && (r.E != api.OK || x.op != wait) || len(r.B) > 0 {
		w.t.Errorf("%+v answers %s", x, text(r))
	}
}

// Promise 17.6: no call panics, and each ends, whatever its numbers and whatever the bytes.
func TestNoPanic(t *testing.T) {
	r := rand.New(rand.NewSource(3))
	for op := range ops {
		for _, n := range wild {
			for _, a := range []int{0, 3, 7, 8, 99, -1, n} {
				w := start(t, random(r))
				w.do(ask{op, n, a, n})
				w.do(ask{op, a, n, a})
				w.do(ask{op, 0, n, a})
			}
		}
	}
	for range 500 {
		w := start(t, random(r))
		for region := range regions {
			b := w.raw(region)
			for range 1 + r.Intn(9) {
				b[r.Intn(len(b))] = byte(r.Intn(256))
			}
			if r.Intn(9) == 0 {
				r.Read(b)
			}
			w.write(region, 0, b)
		}
		for range 5 {
			w.do(some(r))
		}
		if t.Failed() {
			t.FailNow()
		}
	}
}

// begun is what chapter 22 says that a session with a bridge each way begins with.
func begun() sess {
	return sess{procs: procs{0: live(0, 1, 2, 3)}, files: files{0: term(1), 1: writes(4, 1), 2: reads(5, 1)}}
}

// A ledger is what one knows of processes who has just been told what the calls answered.
type ledger struct {
	parent map[int]int // of those who are there; -1: nobody
	code   map[int]int // of those who have ended
}

// live are those who have not ended, rising.
func (l ledger) live() []int {
	var all []int
	for i := range l.parent {
		if _, ended := l.code[i]; !ended {
			all = append(all, i)
		}
	}
	slices.Sort(all)
	return all
}

// forked enters a child, whose slot nobody had.
func (l ledger) forked(t *testing.T, i int, r api.Ret) {
	t.Helper()
	if len(l.parent) == 8 {
		if r.E != api.EAGAIN {
			t.Error(text(r))
		}
		return
	}
	if r.E == api.ENFILE {
		return
	}
	if _, taken := l.parent[r.N]; taken || r.E != api.OK {
		t.Error(text(r))
	}
	l.parent[r.N] = i
}

// exited enters the end of who is waited for by its parent, or by nobody.
func (l ledger) exited(i, code int) {
	for j, parent := range l.parent {
		if parent != i {
			continue
		}
		l.parent[j] = -1
		if _, ended := l.code[j]; ended {
			delete(l.parent, j)
			delete(l.code, j)
		}
	}
	if l.parent[i] < 0 {
		delete(l.parent, i)
		return
	}
	l.code[i] = code
}

// waited fails unless just the least one that ended was told, with its code, or that there is none.
func (l ledger) waited(t *testing.T, i int, r api.Ret) {
	t.Helper()
	children, ended := 0, -1
	for j := 7; j >= 0; j-- {
		if parent, there := l.parent[j]; !there || parent != i {
			continue
		}
		children++
		if _, is := l.code[j]; is {
			ended = j
		}
	}
	want := api.Ret{Block: true}
	switch {
	case children == 0:
		want = api.Ret{E: api.ECHILD}
	case ended >= 0:
		want = api.Ret{N: 256*ended + l.code[ended]}
		delete(l.parent, ended)
		delete(l.code, ended)
	}
	if text(r) != text(want) {
		t.Errorf("Wait(%d) is %s, want %s", i, text(r), text(want))
	}
}

// openPipe gives a process a pipe, as chapter 18 says, if there is room.
func openPipe(c *commons.Commons, i int) {
	p, _ := c.Proc(i)
	at := slices.Index(p.Fds[:], 0)
	var free []int
	for f := range 12 {
		if _, is := c.File(f); is == api.DFree {
			free = append(free, f)
		}
	}
	pipe := slices.IndexFunc([]int{0, 1, 2, 3}, func(k int) bool { _, is := c.Pipe(k); return is == api.DFree })
	if at < 0 || len(free) < 2 || pipe < 0 || !slices.Contains(p.Fds[at+1:], 0) {
		return
	}
	c.SetPipe(pipe, api.Pipe{Readers: 1, Writers: 1})
	c.SetFile(free[0], reads(pipe, 1))
	c.SetFile(free[1], writes(pipe, 1))
	p.Fds[at] = free[0] + 1
	p.Fds[at+1+slices.Index(p.Fds[at+1:], 0)] = free[1] + 1
	c.SetProc(i, p)
}

// shutFd closes a descriptor, as chapter 18 says.
func shutFd(t *testing.T, c *commons.Commons, i, at int) {
	t.Helper()
	p, _ := c.Proc(i)
	fd := p.Fds[at]
	if fd == 0 {
		return
	}
	p.Fds[at] = 0
	c.SetProc(i, p)
	if e := CloseFile(c, fd-1); e != api.OK {
		t.Error(e)
	}
}

// Promise 17.5 (W1, W3): honest ones alone keep all sound; each child is waited for once, with the code that it ended with.
func TestHonest(t *testing.T) {
	r := rand.New(rand.NewSource(4))
	waits, dead, halves := 0, 0, 0
	for range 150 {
		w := start(t, begun())
		l := ledger{map[int]int{0: -1}, map[int]int{}}
		for range 120 {
			all := l.live()
			if len(all) == 0 {
				dead++
				break
			}
			i := all[r.Intn(len(all))]
			switch r.Intn(9) {
			case 0, 1, 2:
				got, _ := w.do(ask{op: fork, i: i})
				l.forked(t, i, got)
			case 3:
				code := r.Intn(256)
				if i > 0 || r.Intn(5) == 0 {
					w.asks(ask{exit, i, code, 0}, api.Ret{})
					l.exited(i, code)
				}
			case 4, 5:
				got, _ := w.do(ask{op: wait, i: i})
				l.waited(t, i, got)
				if got.N > 0 {
					waits++
				}
			case 6:
				openPipe(w.c, i)
			case 7:
				shutFd(t, w.c, i, r.Intn(8))
			case 8:
				w.do(ask{group, i, r.Intn(8), r.Intn(8)})
				w.do(ask{op: closeAll, i: i})
			}
			if faults := audit.Faults(w.c.View()); len(faults) > 0 {
				t.Fatal(faults)
			}
			if t.Failed() {
				t.FailNow()
			}
		}
		w.isBad()
		if p, _ := w.c.Pipe(4); p.Writers == 0 {
			halves++
		}
		if len(l.live()) == 0 {
			w.has(sess{pipes: pipes{4: {Readers: 1}, 5: {Writers: 1}}})
		}
	}
	if waits < 100 || dead < 5 || halves < 5 {
		t.Error(waits, dead, halves)
	}
}

// Promise 17.5 (W3): what is bad holds nobody up but who needs it: a process beside it forks, ends and is waited for.
func TestBeside(t *testing.T) {
	for _, x := range recs() {
		if x.Kind == 1 && x.Index <= 2 || x.Kind == 2 && x.Index == 0 {
			continue
		}
		w := start(t, sess{procs: procs{0: live(0, 1)}, files: files{0: term(1)}})
		w.spoil(x)
		w.asks(ask{op: fork}, api.Ret{N: 1})
		w.asks(ask{op: fork, i: 1}, api.Ret{N: 2})
		w.asks(ask{kill, 1, 8, 3}, api.Ret{})
		w.asks(ask{group, 0, 1, 1}, api.Ret{})
		w.asks(ask{exit, 1, 4, 0}, api.Ret{})
		w.asks(ask{op: wait}, api.Ret{N: 256 + 4})
		w.asks(ask{exit, 2, 4, 0}, api.Ret{})
		w.asks(ask{op: wait}, api.Ret{E: api.ECHILD})
		w.isBad(x)
	}
}

// Promise 17.5: two Commons of the same bytes are of one session: what one does the other one goes on with.
func TestTwo(t *testing.T) {
	w := start(t, begun())
	d, e := commons.New(w.k, 1)
	if e != api.OK {
		t.Fatal(e)
	}
	w.asks(ask{op: fork}, api.Ret{N: 1})
	if r := Exit(d, 1, 9); text(r) != text(api.Ret{}) {
		t.Error(text(r))
	}
	w.asks(ask{op: wait}, api.Ret{N: 256 + 9})
	if r := Wait(d, 0); r.E != api.ECHILD {
		t.Error(text(r))
	}
	w.has(begun())
}
