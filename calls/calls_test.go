package calls

import (
	"bytes"
	"fmt"
	"math/rand"
	"slices"
	"testing"

	"commonage/api"
	"commonage/audit"
	"commonage/fds"
	"commonage/pipes"
	"commonage/proc"
	"commonage/sig"
)

// Promise 20.1: calls and errors have the document's numbers.
func TestNumbers(t *testing.T) {
	got := [...]int{api.UPid, api.UFork, api.UExit, api.UWait, api.UKill, api.UMask, api.USig, api.UGroup, api.UPipe, api.URead, api.UWrite, api.UClose, api.UDup, api.UDup2, api.UNow, api.UFront, api.UParent, api.UGetGroup}
	for n, op := range got {
		if op != n+1 {
			t.Error(n, op)
		}
	}
	if got := [...]api.Errno{api.EIO, api.EINVAL}; got != [...]api.Errno{105, 122} {
		t.Error(got)
	}
}

// family is a session of process 2 and its child 5, with a pipe and the terminal.
func family() sess {
	return sess{
		procs: procs{
			2: {State: 1, Parent: 8, Group: 3, Mask: 1 << 4, Ignored: 1 << 6, Caught: 1 << 7, Pending: 1 << 4, Fds: [8]int{1, 2, 3}},
			5: {State: 1, Parent: 3, Group: 3, Fds: [8]int{1}},
			7: in(3, live(2)),
		},
		files: files{0: {Kind: 3, Refs: 3}, 1: {Kind: 1, Pipe: 1, Refs: 2}, 2: {Kind: 2, Pipe: 1, Refs: 1}},
		pipes: rings{1: holds(ends(1, 1), 4, 5, 6), tty: holds(ends(1, 1), 7, 8)},
		front: 3,
	}
}

// Promise 20.1: each Op does the call that it names, with the numbers and bytes that it names, in their places.
func TestEach(t *testing.T) {
	changed := func(by func(p *api.Proc)) api.Proc {
		p := family().procs[2]
		by(&p)
		return p
	}
	same := func(*api.Proc) {}
	for _, x := range []struct {
		s    api.Sys
		want api.Ret
		by   func(p *api.Proc)
	}{
		{sys(1, 0, 0), api.Ret{N: 2}, same},
		{sys(2, 0, 0), api.Ret{N: 0}, same},
		{sys(4, 0, 0), api.Ret{Block: true}, same},
		{sys(5, 5, 0), api.Ret{}, same},
		{sys(5, 2, 5), api.Ret{}, func(p *api.Proc) { p.Pending |= 1 << 5 }},
		{sys(5, 11, 2), api.Ret{}, func(p *api.Proc) { p.Pending |= 1 << 2 }},
		{sys(5, 4, 2), fails(103), same},
		{sys(6, 1<<2|1<<9|1, 0), api.Ret{N: 1 << 4}, func(p *api.Proc) { p.Mask = 1 << 2 }},
		{sys(7, 4, 1), api.Ret{}, func(p *api.Proc) { p.Ignored, p.Pending = 1<<4|1<<6, 0 }},
		{sys(7, 6, 2), api.Ret{}, func(p *api.Proc) { p.Ignored, p.Caught = 0, 1<<6|1<<7 }},
		{sys(7, 7, 0), api.Ret{}, func(p *api.Proc) { p.Caught = 0 }},
		{sys(8, 2, 2), api.Ret{}, func(p *api.Proc) { p.Group = 2 }},
		{sys(8, 5, 2), fails(101), same},
		{sys(9, 0, 0), api.Ret{N: 3 + 16*4}, func(p *api.Proc) { p.Fds[3], p.Fds[4] = 4, 5 }},
		{sys(10, 1, 2), api.Ret{N: 2, B: []byte{4, 5}}, same},
		{sys(10, 0, 1), api.Ret{N: 1, B: []byte{7}}, same},
		{sys(10, 2, 1), fails(109), same},
		{sys(11, 2, 0, 1, 2, 3, 4, 5), api.Ret{N: 5}, same},
		{sys(11, 2, 5), api.Ret{}, same},
		{sys(11, 1, 2, 1), fails(109), same},
		{sys(12, 1, 2), api.Ret{}, func(p *api.Proc) { p.Fds[1] = 0 }},
		{sys(13, 1, 2), api.Ret{N: 3}, func(p *api.Proc) { p.Fds[3] = 2 }},
		{sys(14, 1, 6), api.Ret{N: 6}, func(p *api.Proc) { p.Fds[6] = 2 }},
		{sys(14, 6, 1), fails(109), same},
		{sys(15, 2, 1), api.Ret{}, same},
		{sys(15, 1, 2), fails(122), same},
		{sys(16, 3, 0), api.Ret{}, same},
		{sys(16, 4, 3), fails(101), same},
		{sys(17, 0, 0), api.Ret{N: 7}, same},
		{sys(18, 0, 0), api.Ret{N: 3}, same},
	} {
		p := twins(t, family())
		p.asks(2, x.s, x.want)
		p.has(2, changed(x.by))
	}
	p := twins(t, family())
	p.asks(5, sys(3, 258, 0), api.Ret{})
	p.has(5, api.Proc{State: 2, Parent: 3, Group: 3, Code: 2})
	p.asks(2, sys(4, 0, 0), api.Ret{N: 256*5 + 2})
}

// Promise 20.1: what a call does not name is passed over.
func TestPassesOver(t *testing.T) {
	r := rand.New(rand.NewSource(1))
	for range 4000 {
		s := random(r)
		i, x := some(r)
		p, q := twins(t, s), twins(t, s)
		y := x
		if slices.Contains([]int{1, 2, 4, 9, 17, 18}, x.Op) {
			y.A = wild[r.Intn(len(wild))]
		}
		if !slices.Contains([]int{5, 7, 8, 10, 14, 15}, x.Op) {
			y.B = wild[r.Intn(len(wild))]
		}
		if x.Op != 11 {
			y.D = run(7, r.Intn(50))
		}
		if a, b := p.do(i, x), q.do(i, y); text(a) != text(b) {
			t.Fatalf("%d: %+v answers %s, %+v %s", i, x, text(a), y, text(b))
		}
		if !slices.EqualFunc(p.w.all(), q.w.all(), bytes.Equal) {
			t.Fatalf("%d: %+v does other things than %+v", i, x, y)
		}
	}
}

// Promise 20.1: a process is told its slot, its Parent less 1, and its Group, whatever else it is.
func TestTells(t *testing.T) {
	for i := range 8 {
		for parent := range 9 {
			for group := range 8 {
				one := api.Proc{State: 1, Parent: parent, Group: group, Pending: 1 << 9, Mask: 2, Ignored: 1 << 3, Caught: 1 << 4, Fds: [8]int{12, 3}}
				p := twins(t, sess{procs: procs{i: one, (i + 1) % 8: live()}})
				p.leaves(i, sys(api.UPid, 5, 5), api.Ret{N: i})
				p.leaves(i, sys(api.UParent, 5, 5), api.Ret{N: parent - 1})
				p.leaves(i, sys(api.UGetGroup, 5, 5), api.Ret{N: group})
			}
		}
	}
}

// Promise 20.1: each set of bits is the Mask, without bit 0, SKill and SStop, and the old one is told; all others are EINVAL.
func TestMask(t *testing.T) {
	one := api.Proc{State: 1, Parent: 2, Group: 5, Pending: 1<<3 | 1<<9, Mask: 1 << 15, Ignored: 1 << 2, Caught: 1 << 5, Fds: [8]int{1}}
	p := twins(t, sess{procs: procs{6: one}})
	masks := slices.Clone(wild)
	for m := 0; m < 65536; m += 1 + m%97 {
		masks = append(masks, m)
	}
	for _, m := range masks {
		if m < 0 || m > 65535 {
			p.leaves(6, sys(api.UMask, m, 0), fails(122))
			continue
		}
		old := one.Mask
		one.Mask = m &^ (1 | 1<<9 | 1<<14)
		p.asks(6, sys(api.UMask, m, 0), api.Ret{N: old})
		p.has(6, one)
	}
}

// Promise 20.1: each signal but SKill and SStop is left as it comes, ignored or caught, and not Pending if it is ignored; all else is EINVAL.
func TestSig(t *testing.T) {
	r := rand.New(rand.NewSource(2))
	for _, n := range wild {
		for _, how := range wild {
			one := randomProc(r)
			one.State, one.Code = 1, 0
			p := twins(t, sess{procs: procs{4: one}})
			x := sys(api.USig, n, how)
			if n < 1 || n > 15 || n == 9 || n == 14 || how < 0 || how > 2 {
				p.leaves(4, x, fails(122))
				continue
			}
			p.asks(4, x, api.Ret{})
			bit := 1 << n
			one.Ignored, one.Caught = one.Ignored&^bit, one.Caught&^bit
			switch how {
			case api.HIgnore:
				one.Ignored, one.Pending = one.Ignored|bit, one.Pending&^bit
			case api.HCatch:
				one.Caught |= bit
			}
			p.has(4, one)
		}
	}
}

// Promise 20.1: what is no Op is EINVAL, whoever asks, and whatever else it names.
func TestNoOp(t *testing.T) {
	p := twins(t, sess{procs: procs{0: live(1), 1: zombie(), 2: stopped(1), 3: {}}, files: files{0: {}}})
	for _, op := range wild {
		if op > 0 && op < 19 {
			continue
		}
		for _, i := range wild {
			p.leaves(i, sys(op, 0, 0), fails(122))
			p.leaves(i, sys(op, i, op, 1, 2), fails(122))
		}
	}
}

// Promise 20.1: each call of one who is no live process is EIO, ahead of all that the call itself would tell.
func TestBeginsWithSelf(t *testing.T) {
	s := sess{procs: procs{0: live(1, 2), 1: zombie(), 2: stopped(1, 2, 2, 2), 3: {}, 5: live(1, 2)}, files: files{0: reader(tty), 1: writer(0)}, pipes: rings{0: ends(1, 1)}}
	p := twins(t, s)
	for op := 1; op <= 18; op++ {
		for _, i := range wild {
			if i == 0 || i == 5 {
				continue
			}
			for _, a := range []int{-1, 0, 1, 2, 8, 16, 99, 65536} {
				p.leaves(i, sys(op, a, a), fails(105))
				p.leaves(i, sys(op, 1, a, 1), fails(105))
				p.leaves(i, sys(op, a, 1, run(1, 33)...), fails(105))
			}
		}
	}
}

// Promises 15.2, 20.1, 20.2: Do and Wake begin with Look, even of no Op: what is bad anywhere is bad from then on.
func TestBeginsWithLook(t *testing.T) {
	s := sess{procs: procs{0: live(1, 12, 3)}, files: files{0: reader(tty), 11: writer(5), 2: reader(0)}, pipes: rings{0: ends(1, 1)}}
	for op := -1; op <= 19; op++ {
		for _, i := range []int{0, 3, 99, -1} {
			for _, x := range recs() {
				p := twins(t, s)
				p.spoil(x)
				p.do(i, sys(op, 2, 1))
				p.spoil(x)
				p.do(i, sys(op, 1, 1))
				if bad := p.w.c.Bad(); !slices.Equal(bad, []api.Rec{x}) {
					t.Fatal("Do", op, i, x, bad)
				}
				w := start(t, s)
				w.spoil(x)
				Wake(w.c, i, sys(op, 2, 1))
				w.spoil(x)
				if bad := w.c.Bad(); !slices.Equal(bad, []api.Rec{x}) {
					t.Fatal("Wake", op, i, x, bad)
				}
				if t.Failed() {
					t.FailNow()
				}
			}
		}
	}
}

// Promise 20.1: a Set that is false is EIO, behind the errors of Mask and Handle; what sets nothing goes on.
func TestReadAlone(t *testing.T) {
	r := api.Cap{Rights: api.RRead, N: 40}
	p := twins(t, family(), [regions]api.Cap{{Rights: api.RRead, N: 492}, r, r})
	for _, x := range []struct {
		s    api.Sys
		want api.Ret
	}{
		{sys(api.UMask, 0, 0), fails(105)}, {sys(api.UMask, 16, 0), fails(105)}, {sys(api.UMask, -1, 0), fails(122)}, {sys(api.UMask, 65536, 0), fails(122)},
		{sys(api.USig, 1, 0), fails(105)}, {sys(api.USig, 7, 2), fails(105)}, {sys(api.USig, 9, 0), fails(122)}, {sys(api.USig, 1, 3), fails(122)},
		{sys(api.UPid, 0, 0), api.Ret{N: 2}}, {sys(api.UParent, 0, 0), api.Ret{N: 7}}, {sys(api.UGetGroup, 0, 0), api.Ret{N: 3}},
	} {
		p.leaves(2, x.s, x.want)
	}
}

// Promise 20.1: whatever of its bytes a Commons may reach, each call is as the chapter says.
func TestCaps(t *testing.T) {
	r := rand.New(rand.NewSource(3))
	for range 4000 {
		var caps [regions]api.Cap
		for n := range caps {
			caps[n] = api.Cap{Rights: []int{1, 2, 3, 3, 3, 3}[r.Intn(6)], N: size(n)}
			if r.Intn(3) == 0 {
				caps[n].N = r.Intn(size(n) + 1)
			}
		}
		p := twins(t, random(r), caps)
		for range 3 {
			p.do(some(r))
		}
		if t.Failed() {
			t.FailNow()
		}
	}
}

// Promises 20.1, 20.4 (W1, W8): sessions at large, beside one who writes anything: each call is answered, as the chapter says.
func TestAtLarge(t *testing.T) {
	r := rand.New(rand.NewSource(4))
	count := map[string]int{}
	for range 6000 {
		p := twins(t, random(r))
		for range 12 {
			switch r.Intn(12) {
			case 0:
				p.spoil(recs()[r.Intn(28)])
			case 1:
				p.lay(aProc(r.Intn(8)), rowOf(randomProc(r)))
			case 2:
				p.lay(aPipe(r.Intn(7)-1), rowOf(randomPipe(r)))
			}
			i, s := some(r)
			got := p.do(i, s)
			count[fmt.Sprint(s.Op, " ", int(got.E), " ", got.Block)]++
			isAnswer(t, s, got)
			if t.Failed() {
				t.FailNow()
			}
		}
	}
	for op := 1; op <= 18; op++ {
		for _, e := range append(errors()[op], 0) {
			if n := count[fmt.Sprint(op, " ", int(e), " false")]; n < 10 {
				t.Error(op, e, n)
			}
		}
	}
	for _, op := range []int{api.UWait, api.URead, api.UWrite} {
		if n := count[fmt.Sprint(op, " 0 true")]; n < 10 {
			t.Error(op, n)
		}
	}
}

// errors is what each Op may tell, as the chapters say.
func errors() [19][]api.Errno {
	return [19][]api.Errno{
		1: {105}, 2: {105, 111, 123}, 3: {105}, 4: {105, 110}, 5: {103, 105, 122}, 6: {105, 122}, 7: {105, 122}, 8: {101, 103, 105, 122},
		9: {105, 123, 124}, 10: {105, 109, 111, 122, 125}, 11: {105, 109, 111, 122, 132}, 12: {105, 109}, 13: {105, 109, 123, 124},
		14: {105, 109, 123}, 15: {105, 109, 122}, 16: {101, 105, 122}, 17: {105}, 18: {105},
	}
}

// isAnswer fails unless an answer is one that the call may tell, with no result beside an error or a Block.
func isAnswer(t *testing.T, s api.Sys, r api.Ret) {
	t.Helper()
	may, waits := []api.Errno{122}, false
	if s.Op > 0 && s.Op < 19 {
		may, waits = append(errors()[s.Op], 0), slices.Contains([]int{api.UWait, api.URead, api.UWrite}, s.Op)
	}
	if !slices.Contains(may, r.E) || r.Block && !waits {
		t.Errorf("%+v answers %s", s, text(r))
	}
	if r.E != 0 && text(r) != text(fails(r.E)) || r.Block && text(r) != text(api.Ret{Block: true}) {
		t.Errorf("%+v answers %s", s, text(r))
	}
	if s.Op == api.URead && len(r.B) != r.N || s.Op != api.URead && len(r.B) > 0 {
		t.Errorf("%+v answers %s", s, text(r))
	}
}

// living are those who may go on, rising.
func (w *world) living() []int {
	var l []int
	for i := range 8 {
		if _, e := proc.Self(w.c, i); e == api.OK {
			l = append(l, i)
		}
	}
	return l
}

// honest is a call of one who goes on, mostly of what it has.
func (w *world) honest(r *rand.Rand, i int) api.Sys {
	_, s := some(r)
	var fit []int
	for fd := range 8 {
		if _, f, e := fds.Of(w.c, i, fd); e == api.OK && (f.Kind == api.FWrite) == (s.Op == api.UWrite) {
			fit = append(fit, fd)
		}
	}
	switch s.Op {
	case api.URead, api.UWrite:
		if len(fit) > 0 {
			s.A = fit[r.Intn(len(fit))]
		}
	case api.UGroup:
		s.A = i
	case api.UExit:
		if r.Intn(3) > 0 {
			s = sys(api.UFork, 0, 0)
		}
	case api.UKill:
		s.A += r.Intn(2) * 16
	}
	return s
}

// Promise 20.4 (W3): honest ones, who ask by Do alone and are told of signals, keep all sound; nothing is EIO to them.
func TestHonest(t *testing.T) {
	r := rand.New(rand.NewSource(5))
	count := map[int]int{}
	for range 200 {
		w := start(t, sess{procs: procs{0: live(1, 2, 3)}, files: files{0: reader(tty), 1: writer(4), 2: reader(5)}})
		for range 80 {
			l := w.living()
			if len(l) == 0 {
				break
			}
			i := l[r.Intn(len(l))]
			x := w.honest(r, i)
			got := Do(w.c, i, x)
			isAnswer(t, x, got)
			if got.E == api.EIO {
				t.Fatalf("%d: %+v answers %s", i, x, text(got))
			}
			if got.E == api.OK && !got.Block {
				count[x.Op]++
			}
			w.deliver(i)
			if faults := audit.Faults(w.raw(ours)); len(faults) > 0 {
				t.Fatalf("%d: %+v leaves %v", i, x, faults)
			}
		}
		if bad := w.c.Bad(); len(bad) > 0 {
			t.Fatal(bad)
		}
	}
	for op := 1; op <= 18; op++ {
		if count[op] < 20 {
			t.Error(op, count)
		}
	}
}

// deliver tells process i of its signals, as chapter 21 says.
func (w *world) deliver(i int) {
	w.t.Helper()
	p, e := proc.Self(w.c, i)
	if e != api.OK {
		return
	}
	p, _, dies := sig.Deliver(p)
	if !w.c.SetProc(i, p) {
		w.t.Fatal(i)
	}
	if dies > 0 {
		Do(w.c, i, sys(api.UExit, 128+dies, 0))
	}
}

// Promise 20.1 (rule 3): what is handed in is not kept, nor is the room behind it touched; what is answered is new memory.
func TestOwnBytes(t *testing.T) {
	w := start(t, family())
	w.lay(aPipe(1), rowOf(ends(1, 1)))
	room := run(1, 16)
	if r := Do(w.c, 2, api.Sys{Op: api.UWrite, A: 2, D: room[4:8:12]}); text(r) != text(api.Ret{N: 4}) || !bytes.Equal(room, run(1, 16)) {
		t.Error(text(r), room)
	}
	clear(room)
	one := Do(w.c, 2, sys(api.URead, 1, 2))
	clear(one.B[:cap(one.B)])
	if two := Do(w.c, 2, sys(api.URead, 1, 2)); !bytes.Equal(two.B, run(7, 2)) || !bytes.Equal(one.B, []byte{0, 0}) {
		t.Error(one, two)
	}
}

// Promise 20.5: no call panics, and each ends, whatever its numbers and whatever the bytes.
func TestNoPanic(t *testing.T) {
	r := rand.New(rand.NewSource(6))
	for op := -1; op <= 19; op++ {
		for _, n := range wild {
			p := twins(t, random(r))
			for _, a := range []int{0, 3, 8, -1, n} {
				d := make([]byte, min(max(n, 0), 1<<12))
				for _, x := range []struct {
					i int
					s api.Sys
				}{{n, sys(op, a, a, d...)}, {a, sys(op, n, a, d...)}, {0, sys(op, a, n)}, {0, sys(op, n, n)}} {
					p.do(x.i, x.s)
					Wake(p.w.c, x.i, x.s)
					Wake(p.twin.c, x.i, x.s)
				}
			}
			if t.Failed() {
				t.FailNow()
			}
		}
	}
	for range 500 {
		p := twins(t, random(r))
		for region := range regions {
			b := p.w.raw(region)
			for range 1 + r.Intn(9) {
				b[r.Intn(len(b))] = byte(r.Intn(256))
			}
			if r.Intn(9) == 0 {
				r.Read(b)
			}
			p.w.write(region, 0, b)
			p.twin.write(region, 0, b)
		}
		for range 5 {
			i, s := some(r)
			p.do(i, s)
			Wake(p.w.c, i, s)
		}
		if t.Failed() {
			t.FailNow()
		}
	}
}

// Promise 20.1: two Commons of the same bytes are of one session.
func TestTwo(t *testing.T) {
	w := start(t, family())
	d := w.commons(envWild)
	if r := Do(d, 2, sys(api.UWrite, 2, 0, 9)); text(r) != text(api.Ret{N: 1}) {
		t.Error(text(r))
	}
	if r := pipes.Read(w.c, 2, 1, 9); text(r) != text(api.Ret{N: 4, B: []byte{4, 5, 6, 9}}) {
		t.Error(text(r))
	}
	if r := Do(w.c, 2, sys(api.UMask, 2, 0)); text(r) != text(api.Ret{N: 16}) {
		t.Error(text(r))
	}
	if r := Do(d, 2, sys(api.UMask, 4, 0)); text(r) != text(api.Ret{N: 2}) {
		t.Error(text(r))
	}
	if r := Do(d, 2, sys(api.UClose, 1, 0)); r.E != api.OK {
		t.Error(text(r))
	}
	if _, _, e := fds.Of(w.c, 2, 1); e != api.EBADF {
		t.Error(e)
	}
}
