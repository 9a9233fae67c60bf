package world

import (
	"bytes"
	"fmt"
	"math/rand"
	"slices"
	"testing"

	"commonage/api"
	"commonage/audit"
	"commonage/ofile"
	"commonage/pslot"
	"commonage/ring"
)

// somePlan is a plan of one to four sessions, each of some of these signs.
func somePlan(r *rand.Rand, signs string) api.Plan {
	p := plan([]int{1, 2, 3, 5, 8}[r.Intn(5)], "")
	for range 1 + r.Intn(4) {
		p.Bad = append(p.Bad, signs[r.Intn(len(signs))] == 'b')
	}
	if n := len(p.Bad); n > 1 {
		for range r.Intn(5) {
			from := r.Intn(n)
			p.Bridges = append(p.Bridges, link(from, (from+1+r.Intn(n-1))%n))
		}
	}
	return p
}

// procs are a session's processes, as its bytes tell, the zero one of what is free or bad.
func (w *room) procs(s int) [8]api.Proc {
	w.t.Helper()
	var l [8]api.Proc
	b := w.raw(s)
	for i := range l {
		l[i], _ = pslot.Decode(b[24*i : 24*i+24])
	}
	return l
}

// some is a step at large of those who do no wrong, mostly of the slot that goes on, which is mostly one that is there.
func (w *room) some(r *rand.Rand) api.Step {
	w.t.Helper()
	if r.Intn(12) == 0 {
		w.s = r.Intn(len(w.p.Bad))
	}
	var there []int
	for j, p := range w.procs(w.s) {
		if p.State > 0 {
			there = append(there, j)
		}
	}
	// Who waits goes on by what others do.
	if waits := w.Host(w.s, w.i).Phase() == api.HBlocked; r.Intn(6) == 0 || waits && r.Intn(2) == 0 || !slices.Contains(there, w.i) {
		w.i = r.Intn(8)
		if len(there) > 0 && r.Intn(12) > 0 {
			w.i = there[r.Intn(len(there))]
		}
	}
	idle := w.Host(w.s, w.i).Phase() == api.HIdle
	switch n := r.Intn(24); {
	case n < 3:
		return tick([]int{0, 1, 1, 2, w.p.Lease}[r.Intn(5)])
	case n < 4:
		return types(w.s, w.i, run(byte(r.Intn(256)), r.Intn(12))...)
	case n < 6 || idle && n < 17:
		return call(w.s, w.i, w.someCall(r, len(there)))
	}
	return pick(w.s, w.i)
}

// someCall is a call at large of the slot that goes on, mostly by a descriptor that fits; few end anybody, where few are there.
func (w *room) someCall(r *rand.Rand, there int) api.Sys {
	w.t.Helper()
	s, i := w.s, w.i
	x := sys([]int{api.UFork, api.UFork, api.UPipe, api.UPipe, api.URead, api.URead, api.URead, api.UWrite, api.UWrite, api.UWrite, api.UWait, api.UKill, api.UKill, api.USig, api.UNow}[r.Intn(15)], r.Intn(8), r.Intn(8))
	if r.Intn(2) == 0 {
		x.Op = r.Intn(19)
	}
	if x.Op == api.UExit && (i == 0 || there < 4) && r.Intn(9) > 0 {
		x.Op = api.UFork
	}
	var fit []int
	for fd, f := range w.procs(s)[i].Fds {
		if f > 0 && (x.Op != api.URead && x.Op != api.UWrite || (w.raw(s)[192+8*(f-1)] == api.FWrite) == (x.Op == api.UWrite)) {
			fit = append(fit, fd)
		}
	}
	if x.Op == api.UWrite && len(fit) == 0 && r.Intn(4) > 0 {
		return sys(api.UPipe, 0, 0)
	}
	switch x.Op {
	case api.URead, api.UWrite, api.UDup, api.UDup2, api.UNow:
		if len(fit) > 0 && r.Intn(8) > 0 {
			x.A = fit[r.Intn(len(fit))]
		}
	case api.UKill:
		x.A, x.B = r.Intn(there+2), []int{0, api.SStop, api.SCont, api.SCont, api.SCont, 3, 6, api.SKill, r.Intn(17)}[r.Intn(9)]
		for j := range 8 {
			if w.Host(s, j).Phase() == api.HBlocked && r.Intn(2) == 0 {
				x.A = j
			}
		}
		if r.Intn(5) == 0 {
			x.A = r.Intn(17)
		}
		if (x.A == 0 || x.A > 7 || there < 3) && r.Intn(9) > 0 {
			x.B = []int{api.SCont, 6}[r.Intn(2)]
		}
	case api.UMask:
		x.A = r.Intn(1<<16) & r.Intn(1<<17)
	case api.USig:
		x.A, x.B = []int{6, 6, 3, r.Intn(17)}[r.Intn(4)], []int{2, 2, r.Intn(4)}[r.Intn(3)]
	case api.UGroup:
		x.A, x.B = []int{i, i, r.Intn(9)}[r.Intn(3)], []int{i, 0, r.Intn(9)}[r.Intn(3)]
	case api.UExit:
		x.A = r.Intn(600) - 300
	}
	switch x.Op {
	case api.URead:
		x.B = []int{r.Intn(9), r.Intn(34)}[r.Intn(2)]
	case api.UWrite:
		x.D = run(byte(r.Intn(256)), []int{r.Intn(9), 9 + r.Intn(25)}[r.Intn(2)])
	case api.UNow:
		x.B = r.Intn(5) / 2
	}
	return x
}

// anyStep is some step, of all kinds, with much that is odd.
func anyStep(r *rand.Rand, p api.Plan) api.Step {
	odd := func(n, often int) int {
		if r.Intn(often) == 0 {
			return wild[r.Intn(len(wild))]
		}
		return r.Intn(n)
	}
	s := api.Step{Kind: []int{1, 1, 2, 2, 2, 2, 3, 4, 5, 5}[r.Intn(10)], S: odd(len(p.Bad), 20), P: odd(2, 20), N: odd(4, 9), B: run(1, r.Intn(36))}
	s.Sys = sys(odd(19, 20), odd(3, 5), odd(9, 5), run(1, r.Intn(36))...)
	s.Call = api.Call{Op: 1 + odd(10, 20), Cap: 256 + odd(3, 9), At: odd(492, 9), N: odd(20, 9), To: odd(40, 9), On: odd(8, 9), B: run(byte(r.Intn(256)), r.Intn(30))}
	if r.Intn(3) == 0 {
		s.Sys.Op = api.UFork
	}
	if r.Intn(30) == 0 {
		s.Kind = wild[r.Intn(len(wild))]
	}
	return s
}

// sameAs fails unless w is as the book says.
func (w *room) sameAs(b *book, behind api.Step) {
	w.t.Helper()
	for n, g := range b.pages {
		if got, want := w.raw(n), g.raw(); !bytes.Equal(got, want) {
			w.t.Fatalf("%+v: session %d has\n%v, want\n%v", behind, n, got, want)
		}
		for i, d := range g.desks {
			if got := w.Host(n, i).Phase(); got != d.phase {
				w.t.Fatalf("%+v: %d.%d is at %d, want %d", behind, n, i, got, d.phase)
			}
		}
		who, stamp, since, ok := g.sect.Holder()
		if got, want := w.gate(n), fmt.Sprint(who, stamp, since, ok, g.sect.Queue()); got != want {
			w.t.Fatalf("%+v: section %d is %s, want %s", behind, n, got, want)
		}
	}
	for n, q := range b.bridges {
		if want, _ := ring.Encode(*q); !bytes.Equal(w.raw(len(b.pages)+n), want) {
			w.t.Fatalf("%+v: bridge %d has\n%v, want\n%v", behind, n, w.raw(len(b.pages)+n), want)
		}
	}
	if got := w.Kern().Now(); got != b.now {
		w.t.Fatalf("%+v: it is %d, want %d", behind, got, b.now)
	}
}

// Promises 22.2 to 22.4 (W1, W3): where nobody does wrong, each Step answers what one answers who keeps all as values, and leaves what this one has; all is sound, nothing is EIO, and only the Host of a new process has another Commons.
func TestAsValues(t *testing.T) {
	r := rand.New(rand.NewSource(2))
	count := map[string]int{}
	for range 320 {
		w := begin(t, somePlan(r, "gggb"))
		b := opened(w.p)
		for range 600 {
			s := w.some(r)
			if r.Intn(20) == 0 {
				s = anyStep(r, w.p)
			}
			// One whom nobody trusts does nothing here, but where there is none.
			if s.Kind == 5 && s.S >= 0 && s.S < len(w.p.Bad) && w.p.Bad[s.S] {
				s.Kind = 2
			}
			was := w.commons()
			o, ok := w.Do(s)
			if got, want := text(o, ok), text(b.do(s)); got != want {
				t.Fatalf("%+v: %s, want %s", s, got, want)
			}
			w.sameAs(b, s)
			for n, c := range w.commons() {
				isNew := o.Back && o.Sys.Op == api.UFork && o.E == api.OK && n == 8*s.S+o.N
				if (c == was[n]) == isNew {
					t.Fatal(s, n)
				}
			}
			if ok {
				count[fmt.Sprint(o.Sys.Op, " ", int(o.E))]++
				count["dies"] += min(o.Dies, 1)
				count["caught"] += len(o.Sigs)
			}
		}
		w.isSound()
	}
	for _, want := range metAtLarge() {
		if count[want] < 10 {
			t.Error(want, count[want])
		}
	}
}

// metAtLarge is all that honest ones are to be told at large.
func metAtLarge() []string {
	l := []string{"dies", "caught", "2 111", "4 110", "4 104", "5 103", "5 122", "7 122", "8 101", "8 103", "8 122", "9 123", "9 124", "10 104", "10 109", "10 111", "10 122", "10 125",
		"11 109", "11 111", "11 122", "11 132", "12 109", "13 109", "13 124", "14 109", "15 109", "15 122", "16 101"}
	for op := range 19 {
		l = append(l, fmt.Sprint(op, " 0"))
	}
	return l
}

// isSound fails unless all is sound, and nobody knows anything to be bad.
func (w *room) isSound() {
	w.t.Helper()
	for s := range w.p.Bad {
		if faults := audit.Faults(w.raw(s)); len(faults) > 0 {
			w.t.Error(s, faults)
		}
		for i := range 8 {
			if bad := w.Host(s, i).Commons().Bad(); len(bad) > 0 {
				w.t.Error(s, i, bad)
			}
		}
	}
}

// nasty is a step of one whom nobody trusts, who lies, breaks what is there, and holds up others.
func (w *room) nasty(r *rand.Rand, s int) api.Step {
	w.t.Helper()
	place := r.Intn(1 + len(bridgesOf(w.p, s)))
	if r.Intn(3) > 0 {
		place = 0
	}
	switch r.Intn(16) {
	case 0, 1, 2, 3:
		return w.lie(r, s, place)
	case 4:
		return writes(s, place, r.Intn(500), run(byte(r.Intn(256)), r.Intn(40))...)
	case 5:
		return writes(s, place, 8*r.Intn(60), make([]byte, 8*r.Intn(6))...)
	case 6, 7:
		return bad(s, api.Call{Op: api.KEnter, N: s})
	case 8:
		_, stamp, _, _ := w.Kern().Sect(s).Holder()
		return bad(s, api.Call{Op: api.KLeave, N: s, At: stamp})
	case 9:
		at := []int{8 * r.Intn(60), 8 * r.Intn(5)}
		return bad(s, api.Call{Op: api.KCopy, Cap: 256 + place, At: at[min(place, 1)], To: 256 + r.Intn(3), On: at[r.Intn(2)], N: 8 * r.Intn(5)})
	case 10:
		return bad(s, api.Call{Op: api.KGrant, Cap: 256 + place, To: r.Intn(40), On: r.Intn(8), N: r.Intn(500)})
	case 11:
		if r.Intn(20) == 0 {
			return bad(s, api.Call{Op: api.KRevoke, Cap: 256 + place})
		}
	case 12:
		return bad(s, api.Call{Op: []int{api.KAlloc, api.KFree, api.KNow}[r.Intn(3)], N: r.Intn(20)})
	case 13, 14:
		// As it was at first.
		region := s
		if place > 0 {
			region = len(w.p.Bad) + bridgesOf(w.p, s)[place-1]
		}
		return writes(s, place, 0, begin(w.t, w.p).raw(region)...)
	}
	x := anyStep(r, w.p)
	x.Kind, x.S = 5, s
	return x
}

// lie writes a record that is good, but need not be true.
func (w *room) lie(r *rand.Rand, s, place int) api.Step {
	w.t.Helper()
	p := api.Pipe{Head: r.Intn(32), Count: r.Intn(33), Readers: r.Intn(3), Writers: r.Intn(3)}
	r.Read(p.Data[:])
	row, _ := ring.Encode(p)
	if place > 0 {
		return writes(s, place, 0, row...)
	}
	switch r.Intn(4) {
	case 0:
		return writes(s, 0, 288+40*r.Intn(5), row...)
	case 1:
		row, _ = ofile.Encode(api.File{Kind: 1 + r.Intn(2), Pipe: r.Intn(8), Refs: 1 + r.Intn(64), Flags: r.Intn(2)})
		return writes(s, 0, 192+8*r.Intn(12), row...)
	case 2:
		g := r.Intn(8)
		return writes(s, 0, 488, byte(g), 211, byte(213+g), 0)
	}
	q := api.Proc{State: []int{1, 1, 1, 2, 3}[r.Intn(5)], Parent: r.Intn(9), Group: r.Intn(8)}
	if q.State != 2 {
		for i := range q.Fds {
			q.Fds[i] = r.Intn(13)
		}
		q.Pending = r.Intn(1<<16) & r.Intn(1<<16) & r.Intn(1<<16) &^ 1
	}
	row, _ = pslot.Encode(q)
	return writes(s, 0, 24*r.Intn(8), row...)
}

// bads are the sessions that have one whom nobody trusts.
func bads(p api.Plan) []int {
	var l []int
	for s, is := range p.Bad {
		if is {
			l = append(l, s)
		}
	}
	return l
}

// tainted are those sessions, and those that are joined to such a one, by one bridge or several.
func tainted(p api.Plan) []int {
	l := bads(p)
	for range p.Bad {
		for _, b := range p.Bridges {
			for _, x := range [2][2]int{{b.From, b.To}, {b.To, b.From}} {
				if slices.Contains(l, x[0]) && !slices.Contains(l, x[1]) {
					l = append(l, x[1])
				}
			}
		}
	}
	return l
}

// evil is a step of whoever may do one, often of one whom nobody trusts.
func (w *room) evil(r *rand.Rand) api.Step {
	w.t.Helper()
	if l := bads(w.p); len(l) > 0 && r.Intn(4) == 0 {
		return w.nasty(r, l[r.Intn(len(l))])
	}
	return w.some(r)
}

// Promise 22.4 (W2): one whom nobody trusts reaches the bytes that its own Caps are of, and no other ones; it comes by no right, nor has others lose one, and what it revoked is gone.
func TestRights(t *testing.T) {
	r := rand.New(rand.NewSource(3))
	count := map[string]int{}
	for range 300 {
		w := begin(t, somePlan(r, "bbg"))
		caps := w.rights()
		for range 150 {
			s := w.evil(r)
			if s.Kind != 5 {
				w.Do(s)
				continue
			}
			want := w.all()
			name := w.reaches(caps[s.S], s.Call, want)
			if s.Call.Op == api.KRevoke {
				delete(caps[s.S], s.Call.Cap)
			}
			w.Do(s)
			if is := w.all(); !slices.EqualFunc(is, want, bytes.Equal) {
				t.Fatalf("%v: %+v leaves\n%v, want\n%v", w.p, s.Call, is, want)
			}
			w.haveRights(caps)
			count[name]++
		}
	}
	for _, want := range []string{"write", "copy", "not write", "not copy", "nothing"} {
		if count[want] < 50 {
			t.Error(want, count)
		}
	}
}

// rights are of each session's stranger the regions that it has a Cap of, by name.
func (w *room) rights() []map[int]int {
	var l []map[int]int
	for s := range w.p.Bad {
		m := map[int]int{256: s}
		for n, b := range bridgesOf(w.p, s) {
			m[257+n] = len(w.p.Bad) + b
		}
		l = append(l, m)
	}
	return l
}

// haveRights fails unless strangers have these Caps, and all slots what they had at first.
func (w *room) haveRights(caps []map[int]int) {
	w.t.Helper()
	for s := range w.p.Bad {
		for i := range 9 {
			want := 1 + len(bridgesOf(w.p, s))
			if i == 8 {
				want = len(caps[s])
			}
			names := w.Kern().Space().Names(9*s + i)
			for _, name := range names {
				if _, has := caps[s][name]; i == 8 && !has {
					w.t.Fatal(s, names)
				}
			}
			if len(names) != want {
				w.t.Fatal(s, i, names)
			}
		}
	}
}

// reaches has these bytes be what a call of the kernel by one with these Caps may make of them, and tells which that was.
func (w *room) reaches(caps map[int]int, c api.Call, all [][]byte) string {
	part := func(name, at, n int) []byte {
		region, ok := caps[name]
		if !ok || at < 0 || n < 0 || n > len(all[region]) || at > len(all[region])-n {
			return nil
		}
		return all[region][at : at+n]
	}
	switch c.Op {
	case api.KWrite:
		if to := part(c.Cap, c.At, len(c.B)); to != nil {
			copy(to, c.B)
			return "write"
		}
		return "not write"
	case api.KCopy:
		from, to := part(c.Cap, c.At, c.N), part(c.To, c.On, c.N)
		if from != nil && to != nil {
			copy(to, slices.Clone(from))
			return "copy"
		}
		return "not copy"
	}
	return "nothing"
}

// A rec is a record, and where it lies: the region, its first byte, and the one behind its last.
type rec struct {
	api.Rec
	region, from, to int
}

// recsOf are all records of a session, its bridges among them.
func recsOf(p api.Plan, s int) []rec {
	var l []rec
	for kind, x := range [][3]int{1: {8, 0, 24}, 2: {12, 192, 8}, 3: {4, 288, 40}, 4: {1, 448, 40}, 5: {1, 488, 4}} {
		for i := range x[0] {
			l = append(l, rec{api.Rec{Kind: kind, Index: i}, s, x[1] + i*x[2], x[1] + (i+1)*x[2]})
		}
	}
	for n, b := range bridgesOf(p, s) {
		l = append(l, rec{api.Rec{Kind: 3, Index: 4 + n}, len(p.Bad) + b, 0, 40})
	}
	return l
}

// isBad tells whether bytes are a bad record of a kind.
func isBad(kind int, b []byte) bool {
	is := api.DGood
	switch kind {
	case 1:
		_, is = pslot.Decode(b)
	case 2:
		_, is = ofile.Decode(b)
	case 3, 4:
		_, is = ring.Decode(b)
	case 5:
		if b[0] > 7 || !bytes.Equal(b, []byte{b[0], 211, byte(213 + int(b[0])), 0}) {
			is = api.DBad
		}
	}
	return is == api.DBad
}

// Promise 22.4 (W3): what is bad, or was when a Host saw it, is kept away from: what this one does leaves it as it is; and who was not reached by anybody who does wrong is never told EIO, and stays sound.
func TestKeptAway(t *testing.T) {
	r := rand.New(rand.NewSource(4))
	count := map[string]int{}
	for range 400 {
		w := begin(t, somePlan(r, "bbg"))
		reached := tainted(w.p)
		for range 200 {
			s := w.evil(r)
			if s.Kind == 3 || s.Kind == 5 {
				w.Do(s)
				continue
			}
			l, h, was := recsOf(w.p, s.S), w.Host(s.S, s.P), w.all()
			known := h.Commons().Bad()
			o, ok := w.Do(s)
			is := w.all()
			for _, x := range l {
				bad := isBad(x.Kind, was[x.region][x.from:x.to])
				if (bad || slices.Contains(known, x.Rec)) && !bytes.Equal(is[x.region][x.from:x.to], was[x.region][x.from:x.to]) {
					t.Fatalf("%+v writes %v: %v, it was %v", s, x, is[x.region][x.from:x.to], was[x.region][x.from:x.to])
				}
				if bad && s.Kind != 1 && !slices.Contains(h.Commons().Bad(), x.Rec) && !(ok && o.Sys.Op == api.UFork) {
					t.Fatalf("%+v: %v is bad, but the Host knows %v", s, x, h.Commons().Bad())
				}
			}
			count[fmt.Sprint(len(known) > 0, ok, o.E == api.EIO)]++
			if o.E == api.EIO && !slices.Contains(reached, s.S) {
				t.Fatal(s, o)
			}
		}
		for n := range w.p.Bad {
			if faults := audit.Faults(w.raw(n)); len(faults) > 0 && !slices.Contains(reached, n) {
				t.Fatal(n, faults)
			}
		}
	}
	for _, want := range []string{"false false false", "false true false", "true false false", "true true false", "true true true"} {
		if count[want] < 50 {
			t.Error(want, count)
		}
	}
}

// Promise 22.4 (W5): who is not joined to one whom nobody trusts is told just the same, and has the same, as if that one had done nothing.
func TestIsolation(t *testing.T) {
	r := rand.New(rand.NewSource(5))
	apart, told, harm := 0, 0, 0
	for apart < 200 {
		p := somePlan(r, "bggg")
		p.Bridges = p.Bridges[:min(len(p.Bridges), r.Intn(4))]
		reached := tainted(p)
		if len(reached) == 0 || len(reached) == len(p.Bad) {
			continue
		}
		apart++
		w, without := begin(t, p), begin(t, p)
		for range 150 {
			s := w.evil(r)
			clean := s
			if s.Kind == 5 {
				clean = api.Step{}
			}
			o, ok := w.Do(s)
			want, is := without.Do(clean)
			for n := range p.Bad {
				if slices.Contains(reached, n) {
					harm += min(1, len(audit.Faults(w.raw(n))))
					continue
				}
				if got, want := w.session(n), without.session(n); got != want {
					t.Fatalf("%v: %+v: session %d is %s, want %s", p, s, n, got, want)
				}
				for _, b := range bridgesOf(p, n) {
					if got, want := w.raw(len(p.Bad)+b), without.raw(len(p.Bad)+b); !bytes.Equal(got, want) {
						t.Fatalf("%v: %+v: bridge %d is %v, want %v", p, s, b, got, want)
					}
				}
			}
			if !slices.Contains(reached, s.S) {
				if text(o, ok) != text(want, is) {
					t.Fatalf("%v: %+v tells %s, want %s", p, s, text(o, ok), text(want, is))
				}
				if ok {
					told++
				}
			}
			if w.Kern().Now() != without.Kern().Now() {
				t.Fatal(s)
			}
		}
	}
	if told < 500 || harm < 500 {
		t.Error(told, harm)
	}
}

// Promise 22.5: no call panics, and each ends, whatever it is given, and whatever the Caps.
func TestNoPanic(t *testing.T) {
	r := rand.New(rand.NewSource(6))
	for range 200 {
		w := begin(t, somePlan(r, "bg"))
		for range 150 {
			s := anyStep(r, w.p)
			if r.Intn(2) == 0 {
				s = w.evil(r)
			}
			if o, ok := w.Do(s); !ok && text(o, ok) != text(api.Out{}, false) {
				t.Fatal(s, text(o, ok))
			}
			switch r.Intn(60) {
			case 0:
				env := r.Intn(9 * len(w.p.Bad))
				w.Kern().Space().Revoke(env, 256+r.Intn(4))
			case 1:
				w.Kern().Space().Put(r.Intn(40), api.Cap{Obj: r.Intn(9), Rights: r.Intn(8), N: r.Intn(500)})
			case 2:
				w.Kern().Regions().Add(r.Intn(64*20), r.Intn(500))
			}
		}
		w.state()
	}
}

// Promise 22.5: each number of a step may be any.
func TestNoPanicOfAny(t *testing.T) {
	for _, n := range wild {
		w := begin(t, plan(5, "bg", link(0, 1)))
		for kind := -1; kind <= 6; kind++ {
			for op := -1; op <= 19; op++ {
				x := sys(op, n, n)
				c := api.Call{Op: op, Cap: 256, At: n, N: n, To: 256, On: n}
				for _, s := range []api.Step{{Kind: kind, S: n, Sys: x, Call: c}, {Kind: kind, P: n, Sys: x, Call: c}, {Kind: kind, N: n, Sys: x, Call: c}, {Kind: n, Sys: x, Call: c}, {Kind: kind, Call: api.Call{Op: op, Cap: n, To: n}}} {
					w.Do(s)
				}
				w.Do(pick(0, 0))
				w.Do(pick(0, 0))
			}
		}
		w.state()
	}
}
