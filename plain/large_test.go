package plain

import (
	"fmt"
	"math/rand"
	"slices"
	"testing"

	"commonage/api"
)

// somePlan is a plan of one to four sessions, some of them with one whom nobody trusts.
func somePlan(r *rand.Rand) api.Plan {
	p := plan([]int{1, 2, 3, 5, 8}[r.Intn(5)], "")
	for range 1 + r.Intn(4) {
		p.Bad = append(p.Bad, r.Intn(4) == 0)
	}
	if n := len(p.Bad); n > 1 {
		for range r.Intn(5) {
			from := r.Intn(n)
			p.Bridges = append(p.Bridges, link(from, (from+1+r.Intn(n-1))%n))
		}
	}
	return p
}

// some is a step at large, mostly of the slot that goes on, which is mostly one that is there.
func (x *pair) some(r *rand.Rand) api.Step {
	if r.Intn(12) == 0 {
		x.s = r.Intn(len(x.p.Bad))
	}
	procs := x.u.Procs(x.s)
	var there []int
	for j, p := range procs {
		if p.State > 0 {
			there = append(there, j)
		}
	}
	// Who waits goes on by what others do.
	if waits := x.u.Phase(x.s, x.i) == api.HBlocked; r.Intn(6) == 0 || waits && r.Intn(2) == 0 || !slices.Contains(there, x.i) {
		x.i = r.Intn(8)
		if len(there) > 0 && r.Intn(12) > 0 {
			x.i = there[r.Intn(len(there))]
		}
	}
	isIdle := x.u.Phase(x.s, x.i) == api.HIdle
	switch n := r.Intn(24); {
	case n < 3:
		return tick([]int{0, 1, 1, 2, x.p.Lease}[r.Intn(5)])
	case n < 4:
		return types(x.s, x.i, run(byte(r.Intn(256)), r.Intn(12))...)
	case n < 6 || isIdle && n < 17:
		return call(x.s, x.i, x.someCall(r, procs, len(there)))
	}
	return pick(x.s, x.i)
}

// someCall is a call at large of the slot that goes on, mostly by a descriptor that fits; few end anybody, where few are there.
func (x *pair) someCall(r *rand.Rand, procs []api.Proc, there int) api.Sys {
	often := []int{api.UFork, api.UFork, api.UPipe, api.UPipe, api.URead, api.URead, api.URead, api.UWrite, api.UWrite, api.UWrite, api.UWait, api.UKill, api.UKill, api.USig, api.UNow}
	c := sys(often[r.Intn(len(often))], r.Intn(8), r.Intn(8))
	if r.Intn(2) == 0 {
		c.Op = r.Intn(19)
	}
	if c.Op == api.UExit && (x.i == 0 || there < 4) && r.Intn(9) > 0 {
		c.Op = api.UFork
	}
	fit := x.fit(c.Op)
	if c.Op == api.UWrite && len(fit) == 0 && r.Intn(4) > 0 {
		return sys(api.UPipe, 0, 0)
	}
	switch c.Op {
	case api.URead, api.UWrite, api.UClose, api.UDup, api.UDup2, api.UNow:
		if len(fit) > 0 && r.Intn(8) > 0 {
			c.A = fit[r.Intn(len(fit))]
		}
	case api.UKill:
		x.someKill(r, &c, there)
	case api.UMask:
		c.A = r.Intn(1<<16) & r.Intn(1<<17)
	case api.USig:
		c.A, c.B = []int{6, 6, 3, r.Intn(17)}[r.Intn(4)], []int{2, 2, r.Intn(4)}[r.Intn(3)]
	case api.UGroup:
		c.A, c.B = []int{x.i, x.i, r.Intn(9)}[r.Intn(3)], []int{x.i, 0, r.Intn(9)}[r.Intn(3)]
	case api.UFront:
		c.A = []int{0, procs[x.i].Group, r.Intn(9)}[r.Intn(3)]
	case api.UExit:
		c.A = r.Intn(600) - 300
	}
	switch c.Op {
	case api.URead:
		c.B = []int{r.Intn(9), r.Intn(34)}[r.Intn(2)]
	case api.UWrite:
		c.D = run(byte(r.Intn(256)), []int{r.Intn(9), 9 + r.Intn(25)}[r.Intn(2)])
	case api.UNow:
		c.B = r.Intn(5) / 2
	}
	return c
}

// fit are the descriptors of the slot that goes on that a call may name.
func (x *pair) fit(op int) []int {
	s := x.u.session(x.s)
	var l []int
	for fd := range 8 {
		f := s.of(x.i, fd)
		if f != nil && (op != api.URead && op != api.UWrite || (f.Kind == api.FWrite) == (op == api.UWrite)) {
			l = append(l, fd)
		}
	}
	return l
}

// someKill has c be for one who is there, and mostly be nothing that ends where few are.
func (x *pair) someKill(r *rand.Rand, c *api.Sys, there int) {
	c.A, c.B = r.Intn(there+2), []int{0, api.SStop, api.SCont, api.SCont, api.SCont, 3, 6, api.SKill, r.Intn(17)}[r.Intn(9)]
	for j := range 8 {
		if x.u.Phase(x.s, j) == api.HBlocked && r.Intn(2) == 0 {
			c.A = j
		}
	}
	if r.Intn(5) == 0 {
		c.A = r.Intn(17)
	}
	if (c.A == 0 || c.A > 7 || there < 3) && r.Intn(9) > 0 {
		c.B = []int{api.SCont, 6}[r.Intn(2)]
	}
}

// anyStep is some step, of all kinds, with much that is odd.
func anyStep(r *rand.Rand, p api.Plan) api.Step {
	odd := func(n, often int) int {
		if r.Intn(often) == 0 {
			return wild[r.Intn(len(wild))]
		}
		return r.Intn(n)
	}
	s := api.Step{Kind: []int{1, 1, 2, 2, 2, 2, 3, 4, 5}[r.Intn(9)], S: odd(len(p.Bad), 20), P: odd(2, 20), N: odd(4, 9), B: run(1, r.Intn(36))}
	s.Sys = sys(odd(19, 20), odd(3, 5), odd(9, 5), run(1, r.Intn(36))...)
	s.Call = api.Call{Op: 1 + odd(10, 20), Cap: 256 + odd(3, 9), At: odd(492, 9), N: odd(20, 9), To: odd(40, 9), On: odd(8, 9), B: run(byte(r.Intn(256)), r.Intn(30))}
	if r.Intn(3) == 0 {
		s.Sys.Op = api.UFork
	}
	if r.Intn(30) == 0 {
		s.Kind = wild[r.Intn(len(wild))]
	}
	return s
}

// Promises 23.1, 23.2 (W1): whatever befalls, a Plain answers what a World answers, step by step, and has the same processes, as far with what they want.
func TestAsWorld(t *testing.T) {
	r := rand.New(rand.NewSource(1))
	count := map[string]int{}
	for range 320 {
		x := begin(t, somePlan(r))
		for range 600 {
			s := x.some(r)
			if r.Intn(20) == 0 {
				s = anyStep(r, x.p)
			}
			was := x.u.Phase(s.S, s.P)
			o, ok := x.does(s)
			if s.Kind == api.SPick {
				count[fmt.Sprint("from ", was, " to ", x.u.Phase(s.S, s.P))]++
			}
			if o.Back {
				count[fmt.Sprint(o.Sys.Op, " ", int(o.E))]++
			}
			if ok {
				count["dies"] += min(o.Dies, 1)
				count["caught"] += len(o.Sigs)
			}
		}
	}
	for _, want := range metAtLarge() {
		if count[want] < 5 {
			t.Error(want, count[want])
		}
	}
}

// metAtLarge is all that is to be met at large.
func metAtLarge() []string {
	l := []string{"dies", "caught", "from 0 to 0", "from 1 to 1", "from 1 to 2", "from 2 to 0", "from 2 to 1", "from 2 to 3", "from 3 to 0", "from 3 to 1", "from 3 to 3",
		"2 111", "4 110", "4 104", "5 103", "5 122", "7 122", "8 101", "8 103", "8 122", "9 123", "9 124", "10 104", "10 109", "10 111", "10 122", "10 125",
		"11 104", "11 109", "11 111", "11 122", "11 132", "12 109", "13 109", "13 124", "14 109", "15 109", "15 122", "16 101", "16 122"}
	for op := range 19 {
		e := api.OK
		if op == 0 {
			e = api.EINVAL
		}
		l = append(l, fmt.Sprint(op, " ", int(e)))
	}
	return l
}

// Promises 23.1, 23.2 (W1): so it is of steps of which most make no sense.
func TestAsWorldOfAny(t *testing.T) {
	r := rand.New(rand.NewSource(2))
	for range 300 {
		x := begin(t, somePlan(r))
		for range 200 {
			x.does(anyStep(r, x.p))
		}
	}
}

// merge has told be told of each order in which the steps of these lists, each of which stays in order, may befall.
func merge(lists [][]api.Step, ahead []api.Step, told func([]api.Step)) {
	isEnd := true
	for n, l := range lists {
		if len(l) > 0 {
			isEnd = false
			rest := slices.Clone(lists)
			rest[n] = l[1:]
			merge(rest, append(slices.Clip(ahead), l[0]), told)
		}
	}
	if isEnd {
		told(ahead)
	}
}

// Promises 23.1, 23.2 (W1): so it is of what two of a session ask, in each order in which they may be picked, with time going on at each place.
func TestAsWorldInEachOrder(t *testing.T) {
	for _, asked := range [][2]string{
		{"0.0 pid", "0.1 pid"}, {"0.0 fork", "0.1 fork"}, {"0.0 wait", "0.1 exit 3"}, {"0.0 exit 1", "0.1 fork"}, {"0.0 kill 1 14", "0.1 kill 0 6"},
		{"0.0 kill 1 9", "0.1 read 0 1"}, {"0.0 read 1 2", "0.1 write 2 0506"}, {"0.0 dup2 0 1", "0.1 close 1"},
	} {
		var lists [][]api.Step
		for i, line := range asked {
			lists = append(lists, append(steps(t, line), slices.Repeat([]api.Step{pick(0, i)}, 3)...))
		}
		count := 0
		merge(append(lists, []api.Step{tick(1)}), nil, func(l []api.Step) {
			count++
			x := play(t, plan(1, "g"), `
				do 0.0 pipe => 0.0 pipe =33
				do 0.0 sig 6 2 => 0.0 sig =0
				do 0.0 fork => 0.0 fork =1
			`)
			for _, s := range l {
				x.does(s)
			}
		})
		if count != 630 {
			t.Error(count)
		}
	}
}

// Promise 23.3: no call panics, and each ends: each number of a step may be any.
func TestNoPanic(t *testing.T) {
	for _, n := range wild {
		x := begin(t, plan(5, "gb", link(0, 1)))
		for kind := -1; kind <= 6; kind++ {
			for op := -1; op <= 19; op++ {
				c := sys(op, n, n)
				for _, s := range []api.Step{{Kind: kind, S: n, Sys: c}, {Kind: kind, P: n, Sys: c}, {Kind: kind, N: n, Sys: c}, {Kind: n, Sys: c}, {Kind: kind, Sys: sys(op, n, 0)}, {Kind: kind, Sys: sys(op, 0, n)}} {
					x.does(s)
				}
				x.does(pick(0, 0))
				x.does(pick(0, 0))
			}
		}
		x.u.Procs(n)
		x.u.Phase(n, n)
	}
}

// Promise 23.3: so it is of lists of any length, and of a Plain that was not begun, which has no session.
func TestNoPanicOfLists(t *testing.T) {
	x := begin(t, plan(5, "g"))
	for _, n := range []int{0, 1, 8, 9, 31, 32, 33, 64, 65, 300, 70000} {
		b := run(1, n)
		for op := -1; op <= 19; op++ {
			for _, s := range []api.Step{call(0, 0, sys(op, 0, 0, b...)), pick(0, 0), pick(0, 0), types(0, 0, b...), {Kind: 5, Call: api.Call{Op: op, Cap: 256, B: b}}} {
				x.does(s)
			}
			if x.u.Procs(0)[0].State == 0 {
				x = begin(t, x.p)
			}
		}
	}
	var u Plain
	for kind := range 7 {
		if o, ok := u.Do(api.Step{Kind: kind, N: 1, Sys: sys(api.UFork, 0, 0)}); told(o, ok) != "-" {
			t.Error(kind, o)
		}
	}
	if l := u.Procs(0); len(l) > 0 || u.Phase(0, 0) != 0 {
		t.Error(l)
	}
	// Nothing is there, but for what is asked.
	l := make([]api.Step, 20000)
	if outs, e := Run(plan(1000, "gggg"), l...); len(outs) > 0 || e != api.OK {
		t.Error(outs, e)
	}
}
