package sig

import (
	"math"
	"math/rand"
	"slices"
	"testing"

	"commonage/api"
	"commonage/pslot"
)

var wild = []int{math.MinInt, math.MinInt + 1, -1 << 62, -1 << 32, -65536, -65535, -256, -64, -63, -16, -15, -9, -3, -2, -1, 0, 1, 2, 3, 4, 8, 9, 10, 12, 13, 14, 15, 16, 17, 31, 32, 33, 63, 64, 65, 127, 128, 255, 256, 65534, 65535, 65536, 65537, 1 << 31, 1 << 32, 1<<32 + 3, 1<<32 + 9, 1 << 62, math.MaxInt - 1, math.MaxInt}

// A list is the signals of a set, one by one; what else the number has is the rest.
type list [16]bool

func listOf(set int) (l list, rest int) {
	rest = set
	for n := 1; n <= 15; n++ {
		if set>>n%2 != 0 {
			l[n] = true
			rest -= 1 << n
		}
	}
	return l, rest
}

// setOf is the set of a list and the rest.
func setOf(l list, rest int) int {
	for n := 1; n <= 15; n++ {
		if l[n] {
			rest += 1 << n
		}
	}
	return rest
}

// change is a set when to has changed its list.
func change(set int, to func(l *list)) int {
	l, rest := listOf(set)
	to(&l)
	return setOf(l, rest)
}

func isIn(set, n int) bool {
	l, _ := listOf(set)
	return l[n]
}

func put(n int) func(l *list)  { return func(l *list) { l[n] = true } }
func drop(n int) func(l *list) { return func(l *list) { l[n] = false } }

// set is the set of these signals.
func set(l ...int) int {
	all := 0
	for _, n := range l {
		all = change(all, put(n))
	}
	return all
}

// raiseOf is Raise in the chapter's words.
func raiseOf(p api.Proc, n int) (api.Proc, bool) {
	if n < 1 || n > 15 || p.State != 1 && p.State != 3 {
		return p, false
	}
	if !isIn(p.Ignored, n) || n == 14 || n == 9 {
		p.Pending = change(p.Pending, put(n))
	}
	if p.State == 3 && (n == 15 || n == 9) {
		p.State = 1
	}
	if n == 15 {
		p.Pending = change(p.Pending, drop(14))
	}
	if n == 14 {
		p.Pending = change(p.Pending, drop(15))
	}
	return p, true
}

// nextOf is Next in the chapter's words.
func nextOf(p api.Proc) (int, int) {
	if p.State != 1 {
		return 0, 0
	}
	for _, n := range []int{9, 1, 2, 3, 4, 5, 6, 7, 8, 10, 11, 12, 13, 14, 15} {
		if !isIn(p.Pending, n) || isIn(p.Mask, n) {
			continue
		}
		what := 4
		if n == 14 {
			what = 3
		}
		if isIn(p.Caught, n) {
			what = 2
		} else if n == 15 {
			what = 1
		}
		return n, what
	}
	return 0, 0
}

// deliverOf is Deliver in the chapter's words.
func deliverOf(p api.Proc) (api.Proc, []int, int) {
	var caught []int
	for {
		n, what := nextOf(p)
		if n == 0 {
			return p, caught, 0
		}
		p.Pending = change(p.Pending, drop(n))
		switch what {
		case 2:
			caught = append(caught, n)
		case 3:
			p.State = 3
			return p, caught, 0
		case 4:
			return p, caught, n
		}
	}
}

// handleOf is Handle in the chapter's words.
func handleOf(p api.Proc, n, how int) (api.Proc, api.Errno) {
	if n < 1 || n > 15 || n == 9 || n == 14 || how < 0 || how > 2 {
		return api.Proc{}, 122
	}
	p.Ignored = change(p.Ignored, func(l *list) { l[n] = how == 1 })
	p.Caught = change(p.Caught, func(l *list) { l[n] = how == 2 })
	if how == 1 {
		p.Pending = change(p.Pending, drop(n))
	}
	return p, 0
}

// maskOf is Mask in the chapter's words.
func maskOf(p api.Proc, m int) (api.Proc, int, api.Errno) {
	if m < 0 || m > 65535 {
		return api.Proc{}, 0, 122
	}
	old := p.Mask
	l, _ := listOf(m)
	l[9], l[14] = false, false
	p.Mask = setOf(l, 0)
	return p, old, 0
}

func raises(t *testing.T, p api.Proc, n int) {
	t.Helper()
	want, is := raiseOf(p, n)
	if q, ok := Raise(p, n); q != want || ok != is {
		t.Errorf("Raise(%v, %d) = %v, %v, want %v, %v", p, n, q, ok, want, is)
	}
}

func handles(t *testing.T, p api.Proc, n, how int) {
	t.Helper()
	want, is := handleOf(p, n, how)
	if q, e := Handle(p, n, how); q != want || e != is {
		t.Errorf("Handle(%v, %d, %d) = %v, %v, want %v, %v", p, n, how, q, e, want, is)
	}
}

func masks(t *testing.T, p api.Proc, m int) {
	t.Helper()
	want, was, is := maskOf(p, m)
	if q, old, e := Mask(p, m); q != want || old != was || e != is {
		t.Errorf("Mask(%v, %d) = %v, %d, %v, want %v, %d, %v", p, m, q, old, e, want, was, is)
	}
}

// delivers fails unless Next, Deliver and Wakes answer of p what the chapter says.
func delivers(t *testing.T, p api.Proc) {
	t.Helper()
	n, what := nextOf(p)
	if m, is := Next(p); m != n || is != what {
		t.Errorf("Next(%v) = %d, %d, want %d, %d", p, m, is, n, what)
	}
	if is := Wakes(p); is != (n != 0 && what != 1) {
		t.Errorf("Wakes(%v) = %v, for its Next is %d, %d", p, is, n, what)
	}
	want, list, end := deliverOf(p)
	if q, caught, dies := Deliver(p); q != want || !slices.Equal(caught, list) || dies != end {
		t.Errorf("Deliver(%v) = %v, %v, %d, want %v, %v, %d", p, q, caught, dies, want, list, end)
	}
}

// answers fails unless all that can be asked of p is answered as the chapter says.
func answers(t *testing.T, p api.Proc) {
	t.Helper()
	delivers(t, p)
	for n := -1; n <= 17; n++ {
		raises(t, p, n)
		for how := -1; how <= 3; how++ {
			handles(t, p, n, how)
		}
	}
	for _, m := range []int{-1, 0, 1, 2, 1 << 9, 1 << 14, 1 << 15, 65534, 65535, 65536} {
		masks(t, p, m)
	}
}

// full is a process with something in each field that a signal does not touch.
func full() api.Proc {
	return api.Proc{State: api.PLive, Parent: 3, Group: 2, Mask: set(2, 13), Ignored: set(3), Caught: set(4, 15), Fds: [8]int{1, 2, 3, 0, 0, 12, 0, 7}}
}

// Promises 14.1, 14.2: the chapter's example.
func TestExample(t *testing.T) {
	p, ok := Raise(api.Proc{State: api.PLive}, 3)
	q, caught, dies := Deliver(p)
	if !ok || q != (api.Proc{State: api.PLive}) || len(caught) != 0 || dies != 3 {
		t.Error(ok, q, caught, dies)
	}
}

// Promise 14.1: what is raised, told one by one.
func TestRaise(t *testing.T) {
	for i, x := range []struct {
		p    api.Proc
		n    int
		want api.Proc
		ok   bool
	}{
		{api.Proc{State: 1}, 1, api.Proc{State: 1, Pending: 2}, true},
		{api.Proc{State: 1}, 15, api.Proc{State: 1, Pending: 32768}, true},
		{api.Proc{State: 1}, 0, api.Proc{State: 1}, false},
		{api.Proc{State: 3}, 0, api.Proc{State: 3}, false},
		{api.Proc{State: 1}, 16, api.Proc{State: 1}, false},
		{api.Proc{State: 3}, -9, api.Proc{State: 3}, false},
		{api.Proc{State: 2, Code: 7}, 15, api.Proc{State: 2, Code: 7}, false},
		{api.Proc{}, 1, api.Proc{}, false},
		{api.Proc{State: 4}, 9, api.Proc{State: 4}, false},
		{api.Proc{State: 1, Pending: 2}, 1, api.Proc{State: 1, Pending: 2}, true},
		{api.Proc{State: 1, Pending: 2}, 2, api.Proc{State: 1, Pending: 6}, true},
		{api.Proc{State: 3}, 13, api.Proc{State: 3, Pending: set(13)}, true},
		{api.Proc{State: 3, Pending: set(15)}, 14, api.Proc{State: 3, Pending: set(14)}, true},
		{api.Proc{State: 3, Pending: set(14, 15)}, 9, api.Proc{State: 1, Pending: set(9, 14, 15)}, true},
		{api.Proc{State: 3, Pending: set(9, 14)}, 15, api.Proc{State: 1, Pending: set(9, 15)}, true},
		{api.Proc{State: 1, Pending: set(14)}, 15, api.Proc{State: 1, Pending: set(15)}, true},
		{api.Proc{State: 1, Pending: set(15)}, 14, api.Proc{State: 1, Pending: set(14)}, true},
		{api.Proc{State: 1, Ignored: set(1)}, 1, api.Proc{State: 1, Ignored: set(1)}, true},
		{api.Proc{State: 1, Ignored: set(1)}, 2, api.Proc{State: 1, Ignored: set(1), Pending: set(2)}, true},
		{api.Proc{State: 1, Ignored: set(1), Pending: set(1)}, 1, api.Proc{State: 1, Ignored: set(1), Pending: set(1)}, true},
		{api.Proc{State: 3, Ignored: set(15), Pending: set(14)}, 15, api.Proc{State: 1, Ignored: set(15)}, true},
		{api.Proc{State: 3, Ignored: set(9)}, 9, api.Proc{State: 1, Ignored: set(9), Pending: set(9)}, true},
		{api.Proc{State: 1, Ignored: set(14), Pending: set(15)}, 14, api.Proc{State: 1, Ignored: set(14), Pending: set(14)}, true},
		{api.Proc{State: 1, Mask: set(5), Caught: set(6)}, 5, api.Proc{State: 1, Mask: set(5), Caught: set(6), Pending: set(5)}, true},
		{api.Proc{State: 1, Mask: set(5), Caught: set(6)}, 6, api.Proc{State: 1, Mask: set(5), Caught: set(6), Pending: set(6)}, true},
	} {
		if q, ok := Raise(x.p, x.n); q != x.want || ok != x.ok {
			t.Errorf("%d: Raise(%v, %d) = %v, %v, want %v, %v", i, x.p, x.n, q, ok, x.want, x.ok)
		}
		raises(t, x.p, x.n)
	}
}

// Promise 14.1: every signal raised of every state, when any one signal is pending and any one ignored.
func TestRaiseEach(t *testing.T) {
	for state := -1; state <= 5; state++ {
		for pending := range 16 {
			for ignored := range 16 {
				p := full()
				p.State, p.Pending, p.Ignored = state, 1<<pending, 1<<ignored
				for n := -1; n <= 17; n++ {
					raises(t, p, n)
				}
			}
		}
	}
}

// Promise 14.2: what is next, told one by one.
func TestNext(t *testing.T) {
	for i, x := range []struct {
		p       api.Proc
		n, what int
		wakes   bool
	}{
		{api.Proc{}, 0, 0, false},
		{api.Proc{State: 1}, 0, 0, false},
		{api.Proc{State: 1, Pending: set(1)}, 1, api.GDie, true},
		{api.Proc{State: 2, Pending: set(1)}, 0, 0, false},
		{api.Proc{State: 3, Pending: set(1)}, 0, 0, false},
		{api.Proc{State: 3, Pending: set(9)}, 0, 0, false},
		{api.Proc{State: 4, Pending: set(9)}, 0, 0, false},
		{api.Proc{State: 1, Pending: set(7, 8)}, 7, api.GDie, true},
		{api.Proc{State: 1, Pending: set(7, 8), Mask: set(7)}, 8, api.GDie, true},
		{api.Proc{State: 1, Pending: set(7, 8), Mask: set(7, 8)}, 0, 0, false},
		{api.Proc{State: 1, Pending: set(7, 8), Caught: set(7)}, 7, api.GCatch, true},
		{api.Proc{State: 1, Pending: set(7, 8), Caught: set(8)}, 7, api.GDie, true},
		{api.Proc{State: 1, Pending: set(7, 8), Ignored: set(7)}, 7, api.GDie, true},
		{api.Proc{State: 1, Pending: set(1, 9), Caught: set(1)}, 9, api.GDie, true},
		{api.Proc{State: 1, Pending: set(9, 14, 15)}, 9, api.GDie, true},
		{api.Proc{State: 1, Pending: set(9, 10), Mask: set(10)}, 9, api.GDie, true},
		{api.Proc{State: 1, Pending: set(13, 14)}, 13, api.GDie, true},
		{api.Proc{State: 1, Pending: set(14, 15)}, 14, api.GStop, true},
		{api.Proc{State: 1, Pending: set(15)}, 15, api.GIgnore, false},
		{api.Proc{State: 1, Pending: set(15), Mask: set(15)}, 0, 0, false},
		{api.Proc{State: 1, Pending: set(15), Caught: set(15)}, 15, api.GCatch, true},
		{api.Proc{State: 1, Pending: set(1, 15), Mask: set(1)}, 15, api.GIgnore, false},
		{api.Proc{State: 1, Pending: 1}, 0, 0, false},
		{api.Proc{State: 1, Pending: 1 << 16}, 0, 0, false},
		{api.Proc{State: 1, Pending: math.MinInt}, 0, 0, false},
		{api.Proc{State: 1, Pending: -1}, 9, api.GDie, true},
		{api.Proc{State: 1, Pending: set(2), Mask: math.MinInt | 1<<16 | 1}, 2, api.GDie, true},
	} {
		if n, what := Next(x.p); n != x.n || what != x.what {
			t.Errorf("%d: Next(%v) = %d, %d, want %d, %d", i, x.p, n, what, x.n, x.what)
		}
		if is := Wakes(x.p); is != x.wakes {
			t.Errorf("%d: Wakes(%v) = %v", i, x.p, is)
		}
		delivers(t, x.p)
	}
}

// Promise 14.2: what is delivered, told one by one.
func TestDeliver(t *testing.T) {
	for i, x := range []struct {
		p, q   api.Proc
		caught []int
		dies   int
	}{
		{api.Proc{State: 1, Mask: 2}, api.Proc{State: 1, Mask: 2}, nil, 0},
		{api.Proc{State: 1, Pending: set(2, 1, 15), Caught: set(1, 2, 15)}, api.Proc{State: 1, Caught: set(1, 2, 15)}, []int{1, 2, 15}, 0},
		{api.Proc{State: 1, Pending: set(1, 2, 3), Caught: set(1, 3)}, api.Proc{State: 1, Pending: set(3), Caught: set(1, 3)}, []int{1}, 2},
		{api.Proc{State: 1, Pending: set(1, 2), Mask: set(1)}, api.Proc{State: 1, Pending: set(1), Mask: set(1)}, nil, 2},
		{api.Proc{State: 1, Pending: set(1, 2), Mask: set(2), Caught: set(1, 2)}, api.Proc{State: 1, Pending: set(2), Mask: set(2), Caught: set(1, 2)}, []int{1}, 0},
		{api.Proc{State: 1, Pending: set(1, 9, 14), Caught: set(1)}, api.Proc{State: 1, Pending: set(1, 14), Caught: set(1)}, nil, 9},
		{api.Proc{State: 1, Pending: set(14)}, api.Proc{State: 3}, nil, 0},
		{api.Proc{State: 1, Pending: set(13, 14, 15), Caught: set(13, 15)}, api.Proc{State: 3, Pending: set(15), Caught: set(13, 15)}, []int{13}, 0},
		{api.Proc{State: 1, Pending: set(13, 14)}, api.Proc{State: 1, Pending: set(14)}, nil, 13},
		{api.Proc{State: 1, Pending: set(15)}, api.Proc{State: 1}, nil, 0},
		{api.Proc{State: 1, Pending: set(12, 15), Caught: set(12)}, api.Proc{State: 1, Caught: set(12)}, []int{12}, 0},
		{api.Proc{State: 3, Pending: set(9, 12), Caught: set(12)}, api.Proc{State: 3, Pending: set(9, 12), Caught: set(12)}, nil, 0},
		{api.Proc{State: 2, Code: 5, Pending: set(9)}, api.Proc{State: 2, Code: 5, Pending: set(9)}, nil, 0},
		{api.Proc{State: 1, Pending: 1<<16 | 1 | 2, Caught: set(1)}, api.Proc{State: 1, Pending: 1<<16 | 1, Caught: set(1)}, []int{1}, 0},
	} {
		if q, caught, dies := Deliver(x.p); q != x.q || !slices.Equal(caught, x.caught) || dies != x.dies {
			t.Errorf("%d: Deliver(%v) = %v, %v, %d, want %v, %v, %d", i, x.p, q, caught, dies, x.q, x.caught, x.dies)
		}
		delivers(t, x.p)
	}
}

// Promise 14.3: what is done with a signal, told one by one.
func TestHandle(t *testing.T) {
	p := api.Proc{State: 1, Pending: set(1, 2, 3), Mask: set(1), Ignored: set(2), Caught: set(3)}
	for i, x := range []struct {
		n, how                   int
		pending, ignored, caught int
		e                        api.Errno
	}{
		{1, api.HDefault, set(1, 2, 3), set(2), set(3), api.OK},
		{1, api.HIgnore, set(2, 3), set(1, 2), set(3), api.OK},
		{1, api.HCatch, set(1, 2, 3), set(2), set(1, 3), api.OK},
		{2, api.HDefault, set(1, 2, 3), 0, set(3), api.OK},
		{2, api.HIgnore, set(1, 3), set(2), set(3), api.OK},
		{2, api.HCatch, set(1, 2, 3), 0, set(2, 3), api.OK},
		{3, api.HDefault, set(1, 2, 3), set(2), 0, api.OK},
		{3, api.HIgnore, set(1, 2), set(2, 3), 0, api.OK},
		{3, api.HCatch, set(1, 2, 3), set(2), set(3), api.OK},
		{15, api.HIgnore, set(1, 2, 3), set(2, 15), set(3), api.OK},
		{13, api.HCatch, set(1, 2, 3), set(2), set(3, 13), api.OK},
		{0, api.HDefault, 0, 0, 0, api.EINVAL}, {-1, api.HIgnore, 0, 0, 0, api.EINVAL}, {16, api.HCatch, 0, 0, 0, api.EINVAL},
		{9, api.HDefault, 0, 0, 0, api.EINVAL}, {9, api.HIgnore, 0, 0, 0, api.EINVAL}, {9, api.HCatch, 0, 0, 0, api.EINVAL},
		{14, api.HDefault, 0, 0, 0, api.EINVAL}, {14, api.HIgnore, 0, 0, 0, api.EINVAL}, {14, api.HCatch, 0, 0, 0, api.EINVAL},
		{1, -1, 0, 0, 0, api.EINVAL}, {1, 3, 0, 0, 0, api.EINVAL}, {9, 3, 0, 0, 0, api.EINVAL},
	} {
		want := api.Proc{}
		if x.e == api.OK {
			want = api.Proc{State: 1, Pending: x.pending, Mask: set(1), Ignored: x.ignored, Caught: x.caught}
		}
		if q, e := Handle(p, x.n, x.how); q != want || e != x.e {
			t.Errorf("%d: Handle(%v, %d, %d) = %v, %v, want %v, %v", i, p, x.n, x.how, q, e, want, x.e)
		}
		handles(t, p, x.n, x.how)
	}
}

// Promise 14.3: Handle of whatever numbers, whatever the state.
func TestHandleEach(t *testing.T) {
	for state := -1; state <= 5; state++ {
		for _, sets := range [][3]int{{}, {65534, 0, 65534}, {65534, 65534, 0}, {65535, 65535, 65535}, {-1, -1, -1}, {math.MinInt, 1, 1 << 16}} {
			p := full()
			p.State, p.Pending, p.Ignored, p.Caught = state, sets[0], sets[1], sets[2]
			for _, n := range wild {
				for _, how := range wild {
					handles(t, p, n, how)
				}
			}
		}
	}
}

// Promise 14.3: every mask that there is, those beside it, and the old one each time.
func TestMask(t *testing.T) {
	for _, p := range []api.Proc{{}, full(), {State: 2, Mask: set(15)}, {State: 3, Mask: -1}} {
		for m := -10; m <= 65546; m++ {
			masks(t, p, m)
		}
		for _, m := range wild {
			masks(t, p, m)
		}
	}
	for i, x := range []struct{ m, mask int }{{0, 0}, {1, 0}, {2, 2}, {3, 2}, {1<<9 | 1<<8, 1 << 8}, {1<<14 | 1<<15, 1 << 15}, {65535, 0xbdfe}} {
		q, old, e := Mask(full(), x.m)
		want := full()
		want.Mask = x.mask
		if q != want || old != set(2, 13) || e != api.OK {
			t.Errorf("%d: Mask(%d) = %v, %d, %v, want %v", i, x.m, q, old, e, want)
		}
	}
	for _, m := range []int{-1, 65536} {
		if q, old, e := Mask(full(), m); q != (api.Proc{}) || old != 0 || e != api.EINVAL {
			t.Error(m, q, old, e)
		}
	}
}

// Promises 14.1 to 14.3 (W1): all that five signals can be to a process, those that the chapter names and two more, and all that can be asked of it.
func TestAllOfFive(t *testing.T) {
	// What a signal is: none of them, or in Pending 1, Mask 2, Ignored 4, Caught 8.
	ruled := []int{0, 1, 2, 3, 4, 5, 6, 7, 8, 9, 10, 11}
	for state := range 5 {
		for _, a := range ruled {
			for _, b := range ruled {
				for kill := range 2 {
					for stop := range 2 {
						for _, c := range ruled {
							p := full()
							p.State = state
							p.Mask, p.Ignored, p.Caught = 0, 0, 0
							for n, is := range map[int]int{3: a, 13: b, 9: kill, 14: stop, 15: c} {
								p.Pending |= is & 1 << n
								p.Mask |= is >> 1 & 1 << n
								p.Ignored |= is >> 2 & 1 << n
								p.Caught |= is >> 3 & 1 << n
							}
							delivers(t, p)
							for _, n := range []int{3, 9, 13, 14, 15} {
								raises(t, p, n)
								handles(t, p, n, (a+b+c+n)%3)
							}
						}
					}
				}
			}
		}
	}
}

// someProc is some process, its sets of signals alone, and mostly live.
func someProc(r *rand.Rand) api.Proc {
	ruled := 65534 &^ set(9, 14)
	p := full()
	p.State = []int{1, 1, 1, 1, 1, 2, 3, 3}[r.Intn(8)]
	p.Pending = r.Intn(65536) & r.Intn(65536) &^ 1
	p.Mask, p.Ignored, p.Caught = r.Intn(65536)&ruled, r.Intn(65536)&ruled, r.Intn(65536)&ruled
	if r.Intn(2) == 0 {
		p.Caught, p.Ignored = ruled, p.Ignored&r.Intn(65536)&r.Intn(65536)
	}
	p.Caught &^= p.Ignored
	if p.State == 2 {
		p.Code, p.Pending, p.Fds = 77, 0, [8]int{}
	}
	return p
}

// Promises 14.1 to 14.3 (W1): some of all the processes that there are, with signals at large; those that were good stay so.
func TestSome(t *testing.T) {
	r := rand.New(rand.NewSource(1))
	caught, ends := 0, [3]int{}
	for range 20000 {
		p := someProc(r)
		answers(t, p)
		q, list, dies := Deliver(p)
		caught += len(list)
		switch {
		case dies > 0:
			ends[0]++
		case q.State != p.State:
			ends[1]++
		default:
			ends[2]++
		}
		n, how, m := r.Intn(15)+1, r.Intn(3), r.Intn(65536)
		raised, _ := Raise(p, n)
		masked, _, _ := Mask(p, m)
		good := []api.Proc{p, q, raised, masked}
		if handled, e := Handle(p, n, how); e == api.OK {
			good = append(good, handled)
		}
		for _, x := range good {
			if !pslot.Ok(x) {
				t.Fatal("of", p, "came", x, "by", n, how, m)
			}
		}
	}
	if caught < 5000 || min(ends[0], ends[1], ends[2]) < 1000 {
		t.Error("caught", caught, "ends", ends)
	}
}

// Promises 14.1 to 14.3: what else a number has than signals that there are stays, and is no signal.
func TestRest(t *testing.T) {
	r := rand.New(rand.NewSource(2))
	for range 5000 {
		p := someProc(r)
		for _, field := range []*int{&p.Pending, &p.Mask, &p.Ignored, &p.Caught} {
			*field |= wild[r.Intn(len(wild))] &^ 65534
		}
		answers(t, p)
	}
}

// Promise 14.4: a signal is told once, however often it was raised, and again only if it is raised again.
func TestToldOnce(t *testing.T) {
	for n := 1; n <= 15; n++ {
		p := api.Proc{State: api.PLive, Caught: 65534 &^ set(9, 14)}
		for again := range 3 {
			for range again + 1 {
				p, _ = Raise(p, n)
			}
			told := 0
			for range 3 {
				q, caught, dies := Deliver(p)
				told += len(caught)
				if dies > 0 || q.State != p.State {
					told++
				}
				p = q
				p.State = api.PLive
			}
			if told != 1 {
				t.Error("signal", n, "was told", told, "times")
			}
		}
	}
}

// Promise 14.4: of whatever is raised, masked and handled, each signal is told no more often than it was raised, and none that waited is lost.
func TestToldOnceAtLarge(t *testing.T) {
	r := rand.New(rand.NewSource(3))
	for range 300 {
		p := api.Proc{State: api.PLive}
		var raised, told [16]int
		for range 200 {
			switch n := r.Intn(15) + 1; r.Intn(6) {
			case 0, 1:
				p, _ = Raise(p, n)
				raised[n]++
			case 2:
				p, _, _ = Mask(p, r.Intn(65536)&r.Intn(65536))
			case 3:
				if q, e := Handle(p, n, r.Intn(3)); e == api.OK {
					p = q
				}
			default:
				q, caught, dies := Deliver(p)
				for i, n := range append(caught, dies) {
					told[n]++
					if !isIn(p.Pending, n) && n != 0 || isIn(q.Pending, n) || slices.Contains(caught[:min(i, len(caught))], n) {
						t.Error("of", p, "was told", caught, dies)
					}
				}
				if next, _ := Next(q); dies == 0 && next != 0 {
					t.Error("of", q, next, "is left")
				}
				p = q
			}
		}
		for n := 1; n <= 15; n++ {
			if told[n] > raised[n] {
				t.Error("signal", n, "was raised", raised[n], "times and told", told[n])
			}
		}
	}
}

// Promise 14.4: SKill and SStop can't be kept off, whatever a process asks for.
func TestNotKeptOff(t *testing.T) {
	for how := api.HDefault; how <= api.HCatch; how++ {
		for _, state := range []int{api.PLive, api.PStopped} {
			for pending := range 65536 {
				p := api.Proc{State: state, Pending: pending &^ (1 | set(9, 14))}
				p, _, _ = Mask(p, 65535)
				for n := range 17 {
					if q, e := Handle(p, n, how); e == api.OK {
						p = q
					}
				}
				keptOff(t, p)
				if pending%64 == 0 {
					free, _, _ := Mask(p, 0)
					keptOff(t, free)
				}
			}
		}
	}
}

// keptOff fails if SKill of p does not end it at once, or SStop, if p is awake and dies of no lesser one, does not stop it.
func keptOff(t *testing.T, p api.Proc) {
	t.Helper()
	killed, ok := Raise(p, api.SKill)
	q, caught, dies := Deliver(killed)
	if !ok || !Wakes(killed) || dies != api.SKill || len(caught) > 0 || q.State != api.PLive {
		t.Fatal("of", p, "came", q, caught, dies)
	}
	stopped, ok := Raise(p, api.SStop)
	q, _, dies = Deliver(stopped)
	if !ok || q.State != api.PStopped && (dies == 0 || dies > api.SStop) || q.State == api.PStopped && dies > 0 {
		t.Fatal("of", p, "came", q, dies)
	}
}

// Promise 14.1: who is stopped goes on by SCont or SKill alone, and is told then what came while it was stopped.
func TestStopAndGoOn(t *testing.T) {
	p, _ := Raise(api.Proc{State: api.PLive, Caught: set(5)}, api.SStop)
	p, _, _ = Deliver(p)
	for n := 1; n <= 15; n++ {
		q, ok := Raise(p, n)
		if goes := n == api.SCont || n == api.SKill; !ok || (q.State == api.PLive) != goes || Wakes(q) != (n == api.SKill) {
			t.Error(n, q, ok)
		}
	}
	p, _ = Raise(p, 5)
	if q, caught, dies := Deliver(p); q != p || len(caught) > 0 || dies > 0 {
		t.Error(q, caught, dies)
	}
	p, _ = Raise(p, api.SCont)
	if q, caught, dies := Deliver(p); q != (api.Proc{State: api.PLive, Caught: set(5)}) || !slices.Equal(caught, []int{5}) || dies > 0 {
		t.Error(q, caught, dies)
	}
}

// DOC.md, rule 3: what is answered is new memory, its spare room too.
func TestNewMemory(t *testing.T) {
	p := api.Proc{State: api.PLive, Pending: set(1, 2, 3), Caught: set(1, 2, 3)}
	_, one, _ := Deliver(p)
	_, two, _ := Deliver(p)
	for i := range one[:cap(one)] {
		one[:cap(one)][i] = 99
	}
	_, three, _ := Deliver(p)
	if !slices.Equal(two, []int{1, 2, 3}) || !slices.Equal(three, two) {
		t.Error(two, three)
	}
}

// Promise 14.5: no call panics, whatever the numbers; what is no signal is refused.
func TestNoPanic(t *testing.T) {
	for _, n := range wild {
		for _, m := range wild {
			for _, state := range []int{api.PLive, api.PZombie, api.PStopped, n} {
				p := api.Proc{State: state, Parent: m, Group: n, Code: m, Pending: n, Mask: m, Ignored: m, Caught: m}
				Next(p)
				Deliver(p)
				Wakes(p)
				raises(t, p, m)
				handles(t, p, m, n)
				masks(t, p, n)
				p.Mask = 0
				Deliver(p)
			}
		}
	}
}
