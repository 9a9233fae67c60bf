package sect

import (
	"math"
	"math/big"
	"math/rand"
	"slices"
	"testing"
)

var wild = []int{math.MinInt, math.MinInt + 1, -1 << 62, -1 << 32, -1000, -101, -100, -99, -1, 0, 1, 2, 3, 98, 99, 100, 101, 256, 999, 1000, 1001, 1 << 31, 1 << 32, 1<<32 + 1, 1 << 62, math.MaxInt - 1, math.MaxInt}

// comesIn fails unless who is let in, or is in, with that stamp.
func comesIn(t *testing.T, s *Sect, who, now, stamp int) {
	t.Helper()
	if n, ok := s.Enter(who, now); n != stamp || !ok {
		t.Errorf("Enter(%d, %d) = %d, %v, want %d, true", who, now, n, ok, stamp)
	}
}

// stays fails unless who is not let in.
func stays(t *testing.T, s *Sect, who, now int) {
	t.Helper()
	if n, ok := s.Enter(who, now); n != 0 || ok {
		t.Errorf("Enter(%d, %d) = %d, %v, want 0, false", who, now, n, ok)
	}
}

func leaves(t *testing.T, s *Sect, who, stamp int, want bool) {
	t.Helper()
	if ok := s.Leave(who, stamp); ok != want {
		t.Errorf("Leave(%d, %d) = %v", who, stamp, ok)
	}
}

// held fails unless who alone holds, with that stamp, since then.
func held(t *testing.T, s *Sect, who, stamp, since int) {
	t.Helper()
	if w, n, at, ok := s.Holder(); w != who || n != stamp || at != since || !ok {
		t.Errorf("Holder() = %d, %d, %d, %v, want %d, %d, %d, true", w, n, at, ok, who, stamp, since)
	}
	for w := -1; w <= 101; w++ {
		for _, n := range []int{-1, 0, stamp - 1, stamp, stamp + 1, math.MinInt, math.MaxInt} {
			if ok := s.Holds(w, n); ok != (w == who && n == stamp) {
				t.Errorf("Holds(%d, %d) = %v, but %d holds with %d", w, n, ok, who, stamp)
			}
		}
	}
}

// free fails unless nobody holds.
func free(t *testing.T, s *Sect) {
	t.Helper()
	if w, n, at, ok := s.Holder(); w != 0 || n != 0 || at != 0 || ok {
		t.Errorf("Holder() = %d, %d, %d, %v, though nobody holds", w, n, at, ok)
	}
	for w := -1; w <= 101; w++ {
		for n := -1; n <= 20; n++ {
			if s.Holds(w, n) {
				t.Errorf("Holds(%d, %d), though nobody does", w, n)
			}
		}
	}
}

func wait(t *testing.T, s *Sect, want ...int) {
	t.Helper()
	if got := s.Queue(); !slices.Equal(got, want) {
		t.Errorf("Queue() = %v, want %v", got, want)
	}
}

// firstSince fails unless the queue's first is it since then.
func firstSince(t *testing.T, s *Sect, since int) {
	t.Helper()
	if s.first != since {
		t.Errorf("%v: the first is first since %d, want %d", s.Queue(), s.first, since)
	}
}

// crowd is a Sect in which 1 holds since 0, and 2, 3, .. wait, so many in all.
func crowd(t *testing.T, lease, n int) *Sect {
	t.Helper()
	s := New(lease)
	comesIn(t, s, 1, 0, 1)
	for who := 2; who <= n; who++ {
		stays(t, s, who, 0)
	}
	return s
}

// Promise 6.2: the chapter's example.
func TestExample(t *testing.T) {
	s := New(5)
	comesIn(t, s, 1, 0, 1)
	comesIn(t, s, 2, 5, 2)
}

// Promise 6.1: a new Sect is held by nobody, and nobody waits.
func TestNew(t *testing.T) {
	s := New(5)
	free(t, s)
	wait(t, s)
	leaves(t, s, 0, 0, false)
	s.Quit(0)
	free(t, s)
	wait(t, s)
}

// Promise 6.1: lease is 1 to 1,000; it bounds who holds and who is first, and each to the tick.
func TestLease(t *testing.T) {
	for _, x := range []struct{ told, lease int }{
		{math.MinInt, 1}, {-1000, 1}, {-1, 1}, {0, 1}, {1, 1}, {2, 2}, {5, 5}, {999, 999}, {1000, 1000}, {1001, 1000}, {2000, 1000}, {1 << 32, 1000}, {math.MaxInt, 1000},
	} {
		for since := range 3 {
			s := New(x.told)
			comesIn(t, s, 1, since, 1)
			stays(t, s, 2, since)
			stays(t, s, 3, since+x.lease-1)
			held(t, s, 1, 1, since)
			stays(t, s, 3, since+x.lease)
			free(t, s)
			wait(t, s, 2, 3)
			stays(t, s, 3, since+2*x.lease-1)
			comesIn(t, s, 3, since+2*x.lease, 2)
			wait(t, s)
		}
	}
}

// Promise 6.1: stamps are 1, 2, 3, and so on, over all who were let in, however the hold ahead ended.
func TestStamps(t *testing.T) {
	s := New(2)
	for n := 1; n <= 300; n += 3 {
		now := 10 * n
		comesIn(t, s, 7, now, n)
		stays(t, s, 8, now)
		leaves(t, s, 7, n, true)
		comesIn(t, s, 8, now, n+1)
		comesIn(t, s, 8, now+1, n+1)
		stays(t, s, 9, now+1)
		stays(t, s, 100, now+1)
		comesIn(t, s, 9, now+2, n+2)
		s.Quit(9)
		free(t, s)
	}
}

// Promise 6.2: of a who outside 0 to 99 there is nothing, and its now is no time of an Enter.
func TestWhoOutside(t *testing.T) {
	for _, who := range []int{math.MinInt, -1 << 32, -100, -99, -1, 100, 101, 256, 1<<32 + 1, math.MaxInt} {
		s := New(5)
		stays(t, s, who, 50)
		free(t, s)
		wait(t, s)
		comesIn(t, s, 1, 3, 1)
		held(t, s, 1, 1, 3)
		stays(t, s, 2, 4)
		stays(t, s, who, 100)
		held(t, s, 1, 1, 3)
		wait(t, s, 2)
		leaves(t, s, who, 1, false)
		leaves(t, s, 1, 1, true)
		firstSince(t, s, 4)
		stays(t, s, who, 100)
		s.Quit(who)
		wait(t, s, 2)
		stays(t, s, 3, 8)
		comesIn(t, s, 3, 9, 2)
		held(t, s, 3, 2, 9)
	}
}

// Promise 6.2: each who of 0 to 99 may hold and wait, all of them at a time.
func TestWhoInside(t *testing.T) {
	s := New(5)
	var all []int
	for who := 99; who >= 0; who-- {
		if who == 99 {
			comesIn(t, s, who, 0, 1)
			continue
		}
		stays(t, s, who, 0)
		all = append(all, who)
	}
	wait(t, s, all...)
	leaves(t, s, 99, 1, true)
	for i, who := range all {
		comesIn(t, s, who, 0, i+2)
		held(t, s, who, i+2, 0)
		wait(t, s, all[i+1:]...)
		leaves(t, s, who, i+2, true)
	}
	free(t, s)
}

// Promise 6.2: a now below the last one's is taken as that, the holder's own and one who stays out among them.
func TestTimesDoNotGoBack(t *testing.T) {
	s := New(5)
	comesIn(t, s, 1, 100, 1)
	comesIn(t, s, 2, 105, 2)
	leaves(t, s, 2, 2, true)
	comesIn(t, s, 3, 7, 3)
	held(t, s, 3, 3, 105)
	comesIn(t, s, 3, 106, 3)
	stays(t, s, 4, 2)
	firstSince(t, s, 106)
	stays(t, s, 5, 108)
	stays(t, s, 6, math.MinInt)
	leaves(t, s, 3, 3, true)
	firstSince(t, s, 108)
	stays(t, s, 5, 112)
	stays(t, s, 5, 0)
	comesIn(t, s, 5, 113, 4)
	held(t, s, 5, 4, 113)
}

// Promise 6.2: no time is too low for the first Enter, and times may be as far apart as numbers are.
func TestTimesFarApart(t *testing.T) {
	for _, x := range []struct{ since, now int }{
		{-7, -2}, {-3, 2}, {math.MinInt, math.MinInt + 5}, {math.MinInt, 0}, {math.MinInt, math.MaxInt}, {-1 << 62, 1 << 62}, {-1 << 62, 1<<62 + 5}, {-1, math.MaxInt}, {0, math.MaxInt}, {math.MaxInt - 5, math.MaxInt},
	} {
		s := New(5)
		comesIn(t, s, 1, x.since, 1)
		held(t, s, 1, 1, x.since)
		stays(t, s, 2, x.since+4)
		stays(t, s, 3, x.since+4)
		held(t, s, 1, 1, x.since)
		comesIn(t, s, 2, x.now, 2)
		held(t, s, 2, 2, x.now)
		wait(t, s, 3)
		s = New(5)
		comesIn(t, s, 1, x.since, 1)
		stays(t, s, 2, x.since)
		leaves(t, s, 1, 1, true)
		stays(t, s, 3, x.since+4)
		comesIn(t, s, 3, x.now, 2)
	}
}

// Promise 6.2: the holder's own Enter answers its stamp, though it has held lease; it does not wait, and holds since when it did.
func TestHoldersOwnEnter(t *testing.T) {
	s := crowd(t, 5, 3)
	for _, now := range []int{0, 1, 4, 5, 6, 500} {
		comesIn(t, s, 1, now, 1)
		held(t, s, 1, 1, 0)
		wait(t, s, 2, 3)
	}
	leaves(t, s, 1, 1, true)
	firstSince(t, s, 500)
	stays(t, s, 3, 504)
	comesIn(t, s, 3, 505, 2)
}

// Promise 6.2: who held lease holds no more, at whoever's Enter; then the first is first since now, and comes in when it asks.
func TestHeldLease(t *testing.T) {
	for now := 5; now < 9; now++ {
		s := crowd(t, 5, 3)
		stays(t, s, 3, 4)
		held(t, s, 1, 1, 0)
		stays(t, s, 3, now)
		free(t, s)
		wait(t, s, 2, 3)
		firstSince(t, s, now)
		leaves(t, s, 1, 1, false)
		stays(t, s, 1, now+4)
		wait(t, s, 2, 3, 1)
		comesIn(t, s, 2, now+4, 2)
		held(t, s, 2, 2, now+4)
		wait(t, s, 3, 1)
	}
	s := crowd(t, 5, 3)
	comesIn(t, s, 2, 5, 2)
	held(t, s, 2, 2, 5)
	wait(t, s, 3)
	s = New(5)
	comesIn(t, s, 1, 0, 1)
	comesIn(t, s, 9, 77, 2)
	held(t, s, 9, 2, 77)
	wait(t, s)
}

// Promise 6.2: lease runs only when one Enters: Holds, Leave and Quit go by what was.
func TestHeldLongButNobodyEnters(t *testing.T) {
	s := New(5)
	comesIn(t, s, 1, 0, 1)
	stays(t, s, -1, 100)
	s.Quit(2)
	held(t, s, 1, 1, 0)
	leaves(t, s, 1, 1, true)
	free(t, s)
}

// Promise 6.2: who asks is at the queue's end, once, and stays where it is, however often it asks.
func TestQueue(t *testing.T) {
	s := New(5)
	comesIn(t, s, 1, 0, 1)
	wait(t, s)
	for _, who := range []int{50, 3, 99, 3, 0, 50, 99, 3} {
		stays(t, s, who, 1)
	}
	wait(t, s, 50, 3, 99, 0)
	held(t, s, 1, 1, 0)
	leaves(t, s, 1, 1, true)
	wait(t, s, 50, 3, 99, 0)
	stays(t, s, 3, 1)
	stays(t, s, 1, 1)
	wait(t, s, 50, 3, 99, 0, 1)
	comesIn(t, s, 50, 1, 2)
	wait(t, s, 3, 99, 0, 1)
}

// Promise 6.2: a first that did not ask for lease is passed by, and the next has as long a turn.
func TestPassedBy(t *testing.T) {
	s := crowd(t, 5, 5)
	leaves(t, s, 1, 1, true)
	stays(t, s, 5, 4)
	wait(t, s, 2, 3, 4, 5)
	stays(t, s, 5, 5)
	wait(t, s, 3, 4, 5)
	firstSince(t, s, 5)
	stays(t, s, 2, 9)
	wait(t, s, 3, 4, 5, 2)
	stays(t, s, 2, 500)
	wait(t, s, 4, 5, 2)
	firstSince(t, s, 500)
	comesIn(t, s, 4, 600, 2)
	held(t, s, 4, 2, 600)
	wait(t, s, 5, 2)
	firstSince(t, s, 600)
}

// Promise 6.2: while one holds nobody is passed by, however long it is first.
func TestNotPassedByWhileHeld(t *testing.T) {
	s := New(1000)
	comesIn(t, s, 1, 0, 1)
	stays(t, s, 2, 0)
	for now := range 1000 {
		stays(t, s, 3, now)
		wait(t, s, 2, 3)
	}
	stays(t, s, 3, 1000)
	wait(t, s, 2, 3)
	firstSince(t, s, 1000)
	stays(t, s, 3, 1999)
	wait(t, s, 2, 3)
	comesIn(t, s, 3, 2000, 2)
}

// Promise 6.2: the first of an empty queue is it since it asked, and since it asked again.
func TestFirstSince(t *testing.T) {
	s := New(5)
	comesIn(t, s, 1, 0, 1)
	stays(t, s, 2, 1)
	firstSince(t, s, 1)
	stays(t, s, 3, 2)
	firstSince(t, s, 1)
	stays(t, s, 2, 3)
	firstSince(t, s, 3)
	stays(t, s, 3, 4)
	firstSince(t, s, 3)
	comesIn(t, s, 2, 5, 2)
	firstSince(t, s, 5)
	leaves(t, s, 2, 2, true)
	comesIn(t, s, 3, 9, 3)
	leaves(t, s, 3, 3, true)
	comesIn(t, s, 4, 20, 4)
	stays(t, s, 5, 22)
	firstSince(t, s, 22)
}

// Promise 6.2: Leave needs who holds, and its stamp; it is done once.
func TestLeave(t *testing.T) {
	s := crowd(t, 5, 2)
	for _, who := range wild {
		for _, stamp := range wild {
			if who != 1 || stamp != 1 {
				leaves(t, s, who, stamp, false)
			}
		}
	}
	held(t, s, 1, 1, 0)
	wait(t, s, 2)
	leaves(t, s, 1, 1, true)
	free(t, s)
	wait(t, s, 2)
	leaves(t, s, 1, 1, false)
	leaves(t, s, 0, 0, false)
	leaves(t, s, 2, 2, false)
	comesIn(t, s, 2, 0, 2)
	leaves(t, s, 2, 2, true)
	comesIn(t, s, 1, 0, 3)
	leaves(t, s, 1, 1, false)
	held(t, s, 1, 3, 0)
	leaves(t, s, 1, 3, true)
	free(t, s)
}

// Promise 6.2: behind a Leave the first is first since the last Enter.
func TestLeaveGivesTheFirstItsTurn(t *testing.T) {
	s := crowd(t, 5, 3)
	comesIn(t, s, 1, 40, 1)
	leaves(t, s, 1, 1, true)
	stays(t, s, 3, 44)
	wait(t, s, 2, 3)
	comesIn(t, s, 3, 45, 2)
	held(t, s, 3, 2, 45)
	wait(t, s)
}

// Promise 6.2: Quit takes who out of the queue, and nobody else.
func TestQuitQueue(t *testing.T) {
	for _, x := range []struct {
		who   int
		queue []int
	}{{2, []int{3, 4}}, {3, []int{2, 4}}, {4, []int{2, 3}}, {5, []int{2, 3, 4}}, {0, []int{2, 3, 4}}, {-1, []int{2, 3, 4}}, {100, []int{2, 3, 4}}, {math.MinInt, []int{2, 3, 4}}, {math.MaxInt, []int{2, 3, 4}}} {
		s := crowd(t, 5, 4)
		s.Quit(x.who)
		wait(t, s, x.queue...)
		held(t, s, 1, 1, 0)
		leaves(t, s, 1, 1, true)
		s = crowd(t, 5, 4)
		leaves(t, s, 1, 1, true)
		s.Quit(x.who)
		wait(t, s, x.queue...)
		free(t, s)
		comesIn(t, s, x.queue[0], 0, 2)
	}
}

// Promise 6.2: where the first Quits the next is first since the last Enter; where another one does the first's time goes on.
func TestQuitFirst(t *testing.T) {
	for _, x := range []struct{ who, since int }{{2, 4}, {3, 0}, {4, 0}, {9, 0}} {
		s := crowd(t, 5, 4)
		leaves(t, s, 1, 1, true)
		stays(t, s, 5, 4)
		s.Quit(x.who)
		firstSince(t, s, x.since)
		stays(t, s, 5, x.since+4)
		first := s.Queue()[0]
		stays(t, s, 5, x.since+5)
		if slices.Contains(s.Queue(), first) {
			t.Errorf("behind Quit(%d) the first is not passed by", x.who)
		}
		firstSince(t, s, x.since+5)
	}
}

// Promise 6.2: a holder that Quits leaves, and may come in again behind the others.
func TestQuitHolder(t *testing.T) {
	s := crowd(t, 5, 3)
	comesIn(t, s, 1, 40, 1)
	s.Quit(1)
	free(t, s)
	wait(t, s, 2, 3)
	leaves(t, s, 1, 1, false)
	firstSince(t, s, 40)
	stays(t, s, 1, 44)
	wait(t, s, 2, 3, 1)
	stays(t, s, 1, 45)
	wait(t, s, 3, 1)
	comesIn(t, s, 3, 45, 2)
	s.Quit(3)
	comesIn(t, s, 1, 45, 3)
	s.Quit(1)
	s.Quit(1)
	free(t, s)
	wait(t, s)
	comesIn(t, s, 4, 45, 4)
}

// Promise 6.2: what Queue answers is not the Sect's own.
func TestQueueIsNew(t *testing.T) {
	s := crowd(t, 5, 4)
	a, b := s.Queue(), s.Queue()
	for i := range a {
		a[i] = 77
	}
	for i := range a[:cap(a)] {
		a[:cap(a)][i] = 78
	}
	_ = append(a, 79)
	if !slices.Equal(b, []int{2, 3, 4}) {
		t.Errorf("two answers of Queue share: %v", b)
	}
	wait(t, s, 2, 3, 4)
	stays(t, s, 5, 0)
	_ = append(s.Queue(), 80)
	stays(t, s, 6, 0)
	wait(t, s, 2, 3, 4, 5, 6)
	if !slices.Equal(b, []int{2, 3, 4}) {
		t.Errorf("what Queue answered changes: %v", b)
	}
}

// Promise 6.2: one Sect says nothing of another one.
func TestTwoSects(t *testing.T) {
	a, b := New(5), New(5)
	comesIn(t, a, 1, 90, 1)
	stays(t, a, 2, 90)
	comesIn(t, b, 2, 3, 1)
	held(t, a, 1, 1, 90)
	held(t, b, 2, 1, 3)
	wait(t, b)
}

// waiter is one of a model's queue, with the time since which it is first.
type waiter struct{ who, first int }

// model is a Sect in the chapter's words; its times are those of Enters, told by the caller.
type model struct {
	lease, stamp, last int
	begun              bool
	holder             []hold
	queue              []waiter
}

func (m *model) long(since int) bool {
	d := big.NewInt(int64(m.last))
	return d.Sub(d, big.NewInt(int64(since))).Cmp(big.NewInt(int64(m.lease))) >= 0
}

func (m *model) next() {
	if len(m.queue) > 0 {
		m.queue[0].first = m.last
	}
}

func (m *model) place(who int) int {
	return slices.IndexFunc(m.queue, func(w waiter) bool { return w.who == who })
}

func (m *model) enter(who, now int) (int, bool) {
	if who < 0 || who > 99 {
		return 0, false
	}
	if !m.begun || now > m.last {
		m.begun, m.last = true, now
	}
	if len(m.holder) == 1 && m.holder[0].who == who {
		return m.holder[0].stamp, true
	}
	if m.place(who) < 0 {
		m.queue = append(m.queue, waiter{who: who, first: m.last})
	}
	if len(m.holder) == 1 && m.long(m.holder[0].since) {
		m.holder = nil
		m.next()
	}
	if len(m.holder) == 0 {
		for m.queue[0].who != who && m.long(m.queue[0].first) {
			m.queue = m.queue[1:]
			m.next()
		}
		if m.queue[0].who == who {
			m.queue = m.queue[1:]
			m.stamp++
			m.holder = []hold{{who: who, stamp: m.stamp, since: m.last}}
			m.next()
			return m.stamp, true
		}
	}
	if m.queue[0].who == who {
		m.queue[0].first = m.last
	}
	return 0, false
}

func (m *model) holds(who, stamp int) bool {
	return len(m.holder) == 1 && m.holder[0].who == who && m.holder[0].stamp == stamp
}

func (m *model) leave(who, stamp int) bool {
	if !m.holds(who, stamp) {
		return false
	}
	m.holder = nil
	m.next()
	return true
}

func (m *model) quit(who int) {
	i := m.place(who)
	if i >= 0 {
		m.queue = append(slices.Clone(m.queue[:i]), m.queue[i+1:]...)
	}
	if i == 0 {
		m.next()
	}
	if len(m.holder) == 1 && m.holder[0].who == who {
		m.leave(who, m.holder[0].stamp)
	}
}

// same fails unless all that can be told of a Sect is what the model tells.
func (m *model) same(t *testing.T, s *Sect) {
	t.Helper()
	var queue []int
	for _, w := range m.queue {
		queue = append(queue, w.who)
	}
	if got := s.Queue(); !slices.Equal(got, queue) {
		t.Fatalf("Queue() = %v, want %v", got, queue)
	}
	if len(queue) > 0 && s.first != m.queue[0].first {
		t.Fatalf("the first is first since %d, want %d", s.first, m.queue[0].first)
	}
	var h hold
	if len(m.holder) == 1 {
		h = m.holder[0]
	}
	who, stamp, since, ok := s.Holder()
	if who != h.who || stamp != h.stamp || since != h.since || ok != (h.stamp > 0) {
		t.Fatalf("Holder() = %d, %d, %d, %v, want %+v", who, stamp, since, ok, h)
	}
}

// anyOf is a number of some few, or of all, or a wild one.
func anyOf(r *rand.Rand, few int) int {
	switch r.Intn(12) {
	case 0:
		return wild[r.Intn(len(wild))]
	case 1:
		return r.Intn(102) - 1
	}
	return r.Intn(few)
}

// Promises 6.1, 6.2: whatever is asked, it answers as the model does.
func TestAgainstModel(t *testing.T) {
	for seed := range 600 {
		r := rand.New(rand.NewSource(int64(seed)))
		lease := 1 + r.Intn(6)
		s, m := New(lease), &model{lease: lease}
		few, now := 2+r.Intn(6), r.Intn(5)-2
		for range 300 {
			who, stamp := anyOf(r, few), m.stamp-r.Intn(2)
			if r.Intn(20) == 0 {
				stamp = anyOf(r, 9)
			}
			now += r.Intn(lease+2) / (1 + r.Intn(3))
			switch r.Intn(8) {
			case 0, 1:
				if got, want := s.Leave(who, stamp), m.leave(who, stamp); got != want {
					t.Fatalf("seed %d: Leave(%d, %d) = %v", seed, who, stamp, got)
				}
			case 2:
				s.Quit(who)
				m.quit(who)
			default:
				at := now - r.Intn(3)*r.Intn(2)
				if seed%10 == 0 && r.Intn(60) == 0 {
					at = wild[r.Intn(len(wild))]
				}
				n, ok := s.Enter(who, at)
				if want, in := m.enter(who, at); n != want || ok != in {
					t.Fatalf("seed %d: Enter(%d, %d) = %d, %v, want %d, %v", seed, who, at, n, ok, want, in)
				}
			}
			if s.Holds(who, stamp) != m.holds(who, stamp) {
				t.Fatalf("seed %d: Holds(%d, %d) = %v", seed, who, stamp, s.Holds(who, stamp))
			}
			m.same(t, s)
		}
	}
}

// Promise 6.3 (W6): who asks at each tick comes in, though all others ahead never come back: each of them is passed by behind lease.
func TestOthersNeverComeBack(t *testing.T) {
	for lease := 1; lease <= 6; lease++ {
		for n := 1; n <= 40; n++ {
			s := crowd(t, lease, n)
			for now := range n * lease {
				stays(t, s, 0, now)
			}
			comesIn(t, s, 0, n*lease, 2)
			wait(t, s)
		}
	}
}

// Promise 6.3 (W6): who asks comes in as soon as that, too, where time goes by in leaps: one is passed by an ask.
func TestOthersNeverComeBackInLeaps(t *testing.T) {
	for n := 1; n <= 99; n++ {
		s := crowd(t, 5, n)
		for i := range n {
			stays(t, s, 0, 1000*i)
		}
		comesIn(t, s, 0, 1000*n, 2)
	}
}

// Promise 6.3 (W6): who asks at each tick comes in, though each ahead comes in at its last tick, and never leaves.
func TestOthersComeLate(t *testing.T) {
	for lease := 1; lease <= 6; lease++ {
		for n := 1; n <= 40; n++ {
			s := crowd(t, lease, n)
			end := lease + (n-1)*(2*lease-1)
			for now := range end {
				stays(t, s, 0, now)
				// 2 is first since lease, 3 since 2*lease-1 more, and so on.
				if who := 2 + (now-lease)/(2*lease-1); now >= lease && (now-lease)%(2*lease-1) == lease-1 {
					comesIn(t, s, who, now, who)
				}
			}
			comesIn(t, s, 0, end, n+1)
		}
	}
}

// others do what they like at one tick: those of 1 to n ask, leave, quit, and say what is not so.
func others(r *rand.Rand, s *Sect, n, now int, in func(who, stamp int)) {
	for range r.Intn(2 * n) {
		who := 1 + r.Intn(n)
		switch r.Intn(10) {
		case 0:
			s.Quit(who)
		case 1:
			_, stamp, _, _ := s.Holder()
			s.Leave(who, stamp)
		case 2:
			s.Enter(100+who, now+1000)
		default:
			if stamp, ok := s.Enter(who, now); ok {
				in(who, stamp)
			}
		}
	}
}

// Promise 6.3 (W6): at most one holds, a stamp is one's alone, and who asks more often than once a lease comes in within two leases for each other one.
func TestProgress(t *testing.T) {
	for seed := range 300 {
		r := rand.New(rand.NewSource(int64(seed)))
		// Of lease 1 an ask at each tick is no going on: others that ask ahead of it at the next tick find it first for lease.
		lease, n := 2+r.Intn(5), 1+r.Intn(8)
		s := New(lease)
		owners := map[int]int{}
		told := 0
		in := func(who, stamp int) {
			if was, ok := owners[stamp]; ok && was != who || !ok && stamp != told+1 {
				t.Fatalf("seed %d: %d is told stamp %d behind %d of them", seed, who, stamp, told)
			}
			told = max(told, stamp)
			owners[stamp] = who
			for other := range n + 1 {
				if s.Holds(other, stamp) != (other == who) || slices.Contains(s.Queue(), who) {
					t.Fatalf("seed %d: %d is in, but so is %d", seed, who, other)
				}
			}
		}
		asked, times := 0, 0
		for now := range 600 {
			others(r, s, n, now, in)
			stamp, ok := s.Enter(0, now)
			if !ok {
				asked++
				if asked > 2*n*lease {
					t.Fatalf("seed %d: 0 is not in behind %d ticks", seed, asked)
				}
				continue
			}
			in(0, stamp)
			asked = 0
			times++
			if r.Intn(2) == 0 {
				s.Leave(0, stamp)
			}
		}
		if times < 3 {
			t.Errorf("seed %d: 0 was in %d times", seed, times)
		}
	}
}

// Promise 6.4: no call panics, whatever numbers it is given.
func TestNoPanic(t *testing.T) {
	for _, lease := range wild {
		s := New(lease)
		for _, a := range wild {
			for _, b := range wild {
				if n, ok := s.Enter(a, b); ok != (n > 0) || ok && !s.Holds(a, n) {
					t.Errorf("Enter(%d, %d) = %d, %v", a, b, n, ok)
				}
				s.Holds(a, b)
				s.Leave(b, a)
				s.Enter(b, a)
				if len(s.Queue()) > 100 {
					t.Errorf("%d wait", len(s.Queue()))
				}
				s.Quit(b)
			}
		}
		for _, who := range wild {
			s.Quit(who)
		}
		free(t, s)
		wait(t, s)
	}
}
