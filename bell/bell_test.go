package bell

import (
	"math"
	"math/rand"
	"slices"
	"testing"
	"time"
)

var wild = []int{math.MinInt, math.MinInt + 1, -1 << 62, -1 << 32, -65, -64, -2, -1, 0, 1, 2, 3, 31, 32, 63, 64, 65, 66, 127, 128, 256, 1 << 31, 1 << 32, 1<<32 + 1, 1 << 62, math.MaxInt - 1, math.MaxInt}

// sizeOf is how many numbers a Bell of that size keeps, in the chapter's words.
func sizeOf(size int) int {
	if size < 1 {
		return 1
	}
	if size > 64 {
		return 64
	}
	return size
}

// bell is a Bell with these numbers.
func bell(t *testing.T, size int, l ...int) *Bell {
	t.Helper()
	b := New(size)
	for _, n := range l {
		rings(t, b, n, true)
	}
	return b
}

func rings(t *testing.T, b *Bell, n int, want bool) {
	t.Helper()
	if ok := b.Ring(n); ok != want {
		t.Errorf("Ring(%d) = %v, with %d there", n, ok, b.Len())
	}
}

func takes(t *testing.T, b *Bell, want int) {
	t.Helper()
	if n, ok := b.Take(); n != want || !ok {
		t.Errorf("Take() = %d, %v, want %d, true", n, ok, want)
	}
}

func drains(t *testing.T, b *Bell, want ...int) {
	t.Helper()
	if l := b.Drain(); !slices.Equal(l, want) {
		t.Errorf("Drain() = %v, want %v", l, want)
	}
	empty(t, b)
}

// empty fails unless there is nothing to be taken.
func empty(t *testing.T, b *Bell) {
	t.Helper()
	if n := b.Len(); n != 0 {
		t.Errorf("Len() = %d, want 0", n)
	}
	if n, ok := b.Take(); n != 0 || ok {
		t.Errorf("Take() = %d, %v, want 0, false", n, ok)
	}
	if l := b.Drain(); len(l) != 0 {
		t.Errorf("Drain() = %v, want nothing", l)
	}
}

func has(t *testing.T, b *Bell, want int) {
	t.Helper()
	if n := b.Len(); n != want {
		t.Errorf("Len() = %d, want %d", n, want)
	}
}

func either(t *testing.T, a, b *Bell, n, which int, ok bool) {
	t.Helper()
	if gn, gw, gok := Either(a, b); gn != n || gw != which || gok != ok {
		t.Errorf("Either() = %d, %d, %v, want %d, %d, %v", gn, gw, gok, n, which, ok)
	}
}

// soon fails unless the call ends; a call that waits would wait for ever, since nobody else rings or takes.
func soon(t *testing.T, what string, call func()) {
	t.Helper()
	over := make(chan bool)
	go func() {
		defer close(over)
		call()
	}()
	select {
	case <-over:
	case <-time.After(20 * time.Second):
		t.Fatalf("%s waits", what)
	}
}

// Promise 9.1: the chapter's example.
func TestExample(t *testing.T) {
	b := New(1)
	rings(t, b, 5, true)
	rings(t, b, 6, false)
	drains(t, b, 5)
}

// Promise 9.1: a Bell keeps so many numbers and no more, below 1 one, above 64 as many as that.
func TestSizes(t *testing.T) {
	for _, size := range append(slices.Clone(wild), 5, 10, 40, 62) {
		b, want := New(size), sizeOf(size)
		for n := range want {
			has(t, b, n)
			rings(t, b, n*7, true)
		}
		rings(t, b, 1000, false)
		has(t, b, want)
		for n := range want {
			takes(t, b, n*7)
		}
		empty(t, b)
	}
}

// Promise 9.1: a Bell that was full and is drained or taken from keeps as many again.
func TestRoomAgain(t *testing.T) {
	for _, size := range []int{1, 2, 3, 63, 64} {
		b := New(size)
		for round := range 5 {
			for n := range size {
				rings(t, b, n+round, true)
			}
			rings(t, b, -1, false)
			takes(t, b, round)
			rings(t, b, -2, true)
			rings(t, b, -3, false)
			has(t, b, size)
			if l := b.Drain(); len(l) != size || l[size-1] != -2 || size > 1 && l[0] != round+1 {
				t.Error(size, round, l)
			}
			empty(t, b)
		}
	}
}

// Promise 9.1: what is rung first is taken first, whatever the numbers are, and the same number is kept as often as it is rung.
func TestOrder(t *testing.T) {
	b := bell(t, 64, wild...)
	for i, n := range wild {
		has(t, b, len(wild)-i)
		takes(t, b, n)
	}
	empty(t, b)
	b = bell(t, 64, wild...)
	drains(t, b, wild...)
	b = bell(t, 8, 3, 1, 3, 3, 0, 0, 1)
	takes(t, b, 3)
	rings(t, b, 2, true)
	drains(t, b, 1, 3, 3, 0, 0, 1, 2)
}

// Promise 9.1: Ring of a full Bell alters nothing, however often.
func TestFull(t *testing.T) {
	for _, size := range []int{1, 2, 64} {
		b := New(size)
		for n := range size {
			rings(t, b, n, true)
		}
		for _, n := range wild {
			rings(t, b, n, false)
			has(t, b, size)
		}
		for n := range size {
			takes(t, b, n)
		}
		empty(t, b)
	}
}

// Promise 9.1: an empty Bell has nothing to take, and a 0 that was rung is something.
func TestEmpty(t *testing.T) {
	for _, size := range wild {
		empty(t, New(size))
	}
	b := bell(t, 2, 0)
	has(t, b, 1)
	takes(t, b, 0)
	empty(t, b)
	rings(t, b, 0, true)
	either(t, b, nil, 0, 0, true)
	empty(t, b)
}

// Promise 9.1: Either takes a's first number while a has one, then b's; one number a call.
func TestEither(t *testing.T) {
	a, b := bell(t, 4, 5, -6, 0), bell(t, 4, 7, 0)
	either(t, a, b, 5, 0, true)
	either(t, b, a, 7, 0, true)
	either(t, a, b, -6, 0, true)
	either(t, a, b, 0, 0, true)
	has(t, b, 1)
	either(t, a, b, 0, 1, true)
	either(t, a, b, 0, 0, false)
	rings(t, b, 9, true)
	either(t, a, b, 9, 1, true)
	empty(t, a)
	empty(t, b)
}

// Promise 9.1: where both have one, it is always a's, however often it is asked, and nothing of b is taken.
func TestEitherNotByChance(t *testing.T) {
	b := bell(t, 64, wild...)
	for n := range 1000 {
		either(t, bell(t, 1, n), b, n, 0, true)
	}
	drains(t, b, wild...)
}

// Promise 9.1: a nil Bell has none.
func TestEitherNil(t *testing.T) {
	a := bell(t, 3, 1, 2, 3)
	either(t, nil, nil, 0, 0, false)
	either(t, nil, a, 1, 1, true)
	either(t, a, nil, 2, 0, true)
	either(t, nil, a, 3, 1, true)
	either(t, nil, a, 0, 0, false)
	either(t, a, nil, 0, 0, false)
	empty(t, a)
}

// Promise 9.1: of a Bell and itself it is a's, one number a call.
func TestEitherSame(t *testing.T) {
	a := bell(t, 3, 1, 2)
	either(t, a, a, 1, 0, true)
	has(t, a, 1)
	either(t, a, a, 2, 0, true)
	either(t, a, a, 0, 0, false)
}

// Promise 9.1: each Bell has its own numbers.
func TestBellsApart(t *testing.T) {
	a, b := bell(t, 2, 1, 2), bell(t, 2, 3)
	rings(t, a, 4, false)
	rings(t, b, 5, true)
	drains(t, a, 1, 2)
	has(t, b, 2)
	rings(t, a, 6, true)
	drains(t, b, 3, 5)
	drains(t, a, 6)
}

// DOC.md, rule 3: what Drain answers is new memory, its spare room too.
func TestNewMemory(t *testing.T) {
	b := bell(t, 5, 1, 2, 3)
	l := b.Drain()
	for i := range l[:cap(l)] {
		l[:cap(l)][i] = 99
	}
	for n := range 5 {
		rings(t, b, n, true)
	}
	was := slices.Clone(l)
	m := b.Drain()
	if !slices.Equal(l, was) || !slices.Equal(m, []int{0, 1, 2, 3, 4}) {
		t.Error(l, m)
	}
	for i := range m[:cap(m)] {
		m[:cap(m)][i] = 77
	}
	if !slices.Equal(l, was) {
		t.Error("two lists share memory", l)
	}
	empty(t, b)
}

// Promise 9.2 (W8): no call waits, of a full Bell, an empty one, or none.
func TestNobodyWaits(t *testing.T) {
	for _, size := range wild {
		b, e := New(size), New(size)
		for b.Len() < sizeOf(size) {
			soon(t, "Ring", func() { b.Ring(1) })
		}
		for _, x := range []*Bell{b, e, nil} {
			for _, y := range []*Bell{e, b, nil} {
				soon(t, "Either", func() { Either(x, y) })
			}
		}
		for range 70 {
			soon(t, "Ring of a full Bell", func() { b.Ring(1) })
		}
		soon(t, "Take of an empty Bell", func() { e.Take() })
		soon(t, "Drain of an empty Bell", func() { e.Drain() })
		soon(t, "Drain of a full Bell", func() { b.Drain() })
		soon(t, "Take of a drained Bell", func() { b.Take() })
	}
}

// Promise 9.1: whatever is asked, all is as a plain list of numbers has it.
func TestAgainstModel(t *testing.T) {
	for seed := range int64(300) {
		r := rand.New(rand.NewSource(seed))
		var bells [2]*Bell
		var sizes [2]int
		var lists [2][]int
		for i := range bells {
			size := r.Intn(9) - 1
			if r.Intn(4) == 0 {
				size = 60 + r.Intn(10)
			}
			bells[i], sizes[i] = New(size), sizeOf(size)
		}
		for range 400 {
			i := r.Intn(2)
			switch k := r.Intn(20); {
			case k < 12:
				n := r.Intn(100) - 50
				room := len(lists[i]) < sizes[i]
				rings(t, bells[i], n, room)
				if room {
					lists[i] = append(lists[i], n)
				}
			case k < 15:
				want, ok := first(lists[i])
				if n, had := bells[i].Take(); n != want || had != ok {
					t.Errorf("Take() = %d, %v, want %d, %v", n, had, want, ok)
				}
				lists[i] = rest(lists[i])
			case k < 19:
				a, which := i, 0
				if len(lists[a]) == 0 && len(lists[1-i]) > 0 {
					a, which = 1-i, 1
				}
				want, ok := first(lists[a])
				either(t, bells[i], bells[1-i], want, which, ok)
				lists[a] = rest(lists[a])
			case r.Intn(8) == 0:
				drains(t, bells[i], lists[i]...)
				lists[i] = nil
			}
			has(t, bells[0], len(lists[0]))
			has(t, bells[1], len(lists[1]))
		}
		if t.Failed() {
			t.Fatal("seed", seed)
		}
	}
}

func first(l []int) (int, bool) {
	if len(l) == 0 {
		return 0, false
	}
	return l[0], true
}

func rest(l []int) []int {
	if len(l) == 0 {
		return nil
	}
	return l[1:]
}

// Promise 9.3: no call panics, of a nil Bell either, which has none and keeps none.
func TestNoPanic(t *testing.T) {
	for _, size := range wild {
		b := New(size)
		for _, n := range wild {
			b.Ring(n)
			b.Len()
		}
		b.Take()
		Either(b, b)
		b.Drain()
		b.Drain()
	}
	var none *Bell
	rings(t, none, 1, false)
	empty(t, none)
	soon(t, "a nil Bell", func() {
		none.Ring(1)
		none.Take()
		none.Drain()
		Either(none, none)
	})
}
