package quota

import (
	"math"
	"math/rand"
	"slices"
	"testing"

	"commonage/api"
)

var wild = []int{math.MinInt, math.MinInt + 1, -1 << 62, -1 << 32, -64, -4, -1, 0, 1, 2, 3, 4, 5, 62, 63, 64, 65, 255, 256, 1 << 31, 1 << 32, 1<<32 + 1, 1 << 62, math.MaxInt - 1, math.MaxInt}

// look is all that can be told of a session: Used, and for each frame Owns and Frame.
type look struct {
	used   int
	owns   [66]bool
	frames [66]int
}

func seen(t *testing.T, q *Quota, s int) look {
	t.Helper()
	l := look{used: q.Used(s)}
	for k := range l.owns {
		l.owns[k] = q.Owns(s, k)
		n, ok := q.Frame(s, k)
		if ok != l.owns[k] || !ok && n != 0 {
			t.Errorf("Frame(%d, %d) = %d, %v, but Owns is %v", s, k, n, ok, l.owns[k])
		}
		l.frames[k] = n
	}
	return l
}

func seenAll(t *testing.T, q *Quota) [maxSessions]look {
	t.Helper()
	var all [maxSessions]look
	for s := range all {
		all[s] = seen(t, q, s)
	}
	return all
}

func alloc(t *testing.T, q *Quota, s, want int) {
	t.Helper()
	if k, e := q.Alloc(s); k != want || e != api.OK {
		t.Errorf("Alloc(%d) = %d, %v, want %d", s, k, e, want)
	}
}

func frame(t *testing.T, q *Quota, s, k, want int) {
	t.Helper()
	if n, ok := q.Frame(s, k); n != want || !ok {
		t.Errorf("Frame(%d, %d) = %d, %v, want %d", s, k, n, ok, want)
	}
}

// full fails unless a session has so many frames, is told ErrFull, and has the same behind that.
func full(t *testing.T, q *Quota, s, want int) {
	t.Helper()
	before := seenAll(t, q)
	if before[s].used != want {
		t.Errorf("Used(%d) = %d, want %d", s, before[s].used, want)
	}
	if k, e := q.Alloc(s); k != 0 || e != api.ErrFull {
		t.Errorf("Alloc(%d) = %d, %v, though all %d are taken", s, k, e, want)
	}
	if seenAll(t, q) != before {
		t.Errorf("an Alloc(%d) that is refused changes something", s)
	}
}

// take takes so many frames of a session, and fails unless these are all it has.
func take(t *testing.T, q *Quota, s, n int) {
	t.Helper()
	for k := range n {
		alloc(t, q, s, k)
	}
	full(t, q, s, n)
}

// noSession fails unless every call tells that there is no such session, and changes nothing.
func noSession(t *testing.T, q *Quota, s int) {
	t.Helper()
	before := seenAll(t, q)
	if k, e := q.Alloc(s); k != 0 || e != api.ErrArg {
		t.Errorf("Alloc(%d) = %d, %v", s, k, e)
	}
	if n := q.Used(s); n != 0 {
		t.Errorf("Used(%d) = %d", s, n)
	}
	for _, k := range wild {
		if e := q.Free(s, k); e != api.ErrArg {
			t.Errorf("Free(%d, %d) = %v", s, k, e)
		}
		notHad(t, q, s, k)
	}
	if seenAll(t, q) != before {
		t.Errorf("calls of session %d, which is none, change something", s)
	}
}

func notHad(t *testing.T, q *Quota, s, k int) {
	t.Helper()
	if q.Owns(s, k) {
		t.Errorf("Owns(%d, %d)", s, k)
	}
	if n, ok := q.Frame(s, k); n != 0 || ok {
		t.Errorf("Frame(%d, %d) = %d, %v", s, k, n, ok)
	}
}

// Promise 4.1: the chapter's example.
func TestExample(t *testing.T) {
	q := New(3, 2)
	alloc(t, q, 1, 0)
	frame(t, q, 1, 0, 3)
}

// Promise 4.1: a session for each number, at most 4; no other one is there.
func TestSessions(t *testing.T) {
	for n := range 8 {
		frames := slices.Repeat([]int{2}, n)
		q := New(frames...)
		there := min(n, 4)
		for s := range there {
			take(t, q, s, 2)
		}
		noSession(t, q, there)
		for _, s := range wild {
			if s < 0 || s >= there {
				noSession(t, q, s)
			}
		}
	}
	noSession(t, New(), 0)
	noSession(t, New(nil...), 0)
	noSession(t, New([]int{}...), 0)
}

// Promise 4.1: so many frames, below 0 as 0, above 64 as that, wherever the session stands, and the sessions behind it begin there.
func TestSizes(t *testing.T) {
	for _, x := range []struct{ n, want int }{
		{math.MinInt, 0}, {-65, 0}, {-1, 0}, {0, 0}, {1, 1}, {2, 2}, {63, 63}, {64, 64}, {65, 64}, {128, 64}, {1 << 32, 64}, {1<<32 + 1, 64}, {math.MaxInt, 64},
	} {
		take(t, New(x.n), 0, x.want)
		take(t, New(1, 2, 3, x.n), 3, x.want)
		q := New(x.n, 1, x.n, 1)
		for s, n := range []int{x.want, 1, x.want, 1} {
			take(t, q, s, n)
		}
		frame(t, q, 1, 0, x.want)
		frame(t, q, 3, 0, 2*x.want+1)
	}
}

// Promise 4.1: Frame numbers all frames, those of the sessions ahead first, the ones that nobody has too.
func TestFrame(t *testing.T) {
	sizes := []int{3, 0, 64, 2}
	q := New(sizes...)
	for s := 3; s >= 0; s-- {
		take(t, q, s, sizes[s])
	}
	n := 0
	for s, size := range sizes {
		for k := range size {
			frame(t, q, s, k, n)
			n++
		}
		for _, k := range wild {
			if k < 0 || k >= size {
				notHad(t, q, s, k)
			}
		}
	}
	most := New(64, 64, 64, 64)
	take(t, most, 3, 64)
	frame(t, most, 3, 0, 192)
	frame(t, most, 3, 63, 255)
}

// Promise 4.1: what is not taken yet is not had.
func TestNotTakenYet(t *testing.T) {
	q := New(4, 4)
	for s := range 2 {
		if n := q.Used(s); n != 0 {
			t.Errorf("Used(%d) = %d, of a new one", s, n)
		}
		for k := range 4 {
			notHad(t, q, s, k)
			if e := q.Free(s, k); e != api.ErrNone {
				t.Errorf("Free(%d, %d) = %v, of a new one", s, k, e)
			}
		}
	}
	alloc(t, q, 1, 0)
	notHad(t, q, 1, 1)
	notHad(t, q, 0, 0)
}

// Promise 4.1: Alloc takes the least free frame, whichever was freed last.
func TestAllocLeast(t *testing.T) {
	q := New(1, 6)
	take(t, q, 1, 6)
	for _, k := range []int{1, 4, 0, 3} {
		if e := q.Free(1, k); e != api.OK {
			t.Errorf("Free(1, %d) = %v", k, e)
		}
		notHad(t, q, 1, k)
	}
	if n := q.Used(1); n != 2 {
		t.Errorf("Used is %d behind four of six freed", n)
	}
	for _, k := range []int{0, 1, 3, 4} {
		notHad(t, q, 1, k)
		alloc(t, q, 1, k)
		frame(t, q, 1, k, 1+k)
	}
	full(t, q, 1, 6)
}

// Promise 4.1: Free of what it has not is ErrNone, and changes nothing; what was freed once is not freed twice.
func TestFreeWrong(t *testing.T) {
	q := New(3, 5)
	take(t, q, 0, 3)
	take(t, q, 1, 5)
	if e := q.Free(1, 2); e != api.OK {
		t.Errorf("Free(1, 2) = %v", e)
	}
	before := seenAll(t, q)
	for _, x := range [][2]int{{1, 2}, {1, 5}, {0, 3}, {0, 4}, {0, -1}, {1, -1}, {1, 64}} {
		if e := q.Free(x[0], x[1]); e != api.ErrNone {
			t.Errorf("Free(%d, %d) = %v", x[0], x[1], e)
		}
	}
	for _, k := range wild {
		if k < 0 || k > 4 {
			if e := q.Free(1, k); e != api.ErrNone {
				t.Errorf("Free(1, %d) = %v", k, e)
			}
		}
	}
	if seenAll(t, q) != before {
		t.Error("a Free that is refused changes something")
	}
	alloc(t, q, 1, 2)
}

// Promise 4.1: what New is given is neither changed nor kept.
func TestNothingIsKept(t *testing.T) {
	room := []int{-1, 70, 3, 9, 9, 9}
	given := slices.Clone(room)
	q := New(room[:3]...)
	if !slices.Equal(room, given) {
		t.Errorf("what was handed in is changed to %v", room)
	}
	for i := range room {
		room[i] = 7
	}
	take(t, q, 0, 0)
	take(t, q, 1, 64)
	take(t, q, 2, 3)
	frame(t, q, 2, 0, 64)
	noSession(t, q, 3)
}

// Promise 4.1: each Quota has its own frames.
func TestQuotasApart(t *testing.T) {
	a, b := New(2, 2), New(2, 2)
	take(t, a, 0, 2)
	a.Alloc(1)
	if n := b.Used(0) + b.Used(1); n != 0 {
		t.Errorf("%d frames are taken that nobody took", n)
	}
	take(t, b, 1, 2)
	if n := a.Used(1); n != 1 {
		t.Errorf("Used(1) = %d", n)
	}
}

// asked is what was answered, one behind the other, to somebody who asks of one session.
func asked(q *Quota, s int, r *rand.Rand) []int {
	k := r.Intn(8) - 1
	switch r.Intn(3) {
	case 0:
		n, e := q.Alloc(s)
		return []int{n, int(e)}
	case 1:
		return []int{int(q.Free(s, k))}
	}
	n, ok := q.Frame(s, k)
	if ok != q.Owns(s, k) {
		n = -1
	}
	return []int{n, q.Used(s)}
}

// Promise 4.2 (W5): one session is answered just the same, whatever the others do meanwhile.
func TestSessionsApart(t *testing.T) {
	for seed := range int64(200) {
		for s := range 4 {
			alone, beside := New(5, 6, 0, 4), New(5, 6, 0, 4)
			mine, again, others := rand.New(rand.NewSource(seed)), rand.New(rand.NewSource(seed)), rand.New(rand.NewSource(seed+1000))
			for range 60 {
				for range others.Intn(4) {
					if o := others.Intn(6) - 1; o != s {
						asked(beside, o, others)
					}
				}
				want, got := asked(alone, s, mine), asked(beside, s, again)
				if !slices.Equal(want, got) {
					t.Fatalf("session %d is answered %v alone, %v beside others", s, want, got)
				}
				if seen(t, alone, s) != seen(t, beside, s) {
					t.Fatalf("session %d is another one beside others", s)
				}
			}
		}
	}
}

// Promise 4.2 (W5): whatever one session does, nothing of another one changes, and no frame is told of two.
func TestNoFrameOfTwo(t *testing.T) {
	r := rand.New(rand.NewSource(4))
	q := New(3, 64, 1, 9)
	for range 3000 {
		s := r.Intn(4)
		before := seenAll(t, q)
		asked(q, s, r)
		after := seenAll(t, q)
		told := map[int]int{}
		for i := range after {
			if i != s && before[i] != after[i] {
				t.Fatalf("session %d changes behind a call of session %d", i, s)
			}
			for k, has := range after[i].owns {
				if has {
					told[after[i].frames[k]]++
				}
			}
		}
		for n, times := range told {
			if times != 1 || n < 0 || n >= 77 {
				t.Fatalf("frame %d is told %d times", n, times)
			}
		}
	}
}

// Promises 4.1, 4.2: whatever is asked, all is as plain sets of numbers have it.
func TestAgainstModel(t *testing.T) {
	r := rand.New(rand.NewSource(3))
	sizes, first := []int{2, 7, 0, 5}, []int{0, 2, 9, 9}
	q := New(sizes...)
	model := [4]map[int]int{{}, {}, {}, {}}
	for range 20000 {
		s, k := r.Intn(4), r.Intn(9)-1
		_, has := model[s][k]
		if r.Intn(2) == 0 {
			want, wantE := 0, api.ErrFull
			for i := sizes[s] - 1; i >= 0; i-- {
				if _, taken := model[s][i]; !taken {
					want, wantE = i, api.OK
				}
			}
			if n, e := q.Alloc(s); n != want || e != wantE {
				t.Fatalf("Alloc(%d) = %d, %v, want %d, %v", s, n, e, want, wantE)
			}
			if wantE == api.OK {
				model[s][want] = first[s] + want
			}
		} else {
			want := api.ErrNone
			if has {
				want = api.OK
			}
			if e := q.Free(s, k); e != want {
				t.Fatalf("Free(%d, %d) = %v, want %v", s, k, e, want)
			}
			delete(model[s], k)
		}
		for s := range model {
			if n := q.Used(s); n != len(model[s]) {
				t.Fatalf("Used(%d) = %d, want %d", s, n, len(model[s]))
			}
			for k := -1; k < 9; k++ {
				want, has := model[s][k]
				if n, ok := q.Frame(s, k); n != want || ok != has || q.Owns(s, k) != has {
					t.Fatalf("Frame(%d, %d) = %d, %v, want %d, %v", s, k, n, ok, want, has)
				}
			}
		}
	}
}

// Promise 4.3: no call panics, whatever numbers it is given.
func TestNoPanic(t *testing.T) {
	for _, a := range wild {
		for _, q := range []*Quota{New(a), New(1, a), New(a, a, a, a, a), New(wild...), New(make([]int, 1000)...)} {
			for _, s := range wild {
				for range 3 {
					if k, e := q.Alloc(s); e != api.OK && k != 0 {
						t.Errorf("Alloc(%d) = %d, %v", s, k, e)
					}
				}
				for _, k := range wild {
					n, ok := q.Frame(s, k)
					if ok != q.Owns(s, k) || !ok && n != 0 || ok && (n < 0 || n > 255) {
						t.Errorf("Frame(%d, %d) = %d, %v", s, k, n, ok)
					}
					if e := q.Free(s, k); (e == api.OK) != ok {
						t.Errorf("Free(%d, %d) = %v", s, k, e)
					}
				}
				if n := q.Used(s); n != 0 {
					t.Errorf("Used(%d) = %d behind all freed", s, n)
				}
			}
		}
	}
}
