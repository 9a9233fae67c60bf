package pred

import (
	"math"
	"math/rand"
	"slices"
	"testing"

	"commonage/api"
)

var wild = []int{math.MinInt, math.MinInt + 1, -1 << 62, -1 << 32, -65536, -65535, -256, -2, -1, 0, 1, 2, 3, 6, 7, 8, 31, 32, 33, 255, 256, 65534, 65535, 65536, 1 << 31, 1 << 32, 1<<32 + 1, 1 << 62, math.MaxInt - 1, math.MaxInt}

// An instruction of each kind.
func aByte(a int) api.Ins { return api.Ins{Op: 1, A: a} }
func aNow() api.Ins       { return api.Ins{Op: 2} }
func and(a int) api.Ins   { return api.Ins{Op: 3, A: a} }
func less(a int) api.Ins  { return api.Ins{Op: 4, A: a} }
func skip(a int) api.Ins  { return api.Ins{Op: 5, A: a} }
func aTrue() api.Ins      { return api.Ins{Op: 6} }
func not() api.Ins        { return api.Ins{Op: 7} }

// prog is a list with spare room behind it, which no call may touch.
func prog(l ...api.Ins) []api.Ins {
	all := append(slices.Clone(l), api.Ins{Op: 77, A: 77, B: 77}, api.Ins{Op: 77, A: 77, B: 77}, api.Ins{Op: 77, A: 77, B: 77})
	return all[:len(l)]
}

// times is so many of one instruction.
func times(n int, in api.Ins) []api.Ins {
	return slices.Repeat([]api.Ins{in}, n)
}

func checks(t *testing.T, want api.Errno, l ...api.Ins) {
	t.Helper()
	if e := Check(l...); e != want {
		t.Errorf("Check(%v) = %v, want %v", l, e, want)
	}
}

func evals(t *testing.T, view []byte, now int, want bool, done int, l ...api.Ins) {
	t.Helper()
	if is, n := Eval(view, now, l...); is != want || n != done {
		t.Errorf("Eval(%v, %d, %v) = %v, %d, want %v, %d", view, now, l, is, n, want, done)
	}
}

// refused fails unless Check tells that, and all calls that are given the program answer nothing.
func refused(t *testing.T, want api.Errno, l ...api.Ins) {
	t.Helper()
	checks(t, want, l...)
	evals(t, []byte{1, 2, 3}, 5, false, 0, l...)
	for _, x := range [][2][]api.Ins{{l, nil}, {nil, l}, {l, {aTrue()}}, {{aTrue()}, l}, {l, l}} {
		if got, ok := Either(x[0], x[1]); ok || len(got) != 0 {
			t.Errorf("Either(%v, %v) = %v, %v", x[0], x[1], got, ok)
		}
	}
}

// number fails unless the program's number is n behind its Ins; n is below 65,535 and not less than -65,535.
func number(t *testing.T, view []byte, now, n int, l ...api.Ins) {
	t.Helper()
	for _, a := range []int{0, 1, 2, n - 1, n, n + 1, 255, 256, 65535} {
		if a < 0 || a > 65535 {
			continue
		}
		if n < a {
			evals(t, view, now, false, len(l)+2, append(prog(l...), less(a), skip(1), aTrue())...)
		} else {
			evals(t, view, now, true, len(l)+3, append(prog(l...), less(a), skip(1), aTrue())...)
		}
	}
}

// Promise 7.2: the chapter's example.
func TestExample(t *testing.T) {
	evals(t, []byte{1}, 0, true, 5, Any(0, 1)...)
}

// Promise 7.1: an instruction's Op is told by the numbers of the chapter.
func TestNumbers(t *testing.T) {
	if got := [...]int{api.PByte, api.PNow, api.PAnd, api.PLess, api.PSkip, api.PTrue, api.PNot}; got != [...]int{1, 2, 3, 4, 5, 6, 7} {
		t.Error(got)
	}
}

// Promise 7.1: a program is at most 32 instructions; how many is asked ahead of what they are.
func TestMany(t *testing.T) {
	for n := range 80 {
		want := api.OK
		if n > 32 {
			want = api.ErrMany
		}
		for _, in := range []api.Ins{aNow(), aByte(65535), skip(0), aTrue(), not()} {
			checks(t, want, times(n, in)...)
		}
		if n > 32 {
			refused(t, api.ErrMany, times(n, aTrue())...)
			refused(t, api.ErrMany, times(n, api.Ins{Op: 99})...)
			refused(t, api.ErrMany, append(times(n-1, aNow()), skip(1))...)
		} else if n > 0 {
			refused(t, api.ErrArg, times(n, api.Ins{Op: 99})...)
			refused(t, api.ErrArg, append(times(n-1, aNow()), skip(1))...)
		}
	}
	checks(t, api.OK)
	checks(t, api.OK, []api.Ins{}...)
}

// sound is what the chapter asks of an instruction with one, a PTrue, behind it.
func sound(in api.Ins) bool {
	// Of each Op, 0 to 8: the greatest A.
	top := [...]int{-1, 65535, 0, 65535, 65535, 1, 0, 0, -1}
	return in.Op >= 0 && in.Op < len(top) && in.A >= 0 && in.A <= top[in.Op] && in.B == 0
}

// Promise 7.1: what an instruction's Op, A and B may be, wherever it stands.
func TestFields(t *testing.T) {
	for _, op := range append(slices.Clone(wild), 4, 5, 9, 10, -3, -5) {
		for _, a := range wild {
			for _, b := range wild {
				in := api.Ins{Op: op, A: a, B: b}
				for _, ahead := range []int{0, 1, 30} {
					l := append(times(ahead, aNow()), in, aTrue())
					if sound(in) {
						checks(t, api.OK, l...)
					} else {
						refused(t, api.ErrArg, l...)
					}
				}
			}
		}
	}
}

// Promise 7.1: one wrong instruction is enough, at each place, though a PTrue or a PSkip keeps it from being done.
func TestOneIsWrong(t *testing.T) {
	for _, wrong := range []api.Ins{{}, {Op: 8}, {Op: -1}, {Op: 2, A: 1}, {Op: 6, A: 1}, {Op: 7, A: 1}, {Op: 1, A: -1}, {Op: 3, A: 65536}, {Op: 1, B: 1}, {Op: 5, B: -1}, {Op: 6, B: 1}} {
		for n := 1; n <= 32; n++ {
			for i := range n {
				l := times(n, aTrue())
				l[i] = wrong
				refused(t, api.ErrArg, l...)
			}
		}
		refused(t, api.ErrArg, not(), skip(1), wrong, aTrue())
	}
}

// Promise 7.1: a PSkip has no fewer than A behind it, wherever it stands.
func TestSkipBehind(t *testing.T) {
	for n := 1; n <= 32; n++ {
		for i := range n {
			for a := range 35 {
				l := times(n, aNow())
				l[i] = skip(a)
				if a <= n-1-i {
					checks(t, api.OK, l...)
				} else {
					refused(t, api.ErrArg, l...)
				}
			}
		}
	}
}

// Promise 7.1: the number is 0 at first.
func TestZeroAtFirst(t *testing.T) {
	number(t, []byte{9, 9}, 9, 0)
	evals(t, []byte{9, 9}, 9, true, 2, skip(1), aTrue())
}

// Promise 7.1: PByte is the view's byte A, 0 where there is none, whatever the number was.
func TestByte(t *testing.T) {
	view := []byte{0, 1, 127, 128, 255, 7}
	for a, b := range view {
		number(t, view, 3, int(b), aByte(a))
		number(t, view, 3, int(b), aNow(), aByte(a))
		number(t, view[:a], 3, 0, aNow(), aByte(a))
	}
	for _, a := range []int{6, 7, 100, 255, 256, 65535} {
		number(t, view, 3, 0, aNow(), aByte(a))
		number(t, nil, 3, 0, aNow(), aByte(a))
		number(t, []byte{}, 3, 0, aNow(), aByte(a))
	}
	long := make([]byte, 65537)
	long[65534], long[65535], long[65536] = 1, 2, 3
	number(t, long, 0, 2, aByte(65535))
	number(t, long[:65535], 0, 0, aByte(65535))
	number(t, long[:65535], 0, 1, aByte(65534))
}

// Promise 7.1: PNow is the time, whatever it is.
func TestNow(t *testing.T) {
	for _, now := range wild {
		for a := range 65536 {
			if a > 300 && a < 65200 {
				continue
			}
			is, n := Eval(nil, now, not(), aNow(), less(a), skip(1), aTrue())
			if is != (now >= a) || is && n != 5 || !is && n != 4 {
				t.Fatalf("PNow, PLess %d at %d: %v, %d", a, now, is, n)
			}
		}
	}
}

// Promise 7.1: PAnd is bit by bit, of a number below 0 too.
func TestAnd(t *testing.T) {
	for b := range 256 {
		for _, a := range []int{0, 1, 2, 3, 128, 129, 170, 255, 256, 65280, 65535} {
			want := 0
			for bit := 1; bit < 256; bit *= 2 {
				if b/bit%2 == 1 && a/bit%2 == 1 {
					want += bit
				}
			}
			number(t, []byte{byte(b)}, 0, want, aByte(0), and(a))
		}
	}
	for _, x := range []struct{ now, a, want int }{
		{-1, 65535, 65535}, {-1, 0, 0}, {-2, 65535, 65534}, {-2, 1, 0}, {-65536, 65535, 0}, {-65535, 65535, 1}, {math.MinInt, 65535, 0}, {math.MaxInt, 65535, 65535}, {65536, 65535, 0}, {1<<32 + 5, 65535, 5}, {1<<32 + 5, 4, 4}, {1 << 62, 32768, 0},
	} {
		number(t, nil, x.now, x.want, aNow(), and(x.a))
	}
}

// Promise 7.1: PLess is 1 of a number below A, else 0.
func TestLess(t *testing.T) {
	for _, now := range wild {
		for _, a := range wild {
			if a < 0 || a > 65535 {
				continue
			}
			want := 0
			if now < a {
				want = 1
			}
			number(t, nil, now, want, aNow(), less(a))
		}
	}
}

// Promise 7.1: PNot is 1 of 0, else 0.
func TestNot(t *testing.T) {
	for _, now := range wild {
		want := 0
		if now == 0 {
			want = 1
		}
		number(t, nil, now, want, aNow(), not())
		number(t, nil, now, 1-want, aNow(), not(), not())
	}
}

// Promises 7.1, 7.2: PSkip passes the next A over, if the number is not 0, and leaves it as it is; what is passed over is not done.
func TestSkip(t *testing.T) {
	for _, now := range wild {
		for a := range 30 {
			l := append([]api.Ins{aNow(), skip(a)}, times(a, aTrue())...)
			switch {
			case a == 0 || now != 0:
				evals(t, nil, now, false, 2, l...)
				evals(t, nil, now, false, 3, append(prog(l...), aNow())...)
				evals(t, nil, now, true, 3, append(prog(l...), aTrue())...)
			default:
				evals(t, nil, now, true, 3, l...)
			}
		}
	}
	number(t, []byte{7}, 0, 7, aByte(0), skip(0))
	evals(t, []byte{7}, 0, true, 5, aByte(0), skip(1), aNow(), less(7), skip(1), aTrue())
	evals(t, []byte{7}, 0, false, 4, aByte(0), skip(1), aNow(), less(8), skip(1), aTrue())
}

// Promise 7.2: Eval is true at the first PTrue, whatever is behind it, and false at the end.
func TestFirstTrue(t *testing.T) {
	for n := range 33 {
		evals(t, nil, 0, false, n, times(n, not())...)
		for i := range n {
			l := times(n, not())
			for j := i; j < n; j++ {
				l[j] = aTrue()
				evals(t, nil, 0, true, i+1, l...)
			}
		}
	}
	evals(t, nil, 0, false, 0)
	evals(t, []byte{1}, 1, false, 0, []api.Ins{}...)
}

// Promise 7.2: Any is the chapter's five instructions, of an at and a mask of 0 to 65,535; none of others.
func TestAny(t *testing.T) {
	for _, at := range wild {
		for _, mask := range wild {
			var want []api.Ins
			if at >= 0 && at <= 65535 && mask >= 0 && mask <= 65535 {
				want = []api.Ins{{Op: 1, A: at}, {Op: 3, A: mask}, {Op: 7}, {Op: 5, A: 1}, {Op: 6}}
			}
			l := Any(at, mask)
			if !slices.Equal(l, want) {
				t.Errorf("Any(%d, %d) = %v, want %v", at, mask, l, want)
			}
			checks(t, api.OK, l...)
		}
	}
}

// Promise 7.2: Any is true just if the view's byte has one of mask's bits.
func TestAnyIs(t *testing.T) {
	masks := []int{256, 32768, 65280, 65281, 65535}
	for mask := range 256 {
		masks = append(masks, mask)
	}
	for b := range 256 {
		for _, mask := range masks {
			if b&mask != 0 {
				evals(t, []byte{255, byte(b), 255}, 9, true, 5, Any(1, mask)...)
			} else {
				evals(t, []byte{255, byte(b), 255}, 9, false, 4, Any(1, mask)...)
			}
			evals(t, []byte{byte(b)}, 9, false, 4, Any(1, mask)...)
		}
	}
	long := make([]byte, 65536)
	evals(t, long, 9, false, 4, Any(65535, 65535)...)
	long[65535] = 16
	evals(t, long, 9, true, 5, Any(65535, 65535)...)
}

// Promise 7.2: After is the chapter's four instructions, of a t of 0 to 65,535, true from it on; none of others.
func TestAfter(t *testing.T) {
	for _, at := range wild {
		l := After(at)
		checks(t, api.OK, l...)
		if at < 0 || at > 65535 {
			if len(l) != 0 {
				t.Errorf("After(%d) = %v", at, l)
			}
			continue
		}
		if want := []api.Ins{{Op: 2}, {Op: 4, A: at}, {Op: 5, A: 1}, {Op: 6}}; !slices.Equal(l, want) {
			t.Errorf("After(%d) = %v, want %v", at, l, want)
		}
		for _, now := range append(slices.Clone(wild), at-1, at, at+1) {
			if now >= at {
				evals(t, []byte{1}, now, true, 4, l...)
			} else {
				evals(t, []byte{1}, now, false, 3, l...)
			}
		}
	}
}

// joins fails unless Either answers b behind a.
func joins(t *testing.T, a, b []api.Ins) []api.Ins {
	t.Helper()
	var want []api.Ins
	for _, l := range [][]api.Ins{a, b} {
		for _, in := range l {
			want = append(want, in)
		}
	}
	l, ok := Either(a, b)
	if !ok || !slices.Equal(l, want) {
		t.Errorf("Either(%v, %v) = %v, %v", a, b, l, ok)
	}
	checks(t, api.OK, l...)
	return l
}

// Promise 7.2: Either is b behind a, of at most 32 in all.
func TestEither(t *testing.T) {
	for n := range 40 {
		for k := range 40 {
			a, b := times(n, aByte(n)), times(k, less(k))
			if n+k <= 32 {
				joins(t, a, b)
			} else if l, ok := Either(a, b); ok || len(l) != 0 {
				t.Errorf("Either of %d and %d: %v, %v", n, k, l, ok)
			}
		}
	}
	joins(t, nil, nil)
	joins(t, []api.Ins{}, nil)
	joins(t, nil, []api.Ins{})
}

// Promise 7.2: Either is false of a program that is refused by itself, though b would give a's PSkip enough behind it.
func TestEitherRefused(t *testing.T) {
	refused(t, api.ErrArg, skip(1))
	refused(t, api.ErrArg, aNow(), skip(3), aNow(), aTrue())
	refused(t, api.ErrMany, times(33, aTrue())...)
	refused(t, api.ErrArg, api.Ins{})
}

// Promise 7.2: Either of programs that do not hang on the number at first is true if one of them is.
func TestEitherIs(t *testing.T) {
	ways := [][]api.Ins{nil, {aTrue()}, Any(0, 1), Any(1, 2), After(2), After(3), {aByte(1), skip(1), aTrue()}}
	for _, a := range ways {
		for _, b := range ways {
			l := joins(t, a, b)
			for v := range 16 {
				view, now := []byte{byte(v & 1), byte(v & 2)}, v>>2+1
				isA, doneA := Eval(view, now, a...)
				isB, doneB := Eval(view, now, b...)
				if isA {
					doneB = 0
				}
				evals(t, view, now, isA || isB, doneA+doneB, l...)
			}
		}
	}
	// It is b behind a and no more: a PTrue of a ends it, and b goes on from a's number.
	a, b := []api.Ins{aNow(), skip(1), aTrue()}, []api.Ins{not(), skip(1), aTrue()}
	evals(t, nil, 0, true, 3, joins(t, a, b)...)
	evals(t, nil, 5, false, 2, a...)
	evals(t, nil, 5, false, 2, b...)
	evals(t, nil, 5, true, 5, joins(t, a, b)...)
}

// model runs what is left of a program, from a number, in the chapter's words.
func model(view []byte, now, n, done int, l []api.Ins) (bool, int) {
	if len(l) == 0 {
		return false, done
	}
	a, rest := l[0].A, l[1:]
	switch l[0].Op {
	case 1:
		n = 0
		for i, b := range view {
			if i == a {
				n = int(b)
			}
		}
	case 2:
		n = now
	case 3:
		both := 0
		for bit := range 16 {
			if n>>bit&1 == 1 && a>>bit&1 == 1 {
				both += 1 << bit
			}
		}
		n = both
	case 4:
		if n < a {
			n = 1
		} else {
			n = 0
		}
	case 5:
		if n != 0 {
			rest = rest[a:]
		}
	case 6:
		return true, done + 1
	case 7:
		if n == 0 {
			n = 1
		} else {
			n = 0
		}
	}
	return model(view, now, n, done+1, rest)
}

// anyIns is an instruction that may stand where so many are behind it.
func anyIns(r *rand.Rand, behind int) api.Ins {
	a := r.Intn(6)
	if r.Intn(8) == 0 {
		a = r.Intn(65536)
	}
	switch op := 1 + r.Intn(9); op {
	case 1, 3, 4:
		return api.Ins{Op: op, A: a}
	case 6:
		// Seldom, for it ends a program.
		if r.Intn(4) > 0 {
			return aNow()
		}
		return aTrue()
	case 2, 7:
		return api.Ins{Op: op}
	}
	return skip(r.Intn(min(behind, 6) + 1))
}

// anyProg is a program that Check does not refuse.
func anyProg(r *rand.Rand, most int) []api.Ins {
	l := make([]api.Ins, r.Intn(most+1))
	for i := range l {
		l[i] = anyIns(r, len(l)-i-1)
	}
	return l
}

// Promises 7.1 to 7.3: whatever program there is, it answers as the model does, behind no more steps than it has Ins.
func TestAgainstModel(t *testing.T) {
	r := rand.New(rand.NewSource(7))
	for range 200000 {
		l := anyProg(r, 32)
		view := make([]byte, r.Intn(8))
		for i := range view {
			view[i] = byte(r.Intn(256) * r.Intn(2))
		}
		now := r.Intn(8) - 2
		if r.Intn(8) == 0 {
			now = wild[r.Intn(len(wild))]
		}
		is, n := Eval(view, now, l...)
		if want, done := model(view, now, 0, 0, l); is != want || n != done {
			t.Fatalf("Eval(%v, %d, %v) = %v, %d, want %v, %d", view, now, l, is, n, want, done)
		}
		if n > len(l) || n == 0 && len(l) > 0 {
			t.Fatalf("Eval(%v, %d, %v): %d steps of %d", view, now, l, n, len(l))
		}
	}
}

// Promises 7.1 to 7.3: the same, of all programs of up to four instructions out of some few.
func TestAllSmall(t *testing.T) {
	few := []api.Ins{aByte(0), aByte(3), aNow(), and(1), and(6), less(1), less(5), skip(0), skip(1), skip(2), aTrue(), not()}
	var l []api.Ins
	var grow func(n int)
	grow = func(n int) {
		for v := range 4 {
			view, now := []byte{byte(5 * (v & 1))}, 3*(v>>1)
			is, done := Eval(view, now, l...)
			want, steps := false, 0
			if Check(l...) == api.OK {
				want, steps = model(view, now, 0, 0, l)
			}
			if is != want || done != steps {
				t.Fatalf("Eval(%v, %d, %v) = %v, %d, want %v, %d", view, now, l, is, done, want, steps)
			}
		}
		if n == 0 {
			return
		}
		for _, in := range few {
			l = append(l, in)
			grow(n - 1)
			l = l[:len(l)-1]
		}
	}
	grow(4)
}

// Promise 7.3: a program of n instructions takes n steps, and a longer one is not begun.
func TestSteps(t *testing.T) {
	for n := range 33 {
		evals(t, []byte{1}, 1, false, n, times(n, aNow())...)
		evals(t, []byte{1}, 1, false, n, times(n, skip(0))...)
		// Each skip passes the next one over.
		l := times(n, skip(1))
		if n > 0 {
			l[0] = aNow()
			l[n-1] = skip(0)
			evals(t, nil, 1, false, 1+n/2, l...)
		}
	}
	evals(t, nil, 1, false, 0, times(33, aNow())...)
	evals(t, nil, 1, false, 0, times(100000, aNow())...)
}

// DOC.md, rule 3: what is handed in is not changed, nor the spare room behind it.
func TestHandedIn(t *testing.T) {
	r := rand.New(rand.NewSource(8))
	for range 5000 {
		a, b := prog(anyProg(r, 10)...), prog(anyProg(r, 10)...)
		view := []byte{1, 2, 3, 4}
		allA, allB, all := a[:len(a)+3], b[:len(b)+3], view
		wasA, wasB, was := slices.Clone(allA), slices.Clone(allB), slices.Clone(all)
		Check(a...)
		Eval(view[:2], 3, a...)
		Either(a, b)
		Either(a, a)
		Either(a, nil)
		Either(nil, a)
		if !slices.Equal(allA, wasA) || !slices.Equal(allB, wasB) || !slices.Equal(all, was) {
			t.Fatalf("changed: %v of %v, %v of %v, %v of %v", allA, wasA, allB, wasB, all, was)
		}
	}
}

// overwrite writes over a list, and the spare room behind it.
func overwrite(l []api.Ins) {
	l = l[:cap(l)]
	for i := range l {
		l[i] = api.Ins{Op: 55, A: 55, B: 55}
	}
}

// DOC.md, rule 3: what is answered is new memory, its spare room too.
func TestAnswered(t *testing.T) {
	overwrite(Any(3, 4))
	overwrite(After(3))
	if l := Any(3, 4); !slices.Equal(l, []api.Ins{aByte(3), and(4), not(), skip(1), aTrue()}) {
		t.Errorf("Any = %v", l)
	}
	if l := After(3); !slices.Equal(l, []api.Ins{aNow(), less(3), skip(1), aTrue()}) {
		t.Errorf("After = %v", l)
	}
	for _, x := range [][2]int{{5, 4}, {5, 0}, {0, 4}, {0, 0}} {
		a, b := prog(times(x[0], aNow())...), prog(times(x[1], not())...)
		allA, allB := a[:len(a)+3], b[:len(b)+3]
		wasA, wasB := slices.Clone(allA), slices.Clone(allB)
		l := joins(t, a, b)
		again := joins(t, a, b)
		overwrite(l)
		if !slices.Equal(allA, wasA) || !slices.Equal(allB, wasB) || slices.Contains(again, api.Ins{Op: 55, A: 55, B: 55}) {
			t.Errorf("Either of %d and %d shares what it answers", x[0], x[1])
		}
	}
}

// Promise 7.4: no call panics, whatever it is given.
func TestNoPanic(t *testing.T) {
	r := rand.New(rand.NewSource(9))
	pick := func() int { return wild[r.Intn(len(wild))] }
	for range 50000 {
		lists := [2][]api.Ins{}
		for i := range lists {
			lists[i] = anyProg(r, 40)
			for range r.Intn(3) {
				if len(lists[i]) > 0 {
					lists[i][r.Intn(len(lists[i]))] = api.Ins{Op: r.Intn(9), A: pick(), B: pick() * r.Intn(2)}
				}
			}
		}
		e, is, n := Check(lists[0]...), false, 0
		if is, n = Eval(make([]byte, r.Intn(3)), pick(), lists[0]...); e != api.OK && (is || n != 0) {
			t.Fatalf("Eval(%v) = %v, %d, but Check tells %v", lists[0], is, n, e)
		}
		if l, ok := Either(lists[0], lists[1]); ok != (e == api.OK && Check(lists[1]...) == api.OK && len(lists[0])+len(lists[1]) <= 32) || !ok && len(l) != 0 {
			t.Fatalf("Either(%v, %v) = %v, %v", lists[0], lists[1], l, ok)
		}
		Any(pick(), pick())
		After(pick())
	}
	for _, l := range [][]api.Ins{nil, {}, make([]api.Ins, 1), make([]api.Ins, 100000)} {
		Check(l...)
		Eval(nil, 0, l...)
		Either(l, l)
	}
}
