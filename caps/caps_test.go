package caps

import (
	"cmp"
	"math"
	"math/rand"
	"slices"
	"testing"

	"commonage/api"
)

var wild = []int{math.MinInt, math.MinInt + 1, -1 << 62, -1 << 32, -65536, -256, -8, -1, 0, 1, 2, 7, 8, 31, 32, 39, 40, 41, 255, 256, 257, 287, 288, 512, 65535, 65536, 65537, 1 << 31, 1<<32 + 256, 1 << 62, math.MaxInt - 1, math.MaxInt}

func made(obj, rights, lo, n int) api.Cap {
	return api.Cap{Obj: obj, Rights: rights, Lo: lo, N: n}
}

func ref(env, name int) api.Ref {
	return api.Ref{Env: env, Name: name}
}

func put(t *testing.T, s *Space, env int, c api.Cap) int {
	t.Helper()
	name, e := s.Put(env, c)
	if e != api.OK {
		t.Fatalf("Put(%d, %+v): %v", env, c, e)
	}
	return name
}

// grant gives all rights to the whole range on.
func grant(t *testing.T, s *Space, of api.Ref, to int) api.Ref {
	t.Helper()
	c, e := s.Get(of.Env, of.Name)
	if e != api.OK {
		t.Fatalf("Get(%v): %v", of, e)
	}
	name, e := s.Grant(of.Env, of.Name, to, c.Rights, 0, c.N)
	if e != api.OK {
		t.Fatalf("Grant of %v to %d: %v", of, to, e)
	}
	return ref(to, name)
}

// held is a Cap that is there, and the environment and name by which it is.
type held struct {
	ref api.Ref
	c   api.Cap
}

// all is every Cap of a Space, as Names and Get tell them.
func all(t *testing.T, s *Space) []held {
	t.Helper()
	var l []held
	for env := range 42 {
		for _, name := range s.Names(env) {
			c, e := s.Get(env, name)
			if e != api.OK {
				t.Fatalf("Get(%d, %d), which Names tells: %v", env, name, e)
			}
			l = append(l, held{ref(env, name), c})
		}
	}
	return l
}

// has fails unless an environment has a Cap, and it is this one.
func has(t *testing.T, s *Space, r api.Ref, want api.Cap) {
	t.Helper()
	if c, e := s.Get(r.Env, r.Name); c != want || e != api.OK {
		t.Errorf("Get(%d, %d) = %+v, %v, want %+v", r.Env, r.Name, c, e, want)
	}
}

// under fails unless just these Caps are under one.
func under(t *testing.T, s *Space, r api.Ref, want ...api.Ref) {
	t.Helper()
	if l, e := s.Under(r.Env, r.Name); !slices.Equal(l, want) || e != api.OK {
		t.Errorf("Under(%d, %d) = %v, %v, want %v", r.Env, r.Name, l, e, want)
	}
}

// revoked fails unless a Revoke takes so many.
func revoked(t *testing.T, s *Space, r api.Ref, want int) {
	t.Helper()
	if n, e := s.Revoke(r.Env, r.Name); n != want || e != api.OK {
		t.Errorf("Revoke(%d, %d) = %d, %v, want %d", r.Env, r.Name, n, e, want)
	}
}

// gone fails unless every call that is asked of a Cap which is not there says so, and changes nothing.
func gone(t *testing.T, s *Space, r api.Ref) {
	t.Helper()
	before := all(t, s)
	if c, e := s.Get(r.Env, r.Name); c != (api.Cap{}) || e != api.ErrCap {
		t.Errorf("Get(%d, %d) = %+v, %v", r.Env, r.Name, c, e)
	}
	for _, to := range []int{0, -1, math.MaxInt} {
		for _, rights := range []int{0, 9} {
			if n, e := s.Grant(r.Env, r.Name, to, rights, 0, -to); n != 0 || e != api.ErrCap {
				t.Errorf("Grant(%d, %d, %d, %d) = %d, %v", r.Env, r.Name, to, rights, n, e)
			}
		}
	}
	if l, e := s.Under(r.Env, r.Name); len(l) != 0 || e != api.ErrCap {
		t.Errorf("Under(%d, %d) = %v, %v", r.Env, r.Name, l, e)
	}
	if n, e := s.Revoke(r.Env, r.Name); n != 0 || e != api.ErrCap {
		t.Errorf("Revoke(%d, %d) = %d, %v", r.Env, r.Name, n, e)
	}
	if after := all(t, s); !slices.Equal(before, after) {
		t.Errorf("calls of a Cap that is not there change %v to %v", before, after)
	}
}

// Promise 3.1: environments 0 to envs less 1, envs below 0 as 0, above 40 as that.
func TestEnvs(t *testing.T) {
	for _, x := range []struct{ envs, want int }{
		{math.MinInt, 0}, {-1, 0}, {0, 0}, {1, 1}, {2, 2}, {39, 39}, {40, 40}, {41, 40}, {1 << 32, 40}, {math.MaxInt, 40},
	} {
		s := New(x.envs)
		for env := range x.want {
			if name, e := s.Put(env, made(env, 1, 0, 0)); name != 256 || e != api.OK {
				t.Errorf("New(%d): Put(%d) = %d, %v", x.envs, env, name, e)
			}
		}
		for _, env := range []int{-1, x.want, x.want + 1, math.MinInt, math.MaxInt, 1 << 32} {
			if name, e := s.Put(env, made(0, 1, 0, 0)); name != 0 || e != api.ErrArg {
				t.Errorf("New(%d): Put(%d) = %d, %v", x.envs, env, name, e)
			}
			if l := s.Names(env); len(l) != 0 {
				t.Errorf("New(%d): Names(%d) = %v", x.envs, env, l)
			}
			gone(t, s, ref(env, 256))
		}
		for env := range x.want {
			has(t, s, ref(env, 256), made(env, 1, 0, 0))
		}
	}
}

// Promise 3.1: what Put takes is there, with no Root, whatever Root is told.
func TestPut(t *testing.T) {
	s := New(2)
	for i, c := range []api.Cap{
		{}, made(7, 3, 10, 20), made(math.MinInt, 0, 0, 0), made(math.MaxInt, 7, 65536, 65536), made(-1, 1, 0, 65536), made(0, 2, 65536, 0), made(0, 4, 1, 1),
		{Obj: 1, Rights: 6, Lo: 2, N: 3, Root: ref(1, 256)}, {Root: ref(-1, -1)}, {Root: ref(0, 256)},
	} {
		if name, e := s.Put(1, c); name != 256+i || e != api.OK {
			t.Errorf("Put(%+v) = %d, %v", c, name, e)
		}
		has(t, s, ref(1, 256+i), made(c.Obj, c.Rights, c.Lo, c.N))
		under(t, s, ref(1, 256))
	}
	if l := s.Names(0); len(l) != 0 {
		t.Error("another environment has", l)
	}
	revoked(t, s, ref(1, 256), 1)
	if l := s.Names(1); len(l) != 9 {
		t.Error("a Root that Put was told is a root:", l)
	}
}

// Promise 3.1: Put's ErrArg, which changes nothing.
func TestPutWrong(t *testing.T) {
	s := New(2)
	put(t, s, 0, made(1, 7, 2, 3))
	before := all(t, s)
	for _, x := range []struct {
		env int
		c   api.Cap
	}{
		{-1, made(0, 1, 0, 0)}, {2, made(0, 1, 0, 0)}, {math.MinInt, api.Cap{}}, {math.MaxInt, api.Cap{}},
		{0, made(0, -1, 0, 0)}, {0, made(0, 8, 0, 0)}, {0, made(0, 9, 0, 0)}, {0, made(0, 15, 0, 0)}, {0, made(0, math.MinInt, 0, 0)}, {0, made(0, math.MinInt+7, 0, 0)}, {0, made(0, math.MaxInt, 0, 0)}, {0, made(0, 1<<32, 0, 0)},
		{0, made(0, 1, -1, 0)}, {0, made(0, 1, 65537, 0)}, {0, made(0, 1, math.MinInt, 0)}, {0, made(0, 1, math.MaxInt, 0)},
		{0, made(0, 1, 0, -1)}, {0, made(0, 1, 0, 65537)}, {0, made(0, 1, 0, math.MinInt)}, {0, made(0, 1, 0, math.MaxInt)},
	} {
		if name, e := s.Put(x.env, x.c); name != 0 || e != api.ErrArg {
			t.Errorf("Put(%d, %+v) = %d, %v", x.env, x.c, name, e)
		}
	}
	if after := all(t, s); !slices.Equal(before, after) {
		t.Errorf("Puts that are refused change %v to %v", before, after)
	}
	if name, e := s.Put(0, api.Cap{}); name != 257 || e != api.OK {
		t.Error("Put behind those that were refused:", name, e)
	}
}

// Promise 3.1: an environment has 32 places; what is wrong is told ahead of what is full.
func TestFull(t *testing.T) {
	s := New(2)
	for i := range 32 {
		if name := put(t, s, 0, made(i, 7, 0, 9)); name != 256+i {
			t.Errorf("Put %d: %d", i, name)
		}
	}
	before := all(t, s)
	if name, e := s.Put(0, made(0, 1, 0, 0)); name != 0 || e != api.ErrFull {
		t.Error("Put into a full environment:", name, e)
	}
	if name, e := s.Put(0, made(0, 8, 0, 0)); name != 0 || e != api.ErrArg {
		t.Error("a wrong Put into a full environment:", name, e)
	}
	if name, e := s.Grant(0, 256, 0, 7, 0, 9); name != 0 || e != api.ErrFull {
		t.Error("Grant to a full environment:", name, e)
	}
	if name, e := s.Grant(0, 256, 0, 7, 0, 10); name != 0 || e != api.ErrArg {
		t.Error("a wrong Grant to a full environment:", name, e)
	}
	if after := all(t, s); !slices.Equal(before, after) {
		t.Errorf("what is refused changes %v to %v", before, after)
	}
	under(t, s, ref(0, 256))
	if r := grant(t, s, ref(0, 256), 1); r != ref(1, 256) {
		t.Error("Grant from a full environment to another:", r)
	}
	revoked(t, s, ref(0, 260), 1)
	if name := put(t, s, 0, made(1, 1, 0, 0)); name != 516 {
		t.Error("Put where a place became free:", name)
	}
	if name, e := s.Put(0, api.Cap{}); name != 0 || e != api.ErrFull {
		t.Error("Put into an environment that is full again:", name, e)
	}
}

// Promise 3.1: Names go by place; a name that was revoked stands for nothing any more.
func TestNames(t *testing.T) {
	s := New(3)
	for i := range 4 {
		put(t, s, 1, made(i, 1, 0, 0))
	}
	revoked(t, s, ref(1, 256), 1)
	revoked(t, s, ref(1, 258), 1)
	put(t, s, 1, made(9, 2, 0, 0))
	want := []int{512, 257, 259}
	names := s.Names(1)
	if !slices.Equal(names, want) {
		t.Errorf("Names are %v, want %v", names, want)
	}
	names = names[:cap(names)]
	for i := range names {
		names[i] = -1
	}
	if l := s.Names(1); !slices.Equal(l, want) || len(s.Names(0)) != 0 || len(s.Names(2)) != 0 {
		t.Errorf("Names are %v, want %v", l, want)
	}
	has(t, s, ref(1, 512), made(9, 2, 0, 0))
	for _, r := range []api.Ref{ref(1, 256), ref(1, 258), ref(1, 514), ref(1, 768), ref(1, 0), ref(1, 1), ref(0, 257), ref(2, 257), ref(0, 0), ref(-1, 257), ref(3, 257)} {
		gone(t, s, r)
	}
}

// Promise 3.2: what Grant gives.
func TestGrant(t *testing.T) {
	s := New(3)
	a := put(t, s, 1, made(-7, 7, 100, 50))
	for i, x := range []struct{ to, rights, lo, n int }{
		{0, 7, 0, 50}, {0, 0, 0, 0}, {1, 1, 10, 20}, {2, 2, 49, 1}, {2, 3, 50, 0}, {2, 4, 0, 1}, {1, 5, 1, 49}, {0, 6, 49, 0},
	} {
		name, e := s.Grant(1, a, x.to, x.rights, x.lo, x.n)
		if e != api.OK {
			t.Errorf("%d: Grant: %v", i, e)
		}
		has(t, s, ref(x.to, name), api.Cap{Obj: -7, Rights: x.rights, Lo: 100 + x.lo, N: x.n, Root: ref(1, a)})
	}
	has(t, s, ref(1, a), made(-7, 7, 100, 50))
	for env, want := range [][]int{{256, 257, 258}, {256, 257, 258}, {256, 257, 258}} {
		if l := s.Names(env); !slices.Equal(l, want) {
			t.Errorf("Names(%d) are %v, want %v", env, l, want)
		}
	}
}

// Promise 3.2: a Cap that was granted is granted on, of its own range.
func TestGrantOn(t *testing.T) {
	s := New(4)
	a := put(t, s, 0, made(5, 7, 65536, 65536))
	b, e := s.Grant(0, a, 1, 7, 60000, 5536)
	if e != api.OK {
		t.Fatal(e)
	}
	has(t, s, ref(1, b), api.Cap{Obj: 5, Rights: 7, Lo: 125536, N: 5536, Root: ref(0, a)})
	c, e := s.Grant(1, b, 2, 5, 5000, 100)
	if e != api.OK {
		t.Fatal(e)
	}
	has(t, s, ref(2, c), api.Cap{Obj: 5, Rights: 5, Lo: 130536, N: 100, Root: ref(1, b)})
	if n, e := s.Grant(2, c, 3, 1, 0, 101); n != 0 || e != api.ErrArg {
		t.Error("a range that only the root's root has:", n, e)
	}
	if n, e := s.Grant(2, c, 3, 2, 0, 1); n != 0 || e != api.ErrRight {
		t.Error("a right that only the root's root has:", n, e)
	}
	d, e := s.Grant(2, c, 3, 1, 100, 0)
	if e != api.OK {
		t.Fatal(e)
	}
	has(t, s, ref(3, d), api.Cap{Obj: 5, Rights: 1, Lo: 130636, N: 0, Root: ref(2, c)})
	if n, e := s.Grant(3, d, 0, 1, 0, 0); n != 0 || e != api.ErrRight {
		t.Error("Grant of a Cap that may not be given:", n, e)
	}
}

// Promise 3.2: Grant's errors, in the order of its sentence; they change nothing.
func TestGrantWrong(t *testing.T) {
	s := New(2)
	a := put(t, s, 0, made(1, 7, 10, 50))
	r := put(t, s, 0, made(1, 3, 10, 50))
	g := put(t, s, 0, made(1, 4, 10, 50))
	z := put(t, s, 0, made(1, 5, 10, 0))
	big := put(t, s, 0, made(1, 7, 65536, 65536))
	before := all(t, s)
	for _, x := range []struct {
		env, name, to, rights, lo, n int
		e                            api.Errno
	}{
		{0, 0, 9, 9, -1, -1, api.ErrCap}, {1, a, 1, 1, 0, 0, api.ErrCap}, {2, a, 1, 1, 0, 0, api.ErrCap}, {-1, a, 1, 1, 0, 0, api.ErrCap}, {0, a + 256, 1, 1, 0, 0, api.ErrCap},
		{0, r, 9, 1, -1, -1, api.ErrRight}, {0, r, 1, 0, 0, 0, api.ErrRight}, {0, r, 1, 3, 0, 50, api.ErrRight}, {0, r, 1, 8, 0, 50, api.ErrRight},
		{0, g, 1, 1, 0, 50, api.ErrRight}, {0, g, 1, 2, 0, 50, api.ErrRight}, {0, g, 1, 5, 0, 50, api.ErrRight}, {0, g, 1, 7, 0, 50, api.ErrRight}, {0, z, 1, 2, 0, 0, api.ErrRight}, {0, z, 1, 6, 0, 0, api.ErrRight},
		{0, a, 9, 8, -1, -1, api.ErrRight}, {0, a, 1, -1, 0, 0, api.ErrRight}, {0, a, 1, 9, 0, 0, api.ErrRight}, {0, a, 1, math.MinInt, 0, 0, api.ErrRight}, {0, a, 1, math.MinInt + 1, 0, 0, api.ErrRight}, {0, a, 1, math.MaxInt, 0, 0, api.ErrRight}, {0, a, 1, 1<<32 + 1, 0, 0, api.ErrRight},
		{0, a, 2, 1, 0, 0, api.ErrArg}, {0, a, -1, 1, 0, 0, api.ErrArg}, {0, a, math.MaxInt, 1, 0, 0, api.ErrArg}, {0, a, math.MinInt, 1, 0, 0, api.ErrArg},
		{0, a, 1, 1, -1, 0, api.ErrArg}, {0, a, 1, 1, -1, 1, api.ErrArg}, {0, a, 1, 1, -1, 50, api.ErrArg}, {0, a, 1, 1, 0, -1, api.ErrArg}, {0, a, 1, 1, 50, -1, api.ErrArg}, {0, a, 1, 1, 51, -1, api.ErrArg},
		{0, a, 1, 1, 0, 51, api.ErrArg}, {0, a, 1, 1, 1, 50, api.ErrArg}, {0, a, 1, 1, 50, 1, api.ErrArg}, {0, a, 1, 1, 51, 0, api.ErrArg}, {0, a, 1, 1, 60, 0, api.ErrArg},
		{0, z, 1, 1, 0, 1, api.ErrArg}, {0, z, 1, 1, 1, 0, api.ErrArg}, {0, big, 1, 1, 0, 65537, api.ErrArg}, {0, big, 1, 1, 65536, 1, api.ErrArg}, {0, big, 1, 1, 65537, 0, api.ErrArg},
		{0, a, 1, 1, 1 << 62, 1 << 62, api.ErrArg}, {0, a, 1, 1, math.MaxInt, 1, api.ErrArg}, {0, a, 1, 1, math.MaxInt, math.MaxInt, api.ErrArg}, {0, a, 1, 1, 1, math.MaxInt, api.ErrArg}, {0, a, 1, 1, 0, math.MinInt, api.ErrArg}, {0, a, 1, 1, math.MinInt, math.MinInt, api.ErrArg}, {0, a, 1, 1, math.MaxInt, 0, api.ErrArg}, {0, a, 1, 1, math.MinInt, 0, api.ErrArg},
	} {
		if n, e := s.Grant(x.env, x.name, x.to, x.rights, x.lo, x.n); n != 0 || e != x.e {
			t.Errorf("Grant(%d, %d, %d, %d, %d, %d) = %d, %v, want %v", x.env, x.name, x.to, x.rights, x.lo, x.n, n, e, x.e)
		}
	}
	if after := all(t, s); !slices.Equal(before, after) {
		t.Errorf("Grants that are refused change %v to %v", before, after)
	}
	for env, want := range []int{261, 256} {
		if name := put(t, s, env, api.Cap{}); name != want {
			t.Errorf("a Grant that is refused took a name of %d: %d", env, name)
		}
	}
	if n, e := s.Grant(0, z, 1, 5, 0, 0); n != 257 || e != api.OK {
		t.Error("Grant of no bytes at all:", n, e)
	}
	if n, e := s.Grant(0, big, 1, 1, 65536, 0); n != 258 || e != api.OK {
		t.Error("Grant at the end:", n, e)
	}
	if n, e := s.Grant(0, g, 1, 4, 0, 50); n != 259 || e != api.OK {
		t.Error("Grant of RGive alone:", n, e)
	}
}

// Promise 3.2: whose right lets pass is told of each pair of rights.
func TestGrantRights(t *testing.T) {
	for have := range 8 {
		for want := -9; want < 17; want++ {
			s := New(2)
			a := put(t, s, 0, made(1, have, 0, 1))
			ok := have >= 4 && want >= 0 && want < 8
			for bit := 1; bit < 8; bit *= 2 {
				ok = ok && (want/bit%2 == 0 || have/bit%2 == 1)
			}
			_, e := s.Grant(0, a, 1, want, 0, 1)
			if (e == api.OK) != ok || !ok && e != api.ErrRight {
				t.Errorf("Grant of %d out of %d: %v", want, have, e)
			}
		}
	}
}

// Promise 3.2: Under tells what was granted of one, or of these, by Env, then Name, and Revoke takes just that.
func TestUnderRevoke(t *testing.T) {
	s := New(4)
	a := ref(2, put(t, s, 2, made(1, 7, 0, 9)))
	same := ref(2, put(t, s, 2, made(1, 7, 0, 9))) // alike, but not granted
	put(t, s, 0, made(0, 7, 0, 9))                 // the same name in another environment
	b := grant(t, s, a, 3)
	c := grant(t, s, b, 0)
	d := grant(t, s, c, 2) // back to where it came from
	e := grant(t, s, a, 1)
	f := grant(t, s, d, 0)
	g := grant(t, s, b, 2)
	other := grant(t, s, same, 3)

	under(t, s, a, c, f, e, d, g, b)
	under(t, s, b, c, f, d, g)
	under(t, s, c, f, d)
	under(t, s, d, f)
	under(t, s, e)
	under(t, s, f)
	under(t, s, g)
	under(t, s, same, other)
	under(t, s, other)
	under(t, s, ref(0, 256))

	revoked(t, s, c, 3)
	for _, r := range []api.Ref{c, d, f} {
		gone(t, s, r)
	}
	under(t, s, a, e, g, b)
	under(t, s, b, g)
	h := grant(t, s, a, 0) // at the place of one that was revoked
	if h != ref(0, 513) {
		t.Error("Grant at a place that became free:", h)
	}
	under(t, s, a, h, e, g, b)
	under(t, s, b, g)
	revoked(t, s, g, 1)
	under(t, s, a, h, e, b)
	revoked(t, s, a, 4)
	for _, r := range []api.Ref{a, b, e, g, h} {
		gone(t, s, r)
	}
	want := []held{{ref(0, 256), made(0, 7, 0, 9)}, {same, made(1, 7, 0, 9)}, {other, api.Cap{Obj: 1, Rights: 7, N: 9, Root: same}}}
	if l := all(t, s); !slices.Equal(l, want) {
		t.Errorf("there are %v, want %v", l, want)
	}
}

// Promise 3.2: Under goes by Name, though Names go by place.
func TestUnderByName(t *testing.T) {
	s := New(2)
	a := ref(0, put(t, s, 0, made(1, 7, 0, 9)))
	first := grant(t, s, a, 1)
	second := grant(t, s, a, 1)
	revoked(t, s, first, 1)
	third := grant(t, s, a, 1)
	if third != ref(1, 512) || !slices.Equal(s.Names(1), []int{512, 257}) {
		t.Error(third, s.Names(1))
	}
	under(t, s, a, second, third)

	l, _ := s.Under(0, a.Name)
	l = l[:cap(l)]
	for i := range l {
		l[i] = a
	}
	under(t, s, a, second, third)
}

// Promises 3.3, 3.4: what is revoked is gone for all who had it of it, however long the way to them: every environment full, in one chain.
func TestLongChain(t *testing.T) {
	s := New(40)
	top := ref(0, put(t, s, 0, made(3, 7, 1, 2)))
	last := top
	for i := 1; i < 32*40; i++ {
		last = grant(t, s, last, i%40)
	}
	has(t, s, last, api.Cap{Obj: 3, Rights: 7, Lo: 1, N: 2, Root: ref(38, 256+31)})
	if _, e := s.Grant(last.Env, last.Name, 7, 0, 0, 0); e != api.ErrFull {
		t.Error("Grant where no place is free:", e)
	}
	l, e := s.Under(top.Env, top.Name)
	if len(l) != 32*40-1 || e != api.OK || !slices.IsSortedFunc(l, inOrder) {
		t.Error("Under the top are", len(l), e)
	}
	revoked(t, s, ref(0, 256+16), 32*40-16*40)
	if l := all(t, s); len(l) != 16*40 {
		t.Error("there are", len(l))
	}
	revoked(t, s, top, 16*40)
	if l := all(t, s); len(l) != 0 {
		t.Error("there are", len(l))
	}
}

// Promise 3.1: each Space has its own Caps.
func TestSpacesApart(t *testing.T) {
	x, y := New(2), New(2)
	a := ref(0, put(t, x, 0, made(1, 7, 0, 1)))
	put(t, y, 0, made(2, 7, 0, 1))
	grant(t, x, a, 1)
	if l := y.Names(1); len(l) != 0 {
		t.Error("a Grant reaches another Space:", l)
	}
	revoked(t, x, a, 2)
	has(t, y, ref(0, 256), made(2, 7, 0, 1))
}

func inOrder(a, b api.Ref) int {
	if a.Env != b.Env {
		return cmp.Compare(a.Env, b.Env)
	}
	return cmp.Compare(a.Name, b.Name)
}

// entry is a Cap of the model: who has it, of which entry it was granted (-1: of none), and whether it is there.
type entry struct {
	held
	of    int
	there bool
}

// model is all Caps that ever were, the plain way.
type model struct {
	entries []entry
	next    map[api.Ref]int // by environment and place: the name that is told there next
	envs    int
}

func newModel(envs int) *model {
	m := &model{next: map[api.Ref]int{}, envs: envs}
	for env := range envs {
		for p := range 32 {
			m.next[ref(env, p)] = 256 + p
		}
	}
	return m
}

func (m *model) find(r api.Ref) int {
	return slices.IndexFunc(m.entries, func(x entry) bool { return x.there && x.ref == r })
}

func (m *model) add(env int, c api.Cap, of int) (int, api.Errno) {
	for p := range 32 {
		r := ref(env, m.next[ref(env, p)])
		if m.find(r) < 0 {
			m.entries = append(m.entries, entry{held{r, c}, of, true})
			return r.Name, api.OK
		}
	}
	return 0, api.ErrFull
}

func (m *model) grant(r api.Ref, to, rights, lo, n int) (int, api.Errno) {
	i := m.find(r)
	if i < 0 {
		return 0, api.ErrCap
	}
	c := m.entries[i].c
	if c.Rights < 4 || rights < 0 || rights > 7 || rights|c.Rights != c.Rights {
		return 0, api.ErrRight
	}
	if to < 0 || to >= m.envs || lo < 0 || n < 0 || lo+n > c.N {
		return 0, api.ErrArg
	}
	return m.add(to, api.Cap{Obj: c.Obj, Rights: rights, Lo: c.Lo + lo, N: n, Root: r}, i)
}

func (m *model) isUnder(i, top int) bool {
	for i = m.entries[i].of; i >= 0; i = m.entries[i].of {
		if i == top {
			return true
		}
	}
	return false
}

func (m *model) under(r api.Ref) ([]api.Ref, api.Errno) {
	top := m.find(r)
	if top < 0 {
		return nil, api.ErrCap
	}
	var l []api.Ref
	for i, x := range m.entries {
		if x.there && m.isUnder(i, top) {
			l = append(l, x.ref)
		}
	}
	slices.SortFunc(l, inOrder)
	return l, api.OK
}

func (m *model) revoke(r api.Ref) (int, api.Errno) {
	top := m.find(r)
	if top < 0 {
		return 0, api.ErrCap
	}
	n := 0
	for i, x := range m.entries {
		if x.there && (i == top || m.isUnder(i, top)) {
			n++
			m.entries[i].there = false
			m.next[ref(x.ref.Env, x.ref.Name%256)] += 256
		}
	}
	return n, api.OK
}

func (m *model) all() []held {
	var l []held
	for _, x := range m.entries {
		if x.there {
			l = append(l, x.held)
		}
	}
	slices.SortFunc(l, func(a, b held) int { return inOrder(ref(a.ref.Env, a.ref.Name%256), ref(b.ref.Env, b.ref.Name%256)) })
	return l
}

// sound fails if one has a right, or a byte, that its root has not, or a root that is gone.
func sound(t *testing.T, s *Space) {
	t.Helper()
	for _, x := range all(t, s) {
		if x.c.Root == (api.Ref{}) {
			continue
		}
		root, e := s.Get(x.c.Root.Env, x.c.Root.Name)
		if e != api.OK {
			t.Fatalf("%+v: its root: %v", x, e)
		}
		if root.Obj != x.c.Obj || root.Rights&api.RGive == 0 || root.Rights|x.c.Rights != root.Rights || x.c.Lo < root.Lo || x.c.Lo+x.c.N > root.Lo+root.N {
			t.Fatalf("%+v has more than its root %+v", x, root)
		}
	}
}

// some picks a Cap of the model: mostly one that is there, else one that was, or none at all.
func (m *model) some(r *rand.Rand) api.Ref {
	if l := m.all(); len(l) > 0 && r.Intn(8) > 0 {
		return l[r.Intn(len(l))].ref
	}
	if len(m.entries) > 0 && r.Intn(2) == 0 {
		return m.entries[r.Intn(len(m.entries))].ref
	}
	return ref(r.Intn(m.envs+2)-1, 256+r.Intn(3*256))
}

// part picks rights and a range of a Cap: mostly most of what it has, else any, wrong ones too.
func part(r *rand.Rand, c api.Cap) (rights, lo, n int) {
	if r.Intn(5) > 0 {
		lo = r.Intn(min(c.N, 2) + 1)
		return c.Rights &^ (r.Intn(3) / 2 * r.Intn(4)), lo, c.N - lo
	}
	return r.Intn(10) - 1, r.Intn(c.N+3) - 1, r.Intn(c.N+3) - 1
}

// Promises 3.1 to 3.3 (W2): whatever is asked, all is as the model has it, and nobody has what its root has not.
func TestAgainstModel(t *testing.T) {
	r := rand.New(rand.NewSource(3))
	for _, envs := range []int{1, 2, 5, 40} {
		s, m := New(envs), newModel(envs)
		most := 0
		for step := range 2000 {
			at := m.some(r)
			var n, wantN int
			var e, wantE api.Errno
			switch op := r.Intn(40); {
			case op < 3:
				c := api.Cap{Obj: r.Intn(3) - 1, Rights: r.Intn(8) | r.Intn(8), Lo: r.Intn(5), N: r.Intn(60), Root: at}
				env := r.Intn(envs)
				n, e = s.Put(env, c)
				c.Root = api.Ref{}
				wantN, wantE = m.add(env, c, -1)
			case op < 32:
				to := r.Intn(envs*9/8 + 1)
				c, _ := s.Get(at.Env, at.Name)
				rights, lo, size := part(r, c)
				n, e = s.Grant(at.Env, at.Name, to, rights, lo, size)
				wantN, wantE = m.grant(at, to, rights, lo, size)
			case op < 34:
				n, e = s.Revoke(at.Env, at.Name)
				wantN, wantE = m.revoke(at)
			default:
				l, e := s.Under(at.Env, at.Name)
				if want, wantE := m.under(at); !slices.Equal(l, want) || e != wantE {
					t.Fatalf("envs %d, step %d: Under(%v) = %v, %v, want %v, %v", envs, step, at, l, e, want, wantE)
				}
				most = max(most, len(l))
			}
			if n != wantN || e != wantE {
				t.Fatalf("envs %d, step %d: %d, %v, want %d, %v", envs, step, n, e, wantN, wantE)
			}
			if l, want := all(t, s), m.all(); !slices.Equal(l, want) {
				t.Fatalf("envs %d, step %d: there are %v, want %v", envs, step, l, want)
			}
			sound(t, s)
		}
		if most < 9 {
			t.Errorf("envs %d: at most %d Caps were under one: the test looks at little", envs, most)
		}
		t.Logf("envs %d: at most %d Caps were under one", envs, most)
	}
}

// Promise 3.4: no call panics, whatever numbers it is given, and what goes wrong leaves all sound.
func TestNoPanic(t *testing.T) {
	for _, envs := range wild {
		s := New(envs)
		for i, a := range wild {
			s.Names(a)
			for j, b := range wild {
				s.Put(a, made(b, i%8, j, i))
				s.Put(i%3, made(i, a, b, a))
				s.Put(i%3, made(i, 7, a, b))
				s.Get(a, b)
				s.Grant(0, 256, a, 7, b, a)
				s.Grant(0, 256, i%3, a, b, b)
				s.Grant(0, 256, i%3, 7, a, b)
				s.Grant(a, b, b, a, b, a)
				s.Under(a, b)
				if len(wild)*i+j > len(wild)*len(wild)/2 {
					s.Revoke(a, b)
				}
			}
		}
		sound(t, s)
	}
}
