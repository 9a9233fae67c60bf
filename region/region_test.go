package region

import (
	"bytes"
	"math"
	"math/rand"
	"testing"

	"commonage/api"
	"commonage/caps"
	"commonage/mem"
)

var wild = []int{math.MinInt, math.MinInt + 1, -1 << 62, -1 << 32, -65536, -64, -1, 0, 1, 2, 7, 31, 32, 33, 63, 64, 127, 128, 129, 256, 257, 258, 512, 65535, 65536, 65537, 1 << 31, 1<<32 + 256, 1 << 62, math.MaxInt - 1, math.MaxInt}

// bench is Regions, and what they are made over.
type bench struct {
	m *mem.Mem
	s *caps.Space
	r *Regions
}

// laid is Regions over so many frames, whose bytes tell their places.
func laid(t *testing.T, frames, envs int) bench {
	t.Helper()
	b := bench{m: mem.New(frames), s: caps.New(envs)}
	room := make([]byte, b.m.Size())
	for i := range room {
		room[i] = byte(i*7 + i/64 + 1)
	}
	if e := b.m.Store(0, room); e != api.OK {
		t.Fatal("storing all:", e)
	}
	b.r = New(b.m, b.s)
	return b
}

func (b bench) add(t *testing.T, lo, n int) int {
	t.Helper()
	obj, e := b.r.Add(lo, n)
	if e != api.OK {
		t.Fatalf("Add(%d, %d): %v", lo, n, e)
	}
	return obj
}

func (b bench) put(t *testing.T, env, obj, rights, lo, n int) int {
	t.Helper()
	name, e := b.s.Put(env, api.Cap{Obj: obj, Rights: rights, Lo: lo, N: n})
	if e != api.OK {
		t.Fatalf("Put: %v", e)
	}
	return name
}

func (b bench) all(t *testing.T) []byte {
	t.Helper()
	l, e := b.m.Load(0, b.m.Size())
	if e != api.OK {
		t.Fatal("loading all:", e)
	}
	return l
}

// same fails unless these are the bytes of the Mem.
func (b bench) same(t *testing.T, what string, want []byte) {
	t.Helper()
	if got := b.all(t); !bytes.Equal(got, want) {
		t.Errorf("%s: bytes are % x, want % x", what, got, want)
	}
}

func (b bench) reads(t *testing.T, env, name, at int, want []byte) {
	t.Helper()
	if l, e := b.r.Read(env, name, at, len(want)); !bytes.Equal(l, want) || e != api.OK {
		t.Errorf("Read(%d, %d, %d, %d) = % x, %v, want % x", env, name, at, len(want), l, e, want)
	}
}

// noRead fails unless a Read is refused so, and a Copy from there too, which writes nothing.
func (b bench) noRead(t *testing.T, env, name, at, n int, want api.Errno) {
	t.Helper()
	before := b.all(t)
	if l, e := b.r.Read(env, name, at, n); len(l) != 0 || e != want {
		t.Errorf("Read(%d, %d, %d, %d) = % x, %v, want %v", env, name, at, n, l, e, want)
	}
	for _, to := range []int{0, 256} {
		if e := b.r.Copy(env, name, at, to, 0, n); e != want {
			t.Errorf("Copy(%d, %d, %d, %d, 0, %d) = %v, want %v", env, name, at, to, n, e, want)
		}
	}
	b.same(t, "what is not read", before)
}

// noWrite fails unless a Write is refused so, and writes nothing.
func (b bench) noWrite(t *testing.T, env, name, at, n int, want api.Errno) {
	t.Helper()
	before := b.all(t)
	if e := b.r.Write(env, name, at, bytes.Repeat([]byte{0xee}, n)); e != want {
		t.Errorf("Write(%d, %d, %d, %d bytes) = %v, want %v", env, name, at, n, e, want)
	}
	b.same(t, "what is not written", before)
}

// Promise 5.1: the chapter's example.
func TestExample(t *testing.T) {
	b := laid(t, 1, 1)
	name := b.put(t, 0, b.add(t, 0, 64), api.RRead, 0, 64)
	b.noWrite(t, 0, name, 0, 1, api.ErrRight)
}

// Promise 5.1: Add takes any bytes of the Mem, and no others; numbers go from 0 on.
func TestAdd(t *testing.T) {
	b := laid(t, 2, 1)
	n := 0
	for _, x := range []struct {
		lo, n int
		e     api.Errno
	}{
		{-1, 0, api.ErrArg}, {-1, 1, api.ErrArg}, {-1, 2, api.ErrArg}, {0, -1, api.ErrArg}, {1, -1, api.ErrArg}, {128, -1, api.ErrArg}, {129, -1, api.ErrArg}, {-1, -1, api.ErrArg},
		{10, 20, api.OK}, {0, 128, api.OK}, {0, 0, api.OK}, {64, 0, api.OK}, {128, 0, api.OK}, {127, 1, api.OK}, {127, 0, api.OK}, {1, 127, api.OK}, {10, 20, api.OK},
		{0, 129, api.ErrArg}, {1, 128, api.ErrArg}, {127, 2, api.ErrArg}, {128, 1, api.ErrArg}, {129, 0, api.ErrArg}, {200, 1, api.ErrArg},
		{math.MaxInt, 0, api.ErrArg}, {math.MaxInt, 1, api.ErrArg}, {0, math.MaxInt, api.ErrArg}, {1, math.MaxInt, api.ErrArg}, {math.MaxInt, math.MaxInt, api.ErrArg}, {1 << 62, 1 << 62, api.ErrArg}, {math.MinInt, 0, api.ErrArg}, {0, math.MinInt, api.ErrArg}, {math.MinInt, math.MinInt, api.ErrArg}, {math.MinInt, math.MaxInt, api.ErrArg},
		{5, 6, api.OK},
	} {
		before := b.all(t)
		obj, e := b.r.Add(x.lo, x.n)
		if e != x.e || e == api.OK && obj != n || e != api.OK && obj != 0 {
			t.Errorf("Add(%d, %d) = %d, %v, want %d, %v", x.lo, x.n, obj, e, n, x.e)
		}
		if x.e == api.OK {
			if l, e := b.r.Raw(n); !bytes.Equal(l, before[x.lo:x.lo+x.n]) || e != api.OK {
				t.Errorf("Raw(%d) = % x, %v, behind Add(%d, %d)", n, l, e, x.lo, x.n)
			}
			n++
		}
		if b.r.Len() != n {
			t.Errorf("Len is %d, want %d", b.r.Len(), n)
		}
		b.same(t, "behind Add", before)
	}
}

// Promise 5.1: there are at most 32 regions; what is wrong is told ahead of what is full.
func TestAddFull(t *testing.T) {
	b := laid(t, 1, 1)
	for i := range 32 {
		if b.r.Len() != i {
			t.Errorf("Len is %d, want %d", b.r.Len(), i)
		}
		if obj := b.add(t, i, i%3); obj != i {
			t.Errorf("Add %d: %d", i, obj)
		}
	}
	for _, x := range []struct {
		lo, n int
		e     api.Errno
	}{{0, 1, api.ErrFull}, {0, 0, api.ErrFull}, {64, 0, api.ErrFull}, {0, 65, api.ErrArg}, {65, 0, api.ErrArg}, {-1, 0, api.ErrArg}, {0, -1, api.ErrArg}} {
		if obj, e := b.r.Add(x.lo, x.n); obj != 0 || e != x.e {
			t.Errorf("Add(%d, %d) to 32 of them = %d, %v, want %v", x.lo, x.n, obj, e, x.e)
		}
	}
	if b.r.Len() != 32 {
		t.Errorf("Len is %d, want 32", b.r.Len())
	}
	whole := b.all(t)
	for i := range 32 {
		b.reads(t, 0, b.put(t, 0, i, api.RRead, 0, i%3), 0, whole[i:i+i%3])
	}
}

// Promise 5.1: of a Mem without bytes there are regions without bytes.
func TestNoBytes(t *testing.T) {
	b := laid(t, 0, 1)
	if obj, e := b.r.Add(0, 1); obj != 0 || e != api.ErrArg {
		t.Error("Add(0, 1):", obj, e)
	}
	if obj, e := b.r.Add(1, 0); obj != 0 || e != api.ErrArg {
		t.Error("Add(1, 0):", obj, e)
	}
	name := b.put(t, 0, b.add(t, 0, 0), 3, 0, 5)
	b.reads(t, 0, name, 0, nil)
	b.noRead(t, 0, name, 0, 1, api.ErrArg)
	b.noWrite(t, 0, name, 0, 1, api.ErrArg)
	if e := b.r.Write(0, name, 0, nil); e != api.OK {
		t.Error("Write of no bytes:", e)
	}
	if l, e := b.r.Raw(0); len(l) != 0 || e != api.OK {
		t.Error("Raw(0):", l, e)
	}
}

// Promise 5.1: Read and Write reach what is within the Cap's range and within the region, and nothing else.
func TestRange(t *testing.T) {
	b := laid(t, 2, 1)
	b.add(t, 0, 128)
	obj := b.add(t, 10, 20)
	b.add(t, 40, 0)
	for _, x := range []struct {
		obj, lo, n, at, k int
		e                 api.Errno
	}{
		// Within the region: the Cap's range is what bounds it.
		{obj, 2, 4, 0, 4, api.OK}, {obj, 2, 4, 1, 3, api.OK}, {obj, 2, 4, 3, 1, api.OK}, {obj, 2, 4, 0, 0, api.OK}, {obj, 2, 4, 4, 0, api.OK}, {obj, 0, 20, 0, 20, api.OK}, {obj, 0, 20, 20, 0, api.OK},
		{obj, 2, 4, 0, 5, api.ErrArg}, {obj, 2, 4, 1, 4, api.ErrArg}, {obj, 2, 4, 4, 1, api.ErrArg}, {obj, 2, 4, 5, 0, api.ErrArg}, {obj, 2, 4, -1, 0, api.ErrArg}, {obj, 2, 4, -1, 1, api.ErrArg}, {obj, 2, 4, -1, 2, api.ErrArg}, {obj, 2, 4, -2, 4, api.ErrArg}, {obj, 2, 0, 0, 1, api.ErrArg}, {obj, 2, 0, 0, 0, api.OK}, {obj, 2, 0, 1, 0, api.ErrArg},
		{obj, 2, 4, math.MaxInt, 1, api.ErrArg}, {obj, 2, 4, math.MaxInt, 0, api.ErrArg}, {obj, 2, 4, math.MinInt, 0, api.ErrArg}, {obj, 2, 4, math.MaxInt - 1, 4, api.ErrArg},
		// The range goes beyond the region: the region's end is what bounds it.
		{obj, 18, 9, 0, 2, api.OK}, {obj, 18, 9, 1, 1, api.OK}, {obj, 18, 9, 2, 0, api.OK}, {obj, 18, 9, 0, 3, api.ErrArg}, {obj, 18, 9, 1, 2, api.ErrArg}, {obj, 18, 9, 2, 1, api.ErrArg}, {obj, 18, 9, 3, 0, api.ErrArg}, {obj, 18, 9, 9, 0, api.ErrArg}, {obj, 18, 9, -1, 1, api.ErrArg},
		{obj, 20, 0, 0, 0, api.OK}, {obj, 20, 5, 0, 0, api.OK}, {obj, 20, 5, 0, 1, api.ErrArg}, {obj, 21, 0, 0, 0, api.ErrArg}, {obj, 21, 5, 0, 0, api.ErrArg}, {obj, 65536, 65536, 0, 0, api.ErrArg}, {obj, 65536, 65536, 65536, 0, api.ErrArg}, {obj, 0, 65536, 0, 20, api.OK}, {obj, 0, 65536, 0, 21, api.ErrArg}, {obj, 0, 65536, 0, 65536, api.ErrArg},
		// No bytes at all, and no region at all.
		{2, 0, 9, 0, 0, api.OK}, {2, 0, 9, 0, 1, api.ErrArg}, {2, 1, 0, 0, 0, api.ErrArg},
		{3, 0, 9, 0, 0, api.ErrArg}, {3, 0, 9, 0, 1, api.ErrArg}, {-1, 0, 9, 0, 1, api.ErrArg}, {-1, 0, 0, 0, 0, api.ErrArg}, {32, 0, 9, 0, 1, api.ErrArg}, {math.MinInt, 0, 9, 0, 1, api.ErrArg}, {math.MaxInt, 0, 9, 0, 1, api.ErrArg}, {1 << 32, 0, 9, 0, 1, api.ErrArg},
	} {
		name := b.put(t, 0, x.obj, api.RRead|api.RWrite, x.lo, x.n)
		if x.e != api.OK {
			b.noRead(t, 0, name, x.at, x.k, x.e)
			b.noWrite(t, 0, name, x.at, x.k, x.e)
		} else {
			begins := [3]int{0, 10, 40}[x.obj] + x.lo + x.at
			want := b.all(t)
			b.reads(t, 0, name, x.at, want[begins:begins+x.k])
			fill := bytes.Repeat([]byte{0xee}, x.k)
			if e := b.r.Write(0, name, x.at, fill); e != api.OK {
				t.Errorf("%+v: Write: %v", x, e)
			}
			copy(want[begins:], fill)
			b.same(t, "written", want)
		}
		if _, e := b.s.Revoke(0, name); e != api.OK {
			t.Fatal(e)
		}
	}
}

// Promise 5.1: a Read of fewer bytes than none is ErrArg, a Copy too.
func TestFewerThanNone(t *testing.T) {
	b := laid(t, 1, 1)
	name := b.put(t, 0, b.add(t, 0, 64), 3, 0, 64)
	for _, n := range []int{-1, -2, -64, math.MinInt} {
		for _, at := range []int{0, 1, 64, 65, -1, math.MaxInt} {
			b.noRead(t, 0, name, at, n, api.ErrArg)
		}
	}
}

// Promise 5.1: Get's error comes first, then ErrRight, then ErrArg.
func TestOrderOfErrors(t *testing.T) {
	b := laid(t, 1, 2)
	obj := b.add(t, 0, 64)
	for rights := range 8 {
		good, bad := b.put(t, 0, obj, rights, 0, 64), b.put(t, 1, 99, rights, 0, 64)
		reads, writes := rights&api.RRead != 0, rights&api.RWrite != 0
		wrong := map[bool]api.Errno{false: api.ErrRight, true: api.ErrArg}
		for _, at := range []int{64, -1, math.MinInt, math.MaxInt} {
			b.noRead(t, 0, good, at, 1, wrong[reads])
			b.noWrite(t, 0, good, at, 1, wrong[writes])
		}
		b.noRead(t, 0, good, 0, -1, wrong[reads])
		b.noRead(t, 1, bad, 0, 1, wrong[reads])
		b.noWrite(t, 1, bad, 0, 1, wrong[writes])
		if reads {
			b.reads(t, 0, good, 0, b.all(t))
		} else {
			b.noRead(t, 0, good, 0, 1, api.ErrRight)
			b.noRead(t, 0, good, 0, 0, api.ErrRight)
		}
		if !writes {
			b.noWrite(t, 0, good, 0, 1, api.ErrRight)
			b.noWrite(t, 0, good, 0, 0, api.ErrRight)
		} else if e := b.r.Write(0, good, 0, []byte{byte(rights)}); e != api.OK || b.all(t)[0] != byte(rights) {
			t.Errorf("Write by rights %d: %v", rights, e)
		}
	}
	for _, x := range [][2]int{{-1, 256}, {2, 256}, {0, 0}, {0, -1}, {0, 255}, {0, 264}, {0, 512}, {math.MinInt, 256}, {math.MaxInt, 256}, {0, math.MaxInt}} {
		for _, at := range []int{0, -1, 65} {
			b.noRead(t, x[0], x[1], at, 1, api.ErrCap)
			b.noRead(t, x[0], x[1], at, -1, api.ErrCap)
			b.noWrite(t, x[0], x[1], at, 1, api.ErrCap)
		}
	}
}

// Promise 5.1: a Copy tells Read's error of from ahead of Write's of to, and changes nothing beside one.
func TestCopyWrong(t *testing.T) {
	b := laid(t, 1, 1)
	obj := b.add(t, 0, 64)
	ro, wo, both := b.put(t, 0, obj, api.RRead, 2, 8), b.put(t, 0, obj, api.RWrite, 20, 4), b.put(t, 0, obj, 3, 60, 8)
	before := b.all(t)
	for _, x := range []struct {
		env, from, at, to, on, n int
		e                        api.Errno
	}{
		{0, 0, 0, 0, 0, 1, api.ErrCap}, {0, 0, -1, ro, 0, 1, api.ErrCap}, {-1, ro, 0, wo, 0, 1, api.ErrCap}, {1, ro, 0, wo, 0, 1, api.ErrCap},
		{0, wo, 0, 0, 0, 1, api.ErrRight}, {0, wo, -1, ro, 0, 1, api.ErrRight}, {0, wo, 0, wo, 0, 1, api.ErrRight},
		{0, ro, 0, 0, 0, 9, api.ErrArg}, {0, ro, 8, ro, 0, 1, api.ErrArg}, {0, ro, -1, 0, 0, 1, api.ErrArg}, {0, ro, 0, 0, 0, -1, api.ErrArg}, {0, ro, 0, wo, 0, -1, api.ErrArg}, {0, ro, 9, wo, 0, 0, api.ErrArg}, {0, both, 0, wo, 0, 5, api.ErrArg},
		{0, ro, 0, 0, 0, 1, api.ErrCap}, {0, ro, 0, 0, -1, 1, api.ErrCap}, {0, ro, 8, 0, 0, 0, api.ErrCap},
		{0, ro, 0, ro, 0, 1, api.ErrRight}, {0, ro, 0, ro, -1, 1, api.ErrRight}, {0, ro, 0, ro, 9, 0, api.ErrRight},
		{0, ro, 0, wo, 4, 1, api.ErrArg}, {0, ro, 0, wo, 0, 5, api.ErrArg}, {0, ro, 0, wo, -1, 1, api.ErrArg}, {0, ro, 0, wo, 5, 0, api.ErrArg}, {0, ro, 0, both, 0, 5, api.ErrArg}, {0, ro, 0, both, 4, 1, api.ErrArg}, {0, ro, 0, wo, math.MaxInt, 1, api.ErrArg}, {0, ro, 0, wo, math.MinInt, 1, api.ErrArg},
		{0, ro, 0, wo, 4, 0, api.OK}, {0, ro, 8, wo, 0, 0, api.OK}, {0, both, 4, both, 4, 0, api.OK},
	} {
		if e := b.r.Copy(x.env, x.from, x.at, x.to, x.on, x.n); e != x.e {
			t.Errorf("%+v: %v", x, e)
		}
		b.same(t, "behind a Copy of nothing", before)
	}
}

// Promise 5.1: a Copy needs RRead of from and RWrite of to, and no more, and writes the bytes as they were, though both ranges share some.
func TestCopy(t *testing.T) {
	for _, x := range []struct{ at, on, n int }{
		{0, 20, 10}, {20, 0, 10}, {0, 1, 9}, {1, 0, 9}, {0, 5, 10}, {5, 0, 10}, {0, 0, 30}, {0, 30, 30}, {0, 29, 30}, {29, 0, 30}, {7, 7, 7}, {59, 0, 1}, {0, 59, 1},
	} {
		b := laid(t, 1, 1)
		// Two regions share the Mem's bytes 4 to 63: byte 4 is 0 of the one, 2 of the other.
		ro := b.put(t, 0, b.add(t, 4, 60), api.RRead, 0, 60)
		wo := b.put(t, 0, b.add(t, 2, 62), api.RWrite, 2, 60)
		want := b.all(t)
		copy(want[4+x.on:4+x.on+x.n], bytes.Clone(want[4+x.at:4+x.at+x.n]))
		if e := b.r.Copy(0, ro, x.at, wo, x.on, x.n); e != api.OK {
			t.Errorf("%+v: %v", x, e)
		}
		b.same(t, "copied", want)
	}
}

// Promise 5.1: Raw tells all bytes of a region, and needs no right; ErrArg of none.
func TestRaw(t *testing.T) {
	b := laid(t, 1, 1)
	b.add(t, 3, 5)
	b.add(t, 64, 0)
	b.m.Store(2, []byte{1, 2, 3, 4, 5, 6, 7})
	if l, e := b.r.Raw(0); !bytes.Equal(l, []byte{2, 3, 4, 5, 6}) || e != api.OK {
		t.Error("Raw(0):", l, e)
	}
	if l, e := b.r.Raw(1); len(l) != 0 || e != api.OK {
		t.Error("Raw(1):", l, e)
	}
	for _, obj := range []int{-1, 2, 31, 32, 1 << 32, math.MinInt, math.MaxInt} {
		if l, e := b.r.Raw(obj); len(l) != 0 || e != api.ErrArg {
			t.Errorf("Raw(%d) = % x, %v", obj, l, e)
		}
	}
}

// Promise 5.1: the Mem and the Space that Regions are made over stay what they lean on.
func TestMadeOver(t *testing.T) {
	b := laid(t, 1, 2)
	obj := b.add(t, 10, 20)
	name := b.put(t, 1, obj, 3, 5, 5)
	b.m.Store(15, []byte{9, 8, 7})
	b.reads(t, 1, name, 0, []byte{9, 8, 7})
	if e := b.r.Write(1, name, 3, []byte{6, 5}); e != api.OK {
		t.Error(e)
	}
	if l, _ := b.m.Load(15, 5); !bytes.Equal(l, []byte{9, 8, 7, 6, 5}) {
		t.Error("the Mem has", l)
	}
	other := New(b.m, b.s)
	if other.Len() != 0 {
		t.Error("other Regions have", other.Len())
	}
	if _, e := other.Read(1, name, 0, 1); e != api.ErrArg {
		t.Error("Read of other Regions:", e)
	}
	other.Add(0, 64)
	if l, e := other.Read(1, name, 0, 5); !bytes.Equal(l, b.all(t)[5:10]) || e != api.OK {
		t.Error("Read of other Regions:", l, e)
	}
}

// Promise 5.1: what is handed in is neither changed nor kept, and what is answered is not the Mem's own.
func TestNothingIsShared(t *testing.T) {
	b := laid(t, 1, 1)
	name := b.put(t, 0, b.add(t, 4, 40), 3, 2, 30)
	room := []byte{1, 2, 3, 4, 5, 6}
	if e := b.r.Write(0, name, 1, room[1:3]); e != api.OK {
		t.Fatal(e)
	}
	if !bytes.Equal(room, []byte{1, 2, 3, 4, 5, 6}) {
		t.Error("what was handed in is changed:", room)
	}
	before := b.all(t)
	room[1], room[3] = 99, 99
	b.same(t, "behind a change of what was handed in", before)

	read, _ := b.r.Read(0, name, 0, 8)
	raw, _ := b.r.Raw(0)
	for _, l := range [][]byte{read, raw} {
		l = l[:cap(l)]
		for i := range l {
			l[i] ^= 0xff
		}
		b.same(t, "behind a change of what was answered", before)
	}
	read, _ = b.r.Read(0, name, 0, 8)
	raw, _ = b.r.Raw(0)
	b.r.Write(0, name, 0, bytes.Repeat([]byte{0xaa}, 8))
	if !bytes.Equal(read, before[6:14]) || !bytes.Equal(raw, before[4:44]) {
		t.Error("an answer changed behind a Write:", read, raw)
	}
}

// Promise 5.2 (W2): who is granted a part reaches that part by those rights, until it is revoked.
func TestGranted(t *testing.T) {
	b := laid(t, 2, 3)
	obj := b.add(t, 10, 50)
	a := b.put(t, 0, obj, 7, 5, 20)
	g, e := b.s.Grant(0, a, 1, api.RRead|api.RGive, 4, 6)
	if e != api.OK {
		t.Fatal(e)
	}
	h, e := b.s.Grant(1, g, 2, api.RRead, 1, 2)
	if e != api.OK {
		t.Fatal(e)
	}
	whole := b.all(t)
	b.reads(t, 1, g, 0, whole[19:25])
	b.reads(t, 2, h, 0, whole[20:22])
	b.noRead(t, 1, g, 0, 7, api.ErrArg)
	b.noRead(t, 2, h, 1, 2, api.ErrArg)
	b.noRead(t, 2, h, -1, 1, api.ErrArg)
	b.noWrite(t, 1, g, 0, 1, api.ErrRight)
	b.noWrite(t, 2, h, 0, 1, api.ErrRight)
	if n, e := b.s.Revoke(1, g); n != 2 || e != api.OK {
		t.Fatal(n, e)
	}
	b.noRead(t, 1, g, 0, 1, api.ErrCap)
	b.noRead(t, 2, h, 0, 1, api.ErrCap)
	b.noWrite(t, 1, g, 0, 1, api.ErrCap)
	b.reads(t, 0, a, 0, whole[15:35])
	if _, e := b.s.Revoke(0, a); e != api.OK {
		t.Fatal(e)
	}
	b.noRead(t, 0, a, 0, 1, api.ErrCap)
	b.noWrite(t, 0, a, 0, 1, api.ErrCap)
}

// model is the bytes of a Mem, and where each region's are.
type model struct {
	bytes   []byte
	regions [][2]int
}

// places tells where the bytes at to at and n less 1 of a Cap's range are, byte by byte, or the error; it is the chapter's sentence, written out.
func (m *model) places(s *caps.Space, env, name, right, at, n int) ([]int, api.Errno) {
	c, e := s.Get(env, name)
	if e != api.OK {
		return nil, e
	}
	if c.Rights&right != right {
		return nil, api.ErrRight
	}
	if at < 0 || n < 0 || at > c.N || c.Obj < 0 || c.Obj >= len(m.regions) || c.Lo+at > m.regions[c.Obj][1] {
		return nil, api.ErrArg
	}
	var l []int
	for i := at; i < at+n; i++ {
		if i >= c.N || c.Lo+i >= m.regions[c.Obj][1] {
			return nil, api.ErrArg
		}
		l = append(l, m.regions[c.Obj][0]+c.Lo+i)
	}
	return l, api.OK
}

// at is what the bytes at these places are.
func (m *model) at(l []int) []byte {
	out := make([]byte, len(l))
	for i, p := range l {
		out[i] = m.bytes[p]
	}
	return out
}

func (m *model) set(l []int, b []byte) {
	for i, p := range l {
		m.bytes[p] = b[i]
	}
}

// anyName is mostly one of the names that an environment has.
func anyName(b bench, r *rand.Rand, env int) int {
	l := b.s.Names(env)
	if len(l) == 0 || r.Intn(12) == 0 {
		return 256*r.Intn(4) + r.Intn(33)
	}
	return l[r.Intn(len(l))]
}

// stir puts, grants and revokes at random.
func stir(b bench, r *rand.Rand) {
	env := r.Intn(3)
	name := anyName(b, r, env)
	switch r.Intn(10) {
	case 0, 1:
		b.s.Put(env, api.Cap{Obj: r.Intn(8) - 1, Rights: r.Intn(8), Lo: r.Intn(20), N: r.Intn(30)})
	case 2, 3:
		b.s.Grant(env, name, r.Intn(3), r.Intn(8), r.Intn(8), r.Intn(8))
	case 4:
		b.s.Revoke(env, name)
	}
}

// ask calls Read 0, Write 1 or Copy 2 at random, and fails unless it is answered as the model has it; it tells which, and if some bytes went.
func ask(t *testing.T, b bench, m *model, r *rand.Rand) (int, bool) {
	t.Helper()
	env, at, n, on, kind := r.Intn(10)/3, r.Intn(8)-1, r.Intn(8)-1, r.Intn(8)-1, r.Intn(3)
	name, to := anyName(b, r, env), anyName(b, r, env)
	var e, want api.Errno
	var from, into []int
	switch kind {
	case 0:
		var l []byte
		l, e = b.r.Read(env, name, at, n)
		if from, want = m.places(b.s, env, name, api.RRead, at, n); !bytes.Equal(l, m.at(from)) {
			t.Fatalf("Read is % x, want % x", l, m.at(from))
		}
	case 1:
		fill := make([]byte, max(n, 0))
		r.Read(fill)
		e = b.r.Write(env, to, on, fill)
		into, want = m.places(b.s, env, to, api.RWrite, on, len(fill))
		m.set(into, fill)
	case 2:
		e = b.r.Copy(env, name, at, to, on, n)
		if from, want = m.places(b.s, env, name, api.RRead, at, n); want == api.OK {
			into, want = m.places(b.s, env, to, api.RWrite, on, n)
		}
		m.set(into, m.at(from))
	}
	if e != want {
		t.Fatalf("kind %d: %v, want %v", kind, e, want)
	}
	return kind, e == api.OK && n > 0
}

// Promises 5.1, 5.2 (W2): whatever is asked, just the bytes to which there is a right are read and written, held against a plain list of bytes.
func TestAgainstModel(t *testing.T) {
	went := [3]int{}
	for seed := range int64(30) {
		r := rand.New(rand.NewSource(seed))
		b := laid(t, 2, 3)
		m := &model{bytes: b.all(t)}
		for step := range 2000 {
			if len(m.regions) < 6 && r.Intn(10) == 0 {
				lo, n := r.Intn(90), r.Intn(38)
				b.add(t, lo, n)
				m.regions = append(m.regions, [2]int{lo, n})
			}
			stir(b, r)
			if kind, some := ask(t, b, m, r); some {
				went[kind]++
			}
			if got := b.all(t); !bytes.Equal(got, m.bytes) {
				t.Fatalf("seed %d, step %d: bytes are % x, want % x", seed, step, got, m.bytes)
			}
			for obj, g := range m.regions {
				if l, e := b.r.Raw(obj); !bytes.Equal(l, m.bytes[g[0]:g[0]+g[1]]) || e != api.OK {
					t.Fatalf("seed %d, step %d: Raw(%d) = % x, %v", seed, step, obj, l, e)
				}
			}
		}
	}
	for kind, n := range went {
		if n < 200 {
			t.Errorf("just %d calls of kind %d went well with some bytes: the test looks at little", n, kind)
		}
	}
}

// Promise 5.3: no call panics, whatever numbers it is given.
func TestNoPanic(t *testing.T) {
	for _, frames := range []int{-1, 0, 1, 256} {
		b := laid(t, frames, 2)
		for i, x := range wild {
			b.s.Put(0, api.Cap{Obj: x, Rights: i % 8, Lo: 3 * i, N: 65536})
			b.s.Put(1, api.Cap{Obj: i % 4, Rights: 3, Lo: 65536 * (i % 2), N: 65536 - i})
		}
		for _, x := range wild {
			b.r.Raw(x)
			for _, y := range wild {
				b.r.Add(x, y)
				b.r.Write(x, y, 0, []byte{1})
				b.r.Write(0, x, y, []byte{1, 2})
				b.r.Write(1, 257, x, nil)
				b.r.Read(x, y, x, y)
				b.r.Copy(x, y, x, y, x, y)
				for name := 256; name < 261; name++ {
					b.r.Read(1, name, x, y)
					b.r.Copy(1, name, x, name+1, y, x)
					b.r.Copy(1, name, 0, name+1, x, y)
				}
			}
		}
		if b.r.Len() > 32 {
			t.Error("there are", b.r.Len())
		}
	}
}

// Promise 5.3: Regions over nothing have no bytes and no Caps.
func TestOverNothing(t *testing.T) {
	s := caps.New(1)
	name, _ := s.Put(0, api.Cap{Rights: 3, N: 1})
	r := New(nil, s)
	if obj, e := r.Add(0, 1); obj != 0 || e != api.ErrArg {
		t.Error("Add(0, 1):", obj, e)
	}
	if _, e := r.Add(0, 0); e != api.OK {
		t.Error("Add(0, 0):", e)
	}
	if l, e := r.Read(0, name, 0, 1); len(l) != 0 || e != api.ErrArg {
		t.Error("Read:", l, e)
	}
	r = New(mem.New(1), nil)
	r.Add(0, 64)
	if l, e := r.Read(0, name, 0, 1); len(l) != 0 || e != api.ErrCap {
		t.Error("Read:", l, e)
	}
	if e := r.Write(0, name, 0, []byte{1}); e != api.ErrCap {
		t.Error("Write:", e)
	}
	if e := r.Copy(0, name, 0, name, 0, 1); e != api.ErrCap {
		t.Error("Copy:", e)
	}
}
