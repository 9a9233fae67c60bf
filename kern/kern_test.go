package kern

import (
	"bytes"
	"fmt"
	"math"
	"math/rand"
	"reflect"
	"slices"
	"strings"
	"testing"

	"commonage/api"
	"commonage/caps"
	"commonage/mem"
	"commonage/quota"
	"commonage/region"
	"commonage/sect"
)

var wild = []int{math.MinInt, math.MinInt + 1, -1 << 62, -1 << 32, -65536, -64, -2, -1, 0, 1, 2, 3, 4, 5, 7, 8, 9, 10, 11, 16, 31, 32, 39, 40, 41, 63, 64, 127, 128, 129, 255, 256, 257, 258, 512, 999, 1000, 1001, 4096, 65535, 65536, 65537, 1 << 30, 1<<30 + 1, 1 << 31, 1 << 32, 1<<32 + 256, 1 << 62, math.MaxInt - 1, math.MaxInt}

// A call of each Op.
func read(name, at, n int) api.Call { return api.Call{Op: 1, Cap: name, At: at, N: n} }
func write(name, at int, b ...byte) api.Call {
	return api.Call{Op: 2, Cap: name, At: at, B: b}
}
func copies(from, at, to, on, n int) api.Call {
	return api.Call{Op: 3, Cap: from, At: at, To: to, On: on, N: n}
}
func grant(name, to, rights, at, n int) api.Call {
	return api.Call{Op: 4, Cap: name, To: to, On: rights, At: at, N: n}
}
func revoke(name int) api.Call     { return api.Call{Op: 5, Cap: name} }
func alloc() api.Call              { return api.Call{Op: 6} }
func free(k int) api.Call          { return api.Call{Op: 7, N: k} }
func enter(n int) api.Call         { return api.Call{Op: 8, N: n} }
func leave(n, stamp int) api.Call  { return api.Call{Op: 9, N: n, At: stamp} }
func aNow() api.Call               { return api.Call{Op: 10} }
func fails(e api.Errno) api.Answer { return api.Answer{E: e} }
func is(n int) api.Answer          { return api.Answer{N: n} }
func has(b ...byte) api.Answer     { return api.Answer{B: b} }

// boot is a Boot of three sessions, of 3, 0 and 2 frames, and five environments, the last one of the session without frames.
func boot() api.Boot {
	return api.Boot{
		Frames: []int{3, 0, 2},
		Envs:   []int{0, 2, 0, 2, 1},
		Sects:  [][]int{{0}, {2, 0}, nil, {1, 2}},
		Lease:  5,
		Shared: []api.Share{
			{Session: 0, Frame: 1, Lo: 4, N: 20, To: []int{0}},
			{Session: 2, Frame: 0, Lo: 0, N: 128, To: []int{2, 0, 2}},
			{Session: 0, Frame: 0, Lo: 0, N: 192, To: nil},
			{Session: 2, Frame: 1, Lo: 10, N: 40, To: []int{1}},
		},
	}
}

func starts(t *testing.T, c api.Boot) *Kern {
	t.Helper()
	k, e := New(c)
	if k == nil || e != api.OK {
		t.Fatalf("New(%+v) = %v, %v", c, k, e)
	}
	return k
}

func refused(t *testing.T, c api.Boot) {
	t.Helper()
	if k, e := New(c); k != nil || e != api.ErrArg {
		t.Errorf("New(%+v) = %v, %v, want ErrArg", c, k, e)
	}
}

// same is true of two answers of which nothing tells the difference: an empty list is none.
func same(a, b api.Answer) bool {
	return a.E == b.E && a.N == b.N && bytes.Equal(a.B, b.B)
}

func does(t *testing.T, k *Kern, env int, c api.Call, want api.Answer) {
	t.Helper()
	if a := k.Do(env, c); !same(a, want) {
		t.Errorf("Do(%d, %+v) = %+v, want %+v", env, c, a, want)
	}
}

func put(t *testing.T, k *Kern, env int, c api.Cap) int {
	t.Helper()
	name, e := k.Space().Put(env, c)
	if e != api.OK {
		t.Fatalf("Put(%d, %+v): %v", env, c, e)
	}
	return name
}

// Promise 8.2: the chapter's example.
func TestExample(t *testing.T) {
	does(t, starts(t, boot()), 0, api.Call{Op: api.KNow}, is(0))
}

// Promise 8.2: a call's Op is told by the numbers of the chapter.
func TestNumbers(t *testing.T) {
	if got := [...]int{api.KRead, api.KWrite, api.KCopy, api.KGrant, api.KRevoke, api.KAlloc, api.KFree, api.KEnter, api.KLeave, api.KNow}; got != [...]int{1, 2, 3, 4, 5, 6, 7, 8, 9, 10} {
		t.Error(got)
	}
}

// Promise 8.1: how many there may be of everything.
func TestCounts(t *testing.T) {
	for n := range 50 {
		for _, x := range []struct {
			least, most int
			turn        func(c *api.Boot)
		}{
			{1, 4, func(c *api.Boot) { c.Frames = make([]int, n); c.Envs, c.Sects, c.Shared = nil, nil, nil }},
			{0, 40, func(c *api.Boot) { c.Envs = make([]int, n) }},
			{0, 40, func(c *api.Boot) { c.Envs = make([]int, n); c.Sects, c.Shared = nil, nil }},
			{0, 8, func(c *api.Boot) { c.Sects = make([][]int, n) }},
			{0, 16, func(c *api.Boot) { c.Shared = make([]api.Share, n) }},
			{0, math.MaxInt, func(c *api.Boot) { c.Sects[0] = make([]int, n) }},
			{0, math.MaxInt, func(c *api.Boot) { c.Shared[0].To = make([]int, n) }},
		} {
			c := boot()
			x.turn(&c)
			if n < x.least || n > x.most {
				refused(t, c)
			} else {
				starts(t, c)
			}
		}
	}
	c := boot()
	c.Frames = nil
	refused(t, c)
	refused(t, api.Boot{Lease: 1})
	starts(t, api.Boot{Lease: 1, Frames: []int{0}})
	starts(t, api.Boot{Lease: 1, Frames: []int{-7, 99, 64, 65}})
}

// Promise 8.1: Lease is 1 to 1,000.
func TestLease(t *testing.T) {
	for _, n := range wild {
		c := boot()
		c.Lease = n
		if n < 1 || n > 1000 {
			refused(t, c)
		} else {
			starts(t, c)
		}
	}
}

// Promise 8.1: no session is named that is none, wherever one is named.
func TestSessionsNamed(t *testing.T) {
	for _, n := range wild {
		for _, turn := range []func(c *api.Boot){
			func(c *api.Boot) { c.Envs[0] = n },
			func(c *api.Boot) { c.Envs[4] = n },
			func(c *api.Boot) { c.Sects[0][0] = n },
			func(c *api.Boot) { c.Sects[3][1] = n },
			func(c *api.Boot) { c.Sects[1] = []int{0, 1, n, 2} },
			func(c *api.Boot) { c.Shared[0].To[0] = n },
			func(c *api.Boot) { c.Shared[1].To[2] = n },
			func(c *api.Boot) { c.Shared[3].To = []int{0, 0, 1, n} },
			func(c *api.Boot) { c.Shared[3].Session, c.Shared[3].Frame, c.Shared[3].Lo, c.Shared[3].N = n, 0, 0, 0 },
		} {
			c := boot()
			turn(&c)
			if n < 0 || n > 2 {
				refused(t, c)
			} else {
				starts(t, c)
			}
		}
	}
}

// isPart is the chapter's sentence of a Share's bytes, byte by byte: of a session of so many frames.
func isPart(frames, frame, lo, n int) bool {
	if frame < 0 || lo < 0 || n < 0 {
		return false
	}
	end := 64 * (min(max(frames, 0), 64) - frame)
	for i := lo; i < lo+n; i++ {
		if i >= end {
			return false
		}
	}
	return lo <= end
}

// Promise 8.1: a Share's bytes are all of its session's frames from Frame on, whatever other sessions have.
func TestShareBounds(t *testing.T) {
	near := []int{-1, 0, 1, 2, 3, 4, 5, 61, 62, 63, 64, 65, 66, 127, 128, 129, 192, 193}
	for session, frames := range []int{2, 0, 3, -1} {
		for frame := -2; frame < 6; frame++ {
			for _, lo := range near {
				for _, n := range near {
					c := api.Boot{Frames: []int{2, 0, 3, -1}, Envs: []int{session}, Lease: 1, Shared: []api.Share{{Session: 0, N: 7}, {Session: session, Frame: frame, Lo: lo, N: n, To: []int{session}}}}
					if isPart(frames, frame, lo, n) {
						starts(t, c)
					} else {
						refused(t, c)
					}
				}
			}
		}
	}
	for _, x := range []struct {
		frame, lo, n int
		ok           bool
	}{
		{0, 0, 4096, true}, {0, 0, 4097, false}, {63, 0, 64, true}, {63, 1, 64, false}, {63, 64, 0, true}, {63, 65, 0, false}, {64, 0, 0, true}, {64, 0, 1, false}, {64, 1, 0, false}, {65, 0, 0, false}, {98, 0, 64, false}, {99, 0, 0, false},
	} {
		c := api.Boot{Frames: []int{1, 99, 64, 1}, Lease: 1, Shared: []api.Share{{Session: 1, Frame: x.frame, Lo: x.lo, N: x.n}}}
		again := api.Boot{Frames: c.Frames, Lease: 1, Shared: []api.Share{{Session: 2, Frame: x.frame, Lo: x.lo, N: x.n}}}
		if x.ok {
			starts(t, c)
			starts(t, again)
		} else {
			refused(t, c)
			refused(t, again)
		}
	}
}

// Promise 8.1: numbers that wrap round together are no bytes of a session.
func TestShareWild(t *testing.T) {
	ok := 0
	for _, frame := range wild {
		for _, lo := range wild {
			for _, n := range wild {
				c := api.Boot{Frames: []int{3, 3}, Envs: []int{0}, Lease: 1, Shared: []api.Share{{Session: 0, Frame: frame, Lo: lo, N: n}}}
				// Above a session's bytes each of the three alone is too much.
				want := frame < 1<<20 && lo < 1<<20 && n < 1<<20 && isPart(3, frame, lo, n)
				k, e := New(c)
				if want != (e == api.OK) || want != (k != nil) || !want && e != api.ErrArg {
					t.Errorf("Share %d, %d, %d: %v", frame, lo, n, e)
				}
				if want {
					ok++
				}
			}
		}
	}
	if ok < 100 {
		t.Errorf("just %d were taken", ok)
	}
}

// Promise 8.1: one wrong thing is enough, at the end of a list too.
func TestOneIsWrong(t *testing.T) {
	c := boot()
	c.Shared = slices.Repeat([]api.Share{{N: 5, To: []int{0}}}, 16)
	starts(t, c)
	for i := range c.Shared {
		for _, wrong := range []api.Share{{Session: 3}, {Session: -1}, {Frame: -1}, {Lo: -1}, {N: -1}, {Frame: 4}, {Lo: 193}, {N: 193}, {To: []int{3}}} {
			was := c.Shared[i]
			c.Shared[i] = wrong
			refused(t, c)
			c.Shared[i] = was
		}
	}
}

// raw is all bytes of a region.
func raw(t *testing.T, k *Kern, obj int) []byte {
	t.Helper()
	b, e := k.Regions().Raw(obj)
	if e != api.OK {
		t.Fatalf("Raw(%d): %v", obj, e)
	}
	return b
}

// Promise 8.1: each Share is a region, in order, over the frames of its session as quota numbers them: those of the sessions ahead come first, each counted as quota counts it.
func TestRegions(t *testing.T) {
	frames := []int{3, -5, 99, 2}
	begins := []int{0, 3 * 64, 3 * 64, 67 * 64}
	c := api.Boot{Frames: frames, Envs: []int{0}, Lease: 1}
	for _, x := range []api.Share{{Session: 3, N: 128}, {Session: 0, N: 192}, {Session: 1}, {Session: 2, N: 4096}} {
		x.To = []int{0}
		c.Shared = append(c.Shared, x)
	}
	parts := []api.Share{{Session: 0, Frame: 1, Lo: 3, N: 70}, {Session: 3, Frame: 1, Lo: 60, N: 4}, {Session: 2, Frame: 0, Lo: 4000, N: 96}, {Session: 2, Frame: 63, Lo: 1, N: 5}, {Session: 3, Frame: 0, Lo: 128}, {Session: 0, Frame: 2, Lo: 64}}
	c.Shared = append(c.Shared, parts...)
	k := starts(t, c)
	if k.Regions().Len() != len(c.Shared) {
		t.Errorf("there are %d regions", k.Regions().Len())
	}
	// All bytes of all sessions, each written once, through the regions that are a session whole.
	all := make([]byte, 69*64)
	rand.New(rand.NewSource(1)).Read(all)
	for i, s := range c.Shared[:4] {
		does(t, k, 0, write(256+i, 0, all[begins[s.Session]:begins[s.Session]+s.N]...), api.Answer{})
	}
	for obj, s := range c.Shared {
		lo := begins[s.Session] + 64*s.Frame + s.Lo
		if b := raw(t, k, obj); !bytes.Equal(b, all[lo:lo+s.N]) {
			t.Errorf("region %d, %+v: % x, want % x", obj, s, b, all[lo:lo+s.N])
		}
	}
}

// Promise 8.1: a kernel's bytes are 0 at first, and there are those of its sessions' frames and no others.
func TestBytesAtFirst(t *testing.T) {
	for _, x := range []struct {
		frames []int
		bytes  int
	}{{[]int{0}, 0}, {[]int{1}, 64}, {[]int{3, -5, 99, 2}, 69 * 64}, {[]int{64, 64, 64, 64}, 256 * 64}, {[]int{100, 100, 100, 100}, 256 * 64}} {
		k := starts(t, api.Boot{Frames: x.frames, Envs: []int{0}, Lease: 1})
		if _, e := k.Regions().Add(0, x.bytes+1); e != api.ErrArg {
			t.Errorf("%v: more than %d bytes: %v", x.frames, x.bytes, e)
		}
		if obj, e := k.Regions().Add(0, x.bytes); obj != 0 || e != api.OK {
			t.Errorf("%v: %d bytes: %v", x.frames, x.bytes, e)
		}
		if b := raw(t, k, 0); !bytes.Equal(b, make([]byte, x.bytes)) {
			t.Errorf("%v: % x", x.frames, b)
		}
	}
}

// Promise 8.1: each environment has a Cap of each Share of whose To its session is one, in order, by RRead and RWrite, and no other.
func TestCaps(t *testing.T) {
	k := starts(t, boot())
	ofZero := []api.Cap{{Obj: 0, Rights: 3, N: 20}, {Obj: 1, Rights: 3, N: 128}}
	ofOne := []api.Cap{{Obj: 3, Rights: 3, N: 40}}
	ofTwo := []api.Cap{{Obj: 1, Rights: 3, N: 128}}
	for env, want := range [][]api.Cap{ofZero, ofTwo, ofZero, ofTwo, ofOne} {
		names := k.Space().Names(env)
		if len(names) != len(want) {
			t.Errorf("environment %d has %v", env, names)
			continue
		}
		for i, name := range names {
			if c, e := k.Space().Get(env, name); name != 256+i || c != want[i] || e != api.OK {
				t.Errorf("environment %d: %d is %+v, %v, want %+v", env, name, c, e, want[i])
			}
		}
	}
	if _, e := k.Space().Put(5, api.Cap{}); e != api.ErrArg {
		t.Error("there is an environment 5:", e)
	}
}

// Promise 8.1: of 16 Shares each of 40 environments has 16 Caps, and as many places free.
func TestMostCaps(t *testing.T) {
	c := api.Boot{Frames: []int{64, 64, 64, 64}, Envs: make([]int, 40), Lease: 1}
	for i := range 16 {
		c.Shared = append(c.Shared, api.Share{Session: i % 4, N: 4096, To: []int{3, 2, 1, 0}})
	}
	for i := range c.Envs {
		c.Envs[i] = i % 4
	}
	k := starts(t, c)
	for env := range c.Envs {
		for i := range 16 {
			if c, e := k.Space().Get(env, 256+i); c != (api.Cap{Obj: i, Rights: 3, N: 4096}) || e != api.OK {
				t.Errorf("environment %d: %d is %+v, %v", env, 256+i, c, e)
			}
		}
		if n := len(k.Space().Names(env)); n != 16 {
			t.Errorf("environment %d has %d", env, n)
		}
	}
}

// Promise 8.2: ErrArg of no environment, whatever is asked; then ErrOp of no Op, whatever else is told; neither changes anything.
func TestNoneOfThem(t *testing.T) {
	k := starts(t, boot())
	for _, env := range wild {
		if env >= 0 && env < 5 {
			continue
		}
		for _, op := range wild {
			does(t, k, env, api.Call{Op: op, Cap: 256, N: 1, B: []byte{1}}, fails(api.ErrArg))
		}
		if s, ok := k.Session(env); s != 0 || ok {
			t.Errorf("Session(%d) = %d, %v", env, s, ok)
		}
	}
	for _, op := range wild {
		if op >= 1 && op <= 10 {
			continue
		}
		for env := range 5 {
			does(t, k, env, api.Call{Op: op, Cap: 256, N: 1, B: []byte{1}}, fails(api.ErrOp))
		}
	}
	if _, _, _, ok := k.Sect(1).Holder(); ok || len(k.Sect(1).Queue()) != 0 || !bytes.Equal(raw(t, k, 2), make([]byte, 192)) {
		t.Error("something was done")
	}
	none := starts(t, api.Boot{Frames: []int{1}, Lease: 1})
	does(t, none, 0, aNow(), fails(api.ErrArg))
}

// Promise 8.2: a call's fields that its Op does not name mean nothing.
func TestFieldsPassedOver(t *testing.T) {
	for _, x := range []struct {
		c     api.Call
		named string
	}{
		{read(256, 1, 3), "Cap At N"}, {write(256, 2, 7, 8), "Cap At B"}, {copies(256, 1, 257, 9, 5), "Cap At To On N"}, {grant(258, 1, 1, 2, 3), "Cap To On At N"}, {revoke(257), "Cap"}, {alloc(), ""}, {free(0), "N"}, {enter(0), "N"}, {leave(1, 1), "N At"}, {aNow(), ""},
	} {
		k := starts(t, boot())
		put(t, k, 0, api.Cap{Obj: 2, Rights: 7, N: 60})
		does(t, k, 0, write(256, 0, 1, 2, 3, 4, 5, 6), api.Answer{})
		does(t, k, 0, alloc(), is(0))
		does(t, k, 0, enter(1), is(1))
		k.Tick(3)
		like := starts(t, boot())
		put(t, like, 0, api.Cap{Obj: 2, Rights: 7, N: 60})
		like.Do(0, write(256, 0, 1, 2, 3, 4, 5, 6))
		like.Do(0, alloc())
		like.Do(0, enter(1))
		like.Tick(3)

		c := x.c
		for field, p := range map[string]*int{"Cap": &c.Cap, "At": &c.At, "N": &c.N, "To": &c.To, "On": &c.On} {
			if !slices.Contains(strings.Fields(x.named), field) {
				*p = -77
			}
		}
		if !slices.Contains(strings.Fields(x.named), "B") {
			c.B = []byte{77}
		}
		a := k.Do(0, c)
		if want := like.Do(0, x.c); !same(a, want) || a.E != api.OK {
			t.Errorf("Do(0, %+v) = %+v, want %+v", c, a, want)
		}
		if got, want := told(k), told(like); got != want {
			t.Errorf("behind Do(0, %+v):\n%s\nwant\n%s", c, got, want)
		}
	}
}

// told is all that may be seen of a kernel without changing it.
func told(k *Kern) string {
	var out strings.Builder
	fmt.Fprintln(&out, k.Now())
	for obj := range k.Regions().Len() {
		b, _ := k.Regions().Raw(obj)
		fmt.Fprintf(&out, "%x\n", b)
	}
	for env := range 6 {
		s, ok := k.Session(env)
		fmt.Fprint(&out, s, ok)
		for _, name := range k.Space().Names(env) {
			c, _ := k.Space().Get(env, name)
			fmt.Fprint(&out, " ", name, c)
		}
		out.WriteByte('\n')
	}
	for n := range 5 {
		if x := k.Sect(n); x != nil {
			fmt.Fprintln(&out, x)
		}
	}
	for s := range 4 {
		for f := range 64 {
			if k.quota.Owns(s, f) {
				fmt.Fprint(&out, " ", s, f)
			}
		}
	}
	return out.String()
}

// Promise 8.2: KRead, KWrite and KCopy are what regions do, by the environment's own Caps.
func TestBytes(t *testing.T) {
	k := starts(t, boot())
	ro := put(t, k, 0, api.Cap{Obj: 2, Rights: api.RRead, Lo: 60, N: 20})
	wo := put(t, k, 0, api.Cap{Obj: 2, Rights: api.RWrite, Lo: 100, N: 20})
	for _, x := range []struct {
		env  int
		c    api.Call
		want api.Answer
	}{
		{0, write(256, 2, 1, 2, 3), api.Answer{}},
		{0, read(256, 1, 5), has(0, 1, 2, 3, 0)},
		{2, read(256, 1, 5), has(0, 1, 2, 3, 0)},
		{0, read(ro, 10, 4), has(1, 2, 3, 0)},
		{1, read(256, 1, 5), has(0, 0, 0, 0, 0)},
		{0, read(256, 20, 0), has()}, {0, read(256, 0, 0), has()}, {0, write(256, 20), api.Answer{}},
		{0, read(256, 21, 0), fails(api.ErrArg)}, {0, read(256, 0, 21), fails(api.ErrArg)}, {0, read(256, -1, 2), fails(api.ErrArg)}, {0, read(256, 0, -1), fails(api.ErrArg)}, {0, read(0, 0, 1), fails(api.ErrCap)}, {0, read(wo, 0, 1), fails(api.ErrRight)}, {1, read(257, 0, 1), fails(api.ErrCap)}, {4, read(257, 0, 1), fails(api.ErrCap)},
		{0, write(256, 20, 1), fails(api.ErrArg)}, {0, write(256, 18, 1, 2, 3), fails(api.ErrArg)}, {0, write(256, -1, 1), fails(api.ErrArg)}, {0, write(9, 0, 1), fails(api.ErrCap)}, {0, write(ro, 0, 1), fails(api.ErrRight)}, {1, write(257, 0, 1), fails(api.ErrCap)},
		{0, copies(256, 2, 257, 125, 3), api.Answer{}},
		{3, read(256, 123, 5), has(0, 0, 1, 2, 3)},
		{3, copies(256, 124, 256, 125, 3), api.Answer{}},
		{1, read(256, 123, 5), has(0, 0, 0, 1, 2)},
		{0, copies(ro, 10, wo, 0, 2), api.Answer{}},
		{0, copies(256, 0, 9, 0, 1), fails(api.ErrCap)}, {0, copies(9, 0, 256, 0, 1), fails(api.ErrCap)}, {0, copies(wo, 0, ro, 0, 1), fails(api.ErrRight)}, {0, copies(ro, 0, ro, 0, 1), fails(api.ErrRight)}, {0, copies(256, 0, 257, 126, 3), fails(api.ErrArg)}, {0, copies(256, 18, 257, 0, 3), fails(api.ErrArg)}, {1, copies(256, 0, 257, 0, 1), fails(api.ErrCap)},
		{1, read(256, 100, 28), has(slices.Concat(make([]byte, 26), []byte{1, 2})...)},
	} {
		does(t, k, x.env, x.c, x.want)
	}
	want := make([]byte, 192)
	copy(want[70:], []byte{1, 2, 3})
	copy(want[100:], []byte{1, 2})
	if b := raw(t, k, 2); !bytes.Equal(b, want) {
		t.Errorf("session 0 has % x, want % x", b, want)
	}
}

// Promise 8.2: KGrant is told To, On and the range At, N, and answers the name in To's Table; KRevoke answers how many are gone.
func TestRights(t *testing.T) {
	k := starts(t, boot())
	top := put(t, k, 0, api.Cap{Obj: 1, Rights: 7, Lo: 10, N: 50})
	does(t, k, 0, grant(256, 1, 1, 0, 5), fails(api.ErrRight))
	does(t, k, 1, grant(256, 1, 0, 0, 0), fails(api.ErrRight))
	does(t, k, 1, grant(258, 1, 1, 0, 5), fails(api.ErrCap))
	does(t, k, 0, grant(top, 5, 1, 0, 5), fails(api.ErrArg))
	does(t, k, 0, grant(top, -1, 1, 0, 5), fails(api.ErrArg))
	does(t, k, 0, grant(top, 4, 1, 46, 5), fails(api.ErrArg))
	does(t, k, 0, grant(top, 4, 8, 0, 5), fails(api.ErrRight))
	does(t, k, 0, grant(top, 4, 5, 20, 9), is(257))
	if c, e := k.Space().Get(4, 257); c != (api.Cap{Obj: 1, Rights: 5, Lo: 30, N: 9, Root: api.Ref{Env: 0, Name: top}}) || e != api.OK {
		t.Errorf("granted: %+v, %v", c, e)
	}
	does(t, k, 4, grant(257, 2, 1, 3, 2), is(258))
	does(t, k, 4, grant(257, 2, 2, 3, 2), fails(api.ErrRight))
	does(t, k, 1, write(256, 30, 9, 8, 7, 6, 5), api.Answer{})
	does(t, k, 4, read(257, 0, 5), has(9, 8, 7, 6, 5))
	does(t, k, 2, read(258, 0, 2), has(6, 5))
	does(t, k, 4, write(257, 0, 1), fails(api.ErrRight))
	does(t, k, 4, revoke(top), fails(api.ErrCap))
	does(t, k, 0, revoke(top), is(3))
	does(t, k, 0, revoke(top), fails(api.ErrCap))
	does(t, k, 4, read(257, 0, 1), fails(api.ErrCap))
	does(t, k, 2, read(258, 0, 1), fails(api.ErrCap))
	does(t, k, 0, revoke(256), is(1))
	does(t, k, 0, read(256, 0, 1), fails(api.ErrCap))
	does(t, k, 2, read(256, 0, 1), has(0))
	full := put(t, k, 0, api.Cap{Obj: 1, Rights: 7})
	for i := range 31 {
		does(t, k, 0, grant(full, 1, 0, 0, 0), is(257+i))
	}
	does(t, k, 0, grant(full, 1, 0, 0, 0), fails(api.ErrFull))
}

// Promise 8.2: KAlloc and KFree are of the environment's session, by numbers of its own; those of a Share do not count as used.
func TestFrames(t *testing.T) {
	k := starts(t, boot())
	for _, x := range []struct {
		env  int
		c    api.Call
		want api.Answer
	}{
		{0, free(0), fails(api.ErrNone)}, {0, free(1), fails(api.ErrNone)},
		{0, alloc(), is(0)}, {2, alloc(), is(1)}, {1, alloc(), is(0)}, {0, alloc(), is(2)},
		{0, alloc(), fails(api.ErrFull)}, {2, alloc(), fails(api.ErrFull)}, {4, alloc(), fails(api.ErrFull)},
		{3, alloc(), is(1)}, {1, alloc(), fails(api.ErrFull)},
		{4, free(0), fails(api.ErrNone)}, {0, free(3), fails(api.ErrNone)}, {0, free(-1), fails(api.ErrNone)}, {3, free(2), fails(api.ErrNone)},
		{2, free(0), api.Answer{}}, {2, free(0), fails(api.ErrNone)}, {0, free(2), api.Answer{}}, {1, free(1), api.Answer{}},
		{2, alloc(), is(0)}, {0, alloc(), is(2)}, {0, alloc(), fails(api.ErrFull)}, {3, alloc(), is(1)}, {3, alloc(), fails(api.ErrFull)},
	} {
		does(t, k, x.env, x.c, x.want)
	}
	if b := raw(t, k, 2); !bytes.Equal(b, make([]byte, 192)) {
		t.Errorf("bytes: % x", b)
	}
}

// Promise 8.2: KAlloc and KFree leave a session's bytes as they are.
func TestFramesKeepBytes(t *testing.T) {
	k := starts(t, boot())
	does(t, k, 1, write(256, 0, bytes.Repeat([]byte{0xee}, 128)...), api.Answer{})
	for range 2 {
		k.Do(1, alloc())
	}
	for f := range 2 {
		does(t, k, 1, free(f), api.Answer{})
	}
	does(t, k, 1, read(256, 0, 128), has(bytes.Repeat([]byte{0xee}, 128)...))
}

// Promise 8.2: ErrSect of no Sect, and of one that the environment's session may not enter; a Sect's who is the environment.
func TestSects(t *testing.T) {
	k := starts(t, boot())
	may := [][]int{{0, 2}, {0, 1, 2, 3}, {}, {1, 3, 4}}
	for _, n := range wild {
		for env := range 5 {
			if n < 0 || n > 3 || !slices.Contains(may[n], env) {
				does(t, k, env, enter(n), fails(api.ErrSect))
				does(t, k, env, leave(n, 0), fails(api.ErrSect))
				does(t, k, env, leave(n, 1), fails(api.ErrSect))
			}
		}
		if n < 0 || n > 3 {
			if k.Sect(n) != nil {
				t.Errorf("there is a Sect %d", n)
			}
		} else if _, _, _, ok := k.Sect(n).Holder(); ok || len(k.Sect(n).Queue()) != 0 {
			t.Errorf("something was done to Sect %d", n)
		}
	}
	k.Tick(7)
	does(t, k, 2, enter(1), is(1))
	does(t, k, 2, enter(1), is(1))
	does(t, k, 3, enter(1), is(0))
	does(t, k, 0, enter(1), is(0))
	does(t, k, 0, enter(0), is(1))
	does(t, k, 4, enter(3), is(1))
	if who, stamp, since, ok := k.Sect(1).Holder(); who != 2 || stamp != 1 || since != 7 || !ok || !slices.Equal(k.Sect(1).Queue(), []int{3, 0}) {
		t.Error(who, stamp, since, ok, k.Sect(1).Queue())
	}
	does(t, k, 3, leave(1, 1), fails(api.ErrSect))
	does(t, k, 2, leave(1, 2), fails(api.ErrSect))
	does(t, k, 2, leave(1, 0), fails(api.ErrSect))
	does(t, k, 2, leave(0, 1), fails(api.ErrSect))
	does(t, k, 2, leave(1, 1), api.Answer{})
	does(t, k, 2, leave(1, 1), fails(api.ErrSect))
	does(t, k, 0, enter(1), is(0))
	does(t, k, 3, enter(1), is(2))
	does(t, k, 3, leave(1, 2), api.Answer{})
	does(t, k, 0, leave(0, 1), api.Answer{})
	does(t, k, 4, leave(3, 1), api.Answer{})
	for n := range 4 {
		if _, _, _, ok := k.Sect(n).Holder(); ok {
			t.Errorf("Sect %d is held", n)
		}
	}
}

// Promise 8.2: who may not enter a Sect may not leave it by a call either, though it was let in by the Sect itself.
func TestMayNotLeave(t *testing.T) {
	k := starts(t, boot())
	if stamp, ok := k.Sect(0).Enter(1, 0); stamp != 1 || !ok {
		t.Fatal(stamp, ok)
	}
	does(t, k, 1, leave(0, 1), fails(api.ErrSect))
	if !k.Sect(0).Holds(1, 1) {
		t.Error("it holds no more")
	}
}

// Promise 8.1: each Sect has the Boot's lease, and is entered at the kernel's time.
func TestSectLease(t *testing.T) {
	for _, lease := range []int{1, 2, 5, 999, 1000} {
		c := boot()
		c.Lease = lease
		k := starts(t, c)
		k.Tick(3)
		for _, n := range []int{1, 3} {
			does(t, k, 1, enter(n), is(1))
			does(t, k, 3, enter(n), is(0))
		}
		k.Tick(lease - 1)
		for _, n := range []int{1, 3} {
			does(t, k, 3, enter(n), is(0))
		}
		k.Tick(1)
		for _, n := range []int{1, 3} {
			does(t, k, 3, enter(n), is(2))
			does(t, k, 1, leave(n, 1), fails(api.ErrSect))
		}
	}
}

// Promise 8.2: Tick is 0 to 1,000, and time is at most 2^30; Now and KNow tell it, of whatever environment.
func TestTick(t *testing.T) {
	k := starts(t, boot())
	if k.Now() != 0 {
		t.Error("now is", k.Now())
	}
	want := 0
	for _, n := range wild {
		want += min(max(n, 0), 1000)
		if got := k.Tick(n); got != want || k.Now() != want {
			t.Errorf("Tick(%d) = %d, now %d, want %d", n, got, k.Now(), want)
		}
		for env := range 5 {
			does(t, k, env, aNow(), is(want))
		}
	}
	for k.Now() < 1<<30-1000 {
		k.Tick(1000)
	}
	for _, n := range []int{0, math.MaxInt, 5, 1000, 0, -1, 1000} {
		want := min(k.Now()+min(max(n, 0), 1000), 1<<30)
		if got := k.Tick(n); got != want || k.Now() != want {
			t.Errorf("Tick(%d) = %d, now %d, want %d", n, got, k.Now(), want)
		}
	}
	does(t, k, 0, aNow(), is(1<<30))
}

// Promise 8.1: Session tells the session of each environment, in order.
func TestSession(t *testing.T) {
	c := boot()
	k := starts(t, c)
	for env, want := range []int{0, 2, 0, 2, 1} {
		if s, ok := k.Session(env); s != want || !ok {
			t.Errorf("Session(%d) = %d, %v", env, s, ok)
		}
	}
}

// DOC.md, rule 3: Sect, Regions and Space are the kernel's own.
func TestOwn(t *testing.T) {
	k := starts(t, boot())
	if k.Regions() != k.Regions() || k.Space() != k.Space() || k.Sect(1) != k.Sect(1) || k.Sect(0) == k.Sect(1) {
		t.Error("they are not the same each time")
	}
	if stamp, ok := k.Sect(3).Enter(4, 2); stamp != 1 || !ok {
		t.Error(stamp, ok)
	}
	does(t, k, 1, enter(3), is(0))
	k.Sect(3).Leave(4, 1)
	does(t, k, 1, enter(3), is(2))
	obj, e := k.Regions().Add(2*64, 3)
	if obj != 4 || e != api.OK {
		t.Error(obj, e)
	}
	name := put(t, k, 4, api.Cap{Obj: obj, Rights: 3, N: 3})
	does(t, k, 4, write(name, 0, 1, 2, 3), api.Answer{})
	if b := raw(t, k, 2); !bytes.Equal(b[127:132], []byte{0, 1, 2, 3, 0}) {
		t.Error(b)
	}
	if n, e := k.Space().Revoke(4, name); n != 1 || e != api.OK {
		t.Error(n, e)
	}
	does(t, k, 4, read(name, 0, 1), fails(api.ErrCap))
}

// spare is a list with room behind it that no call may touch.
func spare[T any](l []T, behind T) []T {
	return append(slices.Clone(l), behind, behind)[:len(l)]
}

// DOC.md, rule 3: a Boot is neither changed nor kept.
func TestBootHandedIn(t *testing.T) {
	handed := func() api.Boot {
		c := boot()
		c.Frames, c.Envs, c.Sects, c.Shared = spare(c.Frames, 77), spare(c.Envs, 77), spare(c.Sects, []int{77}), spare(c.Shared, api.Share{N: 77})
		for i := range c.Sects {
			c.Sects[i] = spare(c.Sects[i], 77)
		}
		for i := range c.Shared {
			c.Shared[i].To = spare(c.Shared[i].To, 77)
		}
		return c
	}
	whole := func(c api.Boot) api.Boot {
		c.Frames, c.Envs, c.Sects, c.Shared = c.Frames[:len(c.Frames)+2], c.Envs[:len(c.Envs)+2], c.Sects[:len(c.Sects)+2], c.Shared[:len(c.Shared)+2]
		for i := range c.Sects[:4] {
			c.Sects[i] = c.Sects[i][:len(c.Sects[i])+2]
		}
		for i := range c.Shared[:4] {
			c.Shared[i].To = c.Shared[i].To[:len(c.Shared[i].To)+2]
		}
		return c
	}
	c := handed()
	k, like := starts(t, c), starts(t, boot())
	if got := whole(c); !reflect.DeepEqual(got, whole(handed())) {
		t.Errorf("changed: %+v", got)
	}
	for i := range c.Frames {
		c.Frames[i] = 0
	}
	for i := range c.Envs {
		c.Envs[i] = 1
	}
	for i := range c.Sects {
		for j := range c.Sects[i] {
			c.Sects[i][j] = 1
		}
		c.Sects[i] = nil
	}
	for i := range c.Shared {
		c.Shared[i] = api.Share{}
	}
	if told(k) != told(like) {
		t.Error("behind a change of the Boot:\n", told(k))
	}
	for env := range 5 {
		for n := range 4 {
			does(t, k, env, enter(n), like.Do(env, enter(n)))
		}
		does(t, k, env, alloc(), like.Do(env, alloc()))
	}
}

// DOC.md, rule 3: what is written is neither changed nor kept, and what is read is new memory, its spare room too.
func TestBytesHandedIn(t *testing.T) {
	k := starts(t, boot())
	b := []byte{1, 2, 3, 4, 5, 6}
	does(t, k, 0, api.Call{Op: 2, Cap: 256, B: b[1:3]}, api.Answer{})
	for op := range 12 {
		if op != 2 {
			k.Do(0, api.Call{Op: op, Cap: 256, B: b[1:3]})
		}
	}
	if !slices.Equal(b, []byte{1, 2, 3, 4, 5, 6}) {
		t.Error("changed:", b)
	}
	k = starts(t, boot())
	does(t, k, 0, api.Call{Op: 2, Cap: 256, B: b}, api.Answer{})
	clear(b)
	a := k.Do(0, read(256, 0, 6))
	if !slices.Equal(a.B, []byte{1, 2, 3, 4, 5, 6}) {
		t.Error("kept:", a.B)
	}
	l := a.B[:cap(a.B)]
	for i := range l {
		l[i] = 0xff
	}
	does(t, k, 0, read(256, 0, 8), has(1, 2, 3, 4, 5, 6, 0, 0))
}

// model is a kernel as the chapter tells it: what each Op is of the layers below, beside its own account of sessions.
type model struct {
	now    int
	envs   []int
	may    [][]int
	space  *caps.Space
	r      *region.Regions
	frames *quota.Quota
	sects  []*sect.Sect
}

// newModel is the model of boot().
func newModel(t *testing.T) *model {
	t.Helper()
	m := &model{envs: []int{0, 2, 0, 2, 1}, may: [][]int{{0}, {0, 2}, {}, {1, 2}}, space: caps.New(5), frames: quota.New(3, 0, 2)}
	m.r = region.New(mem.New(5), m.space)
	for range 4 {
		m.sects = append(m.sects, sect.New(5))
	}
	for _, x := range [][2]int{{68, 20}, {192, 128}, {0, 192}, {266, 40}} {
		if _, e := m.r.Add(x[0], x[1]); e != api.OK {
			t.Fatal(e)
		}
	}
	for _, x := range [][3]int{{0, 0, 20}, {0, 1, 128}, {1, 1, 128}, {2, 0, 20}, {2, 1, 128}, {3, 1, 128}, {4, 3, 40}} {
		if _, e := m.space.Put(x[0], api.Cap{Obj: x[1], Rights: api.RRead | api.RWrite, N: x[2]}); e != api.OK {
			t.Fatal(e)
		}
	}
	return m
}

func (m *model) do(env int, c api.Call) (a api.Answer) {
	if env < 0 || env > 4 {
		return fails(api.ErrArg)
	}
	switch c.Op {
	case 1:
		a.B, a.E = m.r.Read(env, c.Cap, c.At, c.N)
	case 2:
		a.E = m.r.Write(env, c.Cap, c.At, c.B)
	case 3:
		a.E = m.r.Copy(env, c.Cap, c.At, c.To, c.On, c.N)
	case 4:
		a.N, a.E = m.space.Grant(env, c.Cap, c.To, c.On, c.At, c.N)
	case 5:
		a.N, a.E = m.space.Revoke(env, c.Cap)
	case 6:
		a.N, a.E = m.frames.Alloc(m.envs[env])
	case 7:
		a.E = m.frames.Free(m.envs[env], c.N)
	case 8, 9:
		if c.N < 0 || c.N > 3 || !slices.Contains(m.may[c.N], m.envs[env]) {
			a.E = api.ErrSect
		} else if c.Op == 8 {
			a.N, _ = m.sects[c.N].Enter(env, m.now)
		} else if !m.sects[c.N].Leave(env, c.At) {
			a.E = api.ErrSect
		}
	case 10:
		a.N = m.now
	default:
		a.E = api.ErrOp
	}
	return a
}

// anyCall is a call that goes well often enough, of an environment of a kernel like that of boot().
func anyCall(r *rand.Rand, k *Kern, env int) api.Call {
	name := func(env int) int {
		l := k.Space().Names(env)
		if len(l) == 0 || r.Intn(12) == 0 {
			return 256*r.Intn(3) + r.Intn(6)
		}
		return l[r.Intn(len(l))]
	}
	b := make([]byte, r.Intn(5))
	r.Read(b)
	to := r.Intn(6)
	switch op := r.Intn(12); op {
	case 1:
		return read(name(env), r.Intn(22)-1, r.Intn(8)-1)
	case 2:
		return write(name(env), r.Intn(22)-1, b...)
	case 3:
		return copies(name(env), r.Intn(22)-1, name(env), r.Intn(22)-1, r.Intn(8)-1)
	case 4:
		return grant(name(env), to, r.Intn(9), r.Intn(9)-1, r.Intn(12)-1)
	case 5:
		if r.Intn(4) > 0 {
			return aNow()
		}
		return revoke(name(env))
	case 7:
		return free(r.Intn(5) - 1)
	case 8:
		return enter(r.Intn(6) - 1)
	case 9:
		n := r.Intn(6) - 1
		if x := k.Sect(n); x != nil {
			_, stamp, _, _ := x.Holder()
			return leave(n, stamp+r.Intn(8)/7)
		}
		return leave(n, r.Intn(3))
	default:
		return api.Call{Op: op, Cap: r.Intn(300), B: b}
	}
}

// Promises 8.1 to 8.3: whatever is asked, all answers are the model's, and so is all that is there behind them.
func TestAgainstModel(t *testing.T) {
	went := map[int]int{}
	for seed := range int64(40) {
		r := rand.New(rand.NewSource(seed))
		k, m := starts(t, boot()), newModel(t)
		for step := range 1500 {
			if r.Intn(12) == 0 {
				n := r.Intn(5) - 1
				m.now += max(n, 0)
				if got := k.Tick(n); got != m.now {
					t.Fatalf("Tick(%d) = %d, want %d", n, got, m.now)
				}
			}
			// Without this, none has RGive.
			if r.Intn(20) == 0 {
				env, c := r.Intn(5), api.Cap{Obj: r.Intn(5), Rights: r.Intn(8), Lo: r.Intn(20), N: r.Intn(20)}
				k.Space().Put(env, c)
				m.space.Put(env, c)
			}
			env := r.Intn(6) - r.Intn(20)/19
			c := anyCall(r, k, env)
			got, want := k.Do(env, c), m.do(env, c)
			if !same(got, want) {
				t.Fatalf("seed %d, step %d: Do(%d, %+v) = %+v, want %+v", seed, step, env, c, got, want)
			}
			if got.E == api.OK {
				went[c.Op]++
			}
			if step%10 == 0 {
				like := &Kern{now: m.now, envs: m.envs, quota: m.frames, space: m.space, regions: m.r}
				for i, x := range m.sects {
					like.gates = append(like.gates, gate{sect: x, may: m.may[i]})
				}
				if told(k) != told(like) {
					t.Fatalf("seed %d, step %d:\n%s\nwant\n%s", seed, step, told(k), told(like))
				}
			}
		}
	}
	for op := 1; op <= 10; op++ {
		if went[op] < 100 {
			t.Errorf("just %d calls of Op %d went well: the test looks at little", went[op], op)
		}
	}
}

// Rule 8 of DOC.md: a call that answers an error has changed nothing.
func TestErrorsChangeNothing(t *testing.T) {
	seen := map[api.Errno]int{}
	for seed := range int64(10) {
		r := rand.New(rand.NewSource(100 + seed))
		k := starts(t, boot())
		for env := range 4 {
			put(t, k, env, api.Cap{Obj: env, Rights: env + 4, N: 20})
		}
		for step := range 600 {
			env := r.Intn(6)
			c := anyCall(r, k, env)
			before := told(k)
			a := k.Do(env, c)
			seen[a.E]++
			if a.E == api.OK {
				continue
			}
			if after := told(k); after != before {
				t.Fatalf("seed %d, step %d: Do(%d, %+v) = %v, and changed\n%s\nto\n%s", seed, step, env, c, a.E, before, after)
			}
			if a.N != 0 || len(a.B) != 0 {
				t.Fatalf("beside an error: %+v", a)
			}
		}
	}
	for _, e := range []api.Errno{api.ErrArg, api.ErrCap, api.ErrRight, api.ErrFull, api.ErrNone, api.ErrOp, api.ErrSect} {
		if seen[e] == 0 {
			t.Errorf("%v was not seen", e)
		}
	}
}

// apart is a Boot of two sessions that share nothing: environments 0 and 1 are of the first one, 2 and 3 of the other one.
func apart() api.Boot {
	return api.Boot{
		Frames: []int{3, 3},
		Envs:   []int{0, 0, 1, 1},
		Sects:  [][]int{{0}, {1}, {0}},
		Lease:  3,
		Shared: []api.Share{{Session: 0, N: 100, To: []int{0}}, {Session: 1, N: 192, To: []int{1}}, {Session: 0, Frame: 1, Lo: 36, N: 28, To: []int{0}}},
	}
}

// Promise 8.3 (W5): what one session is told is the same, whether another one that it shares nothing with asks for anything or not.
func TestApart(t *testing.T) {
	for seed := range int64(40) {
		r, other := rand.New(rand.NewSource(seed)), rand.New(rand.NewSource(-seed-1))
		k, alone := starts(t, apart()), starts(t, apart())
		// Each has all rights to its own.
		for _, x := range []*Kern{k, alone} {
			put(t, x, 1, api.Cap{Obj: 0, Rights: 7, Lo: 5, N: 50})
			put(t, x, 3, api.Cap{Obj: 1, Rights: 7, N: 192})
		}
		for step := range 500 {
			for range other.Intn(4) {
				env := 2 + other.Intn(2)
				c := anyCall(other, k, env)
				// To give to the first session is to join it.
				if c.Op == api.KGrant && c.To < 2 {
					c.To += 2
				}
				k.Do(env, c)
			}
			env := r.Intn(2)
			c := anyCall(r, alone, env)
			if c.Op == api.KGrant && (c.To == 2 || c.To == 3) {
				c.To -= 2
			}
			if got, want := k.Do(env, c), alone.Do(env, c); !same(got, want) {
				t.Fatalf("seed %d, step %d: Do(%d, %+v) = %+v, alone %+v", seed, step, env, c, got, want)
			}
			n := r.Intn(3) / 2
			if k.Tick(n) != alone.Tick(n) {
				t.Fatalf("seed %d, step %d: time differs", seed, step)
			}
		}
		for _, obj := range []int{0, 2} {
			if !bytes.Equal(raw(t, k, obj), raw(t, alone, obj)) {
				t.Fatalf("seed %d: region %d differs", seed, obj)
			}
		}
	}
}

// Promise 8.3 (W2): a session reaches no byte of which nobody gave it a right, by no Op and no numbers.
func TestNoRight(t *testing.T) {
	r := rand.New(rand.NewSource(3))
	pick := func() int {
		if r.Intn(2) == 0 {
			return r.Intn(260)
		}
		return wild[r.Intn(len(wild))]
	}
	k := starts(t, apart())
	secret := bytes.Repeat([]byte{0xa5}, 100)
	does(t, k, 0, write(256, 0, secret...), api.Answer{})
	does(t, k, 1, write(257, 0, bytes.Repeat([]byte{0xa5}, 28)...), api.Answer{})
	for range 200000 {
		c := api.Call{Op: r.Intn(12), Cap: pick(), At: pick(), N: pick(), To: pick(), On: pick(), B: make([]byte, r.Intn(200))}
		if r.Intn(2) == 0 {
			c.Cap = 256
		}
		if a := k.Do(2+r.Intn(2), c); bytes.Contains(a.B, []byte{0xa5}) {
			t.Fatalf("%+v answers %+v", c, a)
		}
	}
	if !bytes.Equal(raw(t, k, 0), secret) || !bytes.Equal(raw(t, k, 2), secret[:28]) {
		t.Error("the first session's bytes are changed")
	}
	for env := range 2 {
		if n := len(k.Space().Names(env)); n != 2 {
			t.Errorf("environment %d has %d names", env, n)
		}
	}
	if _, _, _, ok := k.Sect(0).Holder(); ok || len(k.Sect(0).Queue()) != 0 {
		t.Error("a Sect of the first session is touched")
	}
	does(t, k, 0, alloc(), is(0))
}

// Promise 8.4: no call panics, whatever it is given.
func TestNoPanic(t *testing.T) {
	r := rand.New(rand.NewSource(4))
	pick := func() int { return wild[r.Intn(len(wild))] }
	k := starts(t, boot())
	for env := range 5 {
		put(t, k, env, api.Cap{Obj: env, Rights: 7, Lo: 3 * env, N: 65536})
	}
	for range 200000 {
		c := api.Call{Op: r.Intn(13) - 1, Cap: pick(), At: pick(), N: pick(), To: pick(), On: pick()}
		if r.Intn(3) > 0 {
			c.Cap, c.To = 256+r.Intn(5), 256*r.Intn(2)+r.Intn(5)
		}
		if r.Intn(3) == 0 {
			c.B = make([]byte, r.Intn(300))
		}
		k.Do(r.Intn(7)-1, c)
		k.Do(pick(), c)
		k.Session(pick())
		k.Sect(pick())
		k.Tick(pick())
		k.Now()
	}
	for range 50000 {
		list := func() []int {
			l := make([]int, r.Intn(5))
			for i := range l {
				l[i] = r.Intn(5) - 1
				if r.Intn(8) == 0 {
					l[i] = pick()
				}
			}
			return l
		}
		c := api.Boot{Frames: list(), Envs: list(), Sects: [][]int{list(), list()}, Lease: pick(), Shared: []api.Share{{Session: r.Intn(4), Frame: pick(), Lo: pick(), N: pick(), To: list()}}}
		if k, e := New(c); (k == nil) != (e != api.OK) || e != api.OK && e != api.ErrArg {
			t.Fatalf("New(%+v) = %v, %v", c, k, e)
		}
	}
	if k, e := New(api.Boot{}); k != nil || e != api.ErrArg {
		t.Error(k, e)
	}
}
