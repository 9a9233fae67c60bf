package commons

import (
	"bytes"
	"fmt"
	"math"
	"math/rand"
	"slices"
	"testing"

	"commonage/api"
	"commonage/kern"
	"commonage/ofile"
	"commonage/pslot"
	"commonage/ring"
)

var wild = []int{math.MinInt, math.MinInt + 1, -1 << 62, -1 << 32, -65536, -256, -24, -5, -4, -3, -2, -1, 0, 1, 2, 3, 4, 5, 6, 7, 8, 9, 11, 12, 13, 20, 24, 35, 36, 40, 48, 255, 256, 257, 488, 492, 65535, 65536, 1 << 31, 1 << 32, 1<<32 + 4, 1<<61 + 1, 1 << 62, 1<<63 - 5, math.MaxInt - 1, math.MaxInt}

// boot is a Boot of two sessions with commons each and two bridges between them; environments 0, 1 and 4 are of session 0, 2 and 3 of session 1.
func boot() api.Boot {
	return api.Boot{
		Frames: []int{20, 20},
		Envs:   []int{0, 0, 1, 1, 0},
		Sects:  [][]int{{0}, {1}},
		Lease:  5,
		Shared: []api.Share{
			{Session: 0, N: 492, To: []int{0}},
			{Session: 1, N: 492, To: []int{1}},
			{Session: 0, Frame: 8, N: 40, To: []int{0, 1}},
			{Session: 1, Frame: 9, Lo: 3, N: 40, To: []int{1, 0}},
		},
	}
}

// The regions of boot, by their numbers.
const (
	ofZero = iota
	ofOne
	bridgeA
	bridgeB
)

func starts(t *testing.T, c api.Boot) *kern.Kern {
	t.Helper()
	k, e := kern.New(c)
	if e != api.OK {
		t.Fatalf("kern.New(%+v): %v", c, e)
	}
	return k
}

func made(t *testing.T, k *kern.Kern, env int) *Commons {
	t.Helper()
	c, e := New(k, env)
	if c == nil || e != api.OK {
		t.Fatalf("New(k, %d) = %v, %v", env, c, e)
	}
	return c
}

func put(t *testing.T, k *kern.Kern, env int, c api.Cap) int {
	t.Helper()
	name, e := k.Space().Put(env, c)
	if e != api.OK {
		t.Fatalf("Put(%d, %+v): %v", env, c, e)
	}
	return name
}

func revoke(t *testing.T, k *kern.Kern, env, name int) {
	t.Helper()
	if a := k.Do(env, api.Call{Op: api.KRevoke, Cap: name}); a.E != api.OK {
		t.Fatal(env, name, a.E)
	}
}

// raw is what a region has.
func raw(t *testing.T, k *kern.Kern, obj int) []byte {
	t.Helper()
	b, e := k.Regions().Raw(obj)
	if e != api.OK {
		t.Fatal(obj, e)
	}
	return b
}

// all is what all regions have.
func all(t *testing.T, k *kern.Kern) [][]byte {
	t.Helper()
	l := make([][]byte, k.Regions().Len())
	for obj := range l {
		l[obj] = raw(t, k, obj)
	}
	return l
}

// lays puts bytes into a region, as one would who has a right to all of it.
func lays(t *testing.T, k *kern.Kern, obj, at int, b []byte) {
	t.Helper()
	name := put(t, k, 4, api.Cap{Obj: obj, Rights: api.RWrite, N: 492})
	if a := k.Do(4, api.Call{Op: api.KWrite, Cap: name, At: at, B: b}); a.E != api.OK {
		t.Fatal(obj, at, a.E)
	}
	revoke(t, k, 4, name)
}

// A record of each Kind.
func procs(i int) api.Rec { return api.Rec{Kind: 1, Index: i} }
func files(i int) api.Rec { return api.Rec{Kind: 2, Index: i} }
func pipes(i int) api.Rec { return api.Rec{Kind: 3, Index: i} }

var (
	term  = api.Rec{Kind: 4}
	front = api.Rec{Kind: 5}
)

// recs are all records of commons with so many bridges, by Kind, then Index.
func recs(bridges int) []api.Rec {
	var l []api.Rec
	for i := range 8 {
		l = append(l, procs(i))
	}
	for i := range 12 {
		l = append(l, files(i))
	}
	for i := range 4 + bridges {
		l = append(l, pipes(i))
	}
	return append(l, term, front)
}

// lies is where a record is, in the chapter's words: the region of an environment of boot's session 0, the first byte and how many they are.
func lies(r api.Rec) (obj, at, n int) {
	switch {
	case r.Kind == 1:
		return ofZero, 24 * r.Index, 24
	case r.Kind == 2:
		return ofZero, 192 + 8*r.Index, 8
	case r.Kind == 3 && r.Index < 4:
		return ofZero, 288 + 40*r.Index, 40
	case r.Kind == 3:
		return bridgeA + r.Index - 4, 0, 40
	case r.Kind == 4:
		return ofZero, 448, 40
	}
	return ofZero, 488, 4
}

// get asks c for a record of any Kind.
func get(c *Commons, r api.Rec) (any, int) {
	switch r.Kind {
	case 1:
		return two(c.Proc(r.Index))
	case 2:
		return two(c.File(r.Index))
	case 3:
		return two(c.Pipe(r.Index))
	case 4:
		return two(c.Term())
	}
	g, ok := c.Front()
	if ok {
		return g, api.DGood
	}
	return g, api.DBad
}

func two[T any](v T, is int) (any, int) { return v, is }

// set has c set a record of any Kind.
func set(c *Commons, r api.Rec, v any) bool {
	switch r.Kind {
	case 1:
		return c.SetProc(r.Index, v.(api.Proc))
	case 2:
		return c.SetFile(r.Index, v.(api.File))
	case 3:
		return c.SetPipe(r.Index, v.(api.Pipe))
	case 4:
		return c.SetTerm(v.(api.Pipe))
	}
	return c.SetFront(v.(int))
}

// canFree tells which Kinds have a Free.
func canFree(r api.Rec) bool { return r.Kind <= 3 }

// free has c free a record of any of the Kinds 1 to 3.
func free(c *Commons, r api.Rec) bool {
	switch r.Kind {
	case 1:
		return c.FreeProc(r.Index)
	case 2:
		return c.FreeFile(r.Index)
	}
	return c.FreePipe(r.Index)
}

// none is the zero value of a Kind.
func none(r api.Rec) any {
	return [...]any{api.Proc{}, api.File{}, api.Pipe{}, api.Pipe{}, 0}[r.Kind-1]
}

// some is a value of a Kind that is Ok, another one for each n, if these are few.
func some(r api.Rec, n int) any {
	pipe := api.Pipe{Head: n % 32, Count: 32 - n%31, Readers: n % 9, Writers: 8 - n%9}
	for i := range pipe.Data {
		pipe.Data[i] = byte(n + 7*i)
	}
	switch r.Kind {
	case 1:
		return api.Proc{State: 1 + 2*(n%2), Parent: n % 9, Group: n % 8, Pending: n % 100 << 1, Mask: n % 128 << 2, Ignored: 1 << 3, Caught: n % 50 << 10 &^ (1 << 14), Fds: [8]int{n % 13, 12 - n%13, 0, 7}}
	case 2:
		return api.File{Kind: 1 + n%2, Pipe: n % 8, Refs: 1 + n%64, Flags: n / 2 % 2}
	case 5:
		return n % 8
	}
	return pipe
}

// notOk are values of a Kind that are not Ok.
func notOk(r api.Rec) []any {
	switch r.Kind {
	case 1:
		return []any{api.Proc{}, api.Proc{State: 4}, api.Proc{State: 1, Code: 1}, api.Proc{State: 1, Parent: 9}, api.Proc{State: 1, Group: -1}, api.Proc{State: 2, Pending: 2}, api.Proc{State: 1, Fds: [8]int{7: 13}}}
	case 2:
		return []any{api.File{}, api.File{Kind: 4, Refs: 1}, api.File{Kind: 1}, api.File{Kind: 3, Pipe: 1, Refs: 1}, api.File{Kind: 2, Refs: 65}, api.File{Kind: 2, Refs: 1, Flags: 2}, api.File{Kind: 1, Pipe: 8, Refs: 1}}
	case 5:
		return []any{-1, 8, 9, 255, 256, 263, -256, 1 << 32, 1<<32 + 3, math.MinInt, math.MaxInt}
	}
	return []any{api.Pipe{Head: -1}, api.Pipe{Head: 32}, api.Pipe{Count: 33}, api.Pipe{Readers: 9}, api.Pipe{Writers: -1}}
}

// rowOf are the bytes of a value of a Kind, in the chapter's words: as the codecs of the layers below say, and the front's by hand.
func rowOf(v any) []byte {
	var b []byte
	switch x := v.(type) {
	case api.Proc:
		b, _ = pslot.Encode(x)
	case api.File:
		b, _ = ofile.Encode(x)
	case api.Pipe:
		b, _ = ring.Encode(x)
	case int:
		if x >= 0 && x <= 7 {
			b = []byte{byte(x), 211, byte((x + 211 + 2) % 256), 0}
		}
	}
	return b
}

// decodeOf is what bytes of a Kind say, in the chapter's words.
func decodeOf(r api.Rec, b []byte) (any, int) {
	switch r.Kind {
	case 1:
		return two(pslot.Decode(b))
	case 2:
		return two(ofile.Decode(b))
	case 3, 4:
		return two(ring.Decode(b))
	}
	for g := range 8 {
		if bytes.Equal(b, rowOf(g)) {
			return g, api.DGood
		}
	}
	return 0, api.DBad
}

// has fails unless c says of a record what is wanted.
func has(t *testing.T, c *Commons, r api.Rec, v any, is int) {
	t.Helper()
	if got, kind := get(c, r); got != v || kind != is {
		t.Errorf("%v is %v, %d, want %v, %d", r, got, kind, v, is)
	}
}

// isBad fails unless the Bad ones of c are these.
func isBad(t *testing.T, c *Commons, want ...api.Rec) {
	t.Helper()
	if got := c.Bad(); !slices.Equal(got, want) {
		t.Errorf("Bad() = %v, want %v", got, want)
	}
}

// stays fails unless all regions have what they had.
func stays(t *testing.T, k *kern.Kern, was [][]byte) {
	t.Helper()
	if is := all(t, k); !slices.EqualFunc(is, was, bytes.Equal) {
		t.Errorf("the bytes are %v, were %v", is, was)
	}
}

// filled is a Commons of environment 0 all of whose records are good, a value for each n, and its kernel.
func filled(t *testing.T, n int) (*Commons, *kern.Kern) {
	t.Helper()
	k := starts(t, boot())
	c := made(t, k, 0)
	for i, r := range recs(2) {
		if !set(c, r, some(r, n+i)) {
			t.Fatalf("%v is not set", r)
		}
	}
	return c, k
}

// Promise 15.2: the chapter's example, for all records that may be free.
func TestExample(t *testing.T) {
	c := made(t, starts(t, boot()), 0)
	if !bytes.Equal(c.View(), make([]byte, 492)) {
		t.Error(c.View())
	}
	if p, is := c.Proc(0); p != (api.Proc{}) || is != api.DFree {
		t.Error(p, is)
	}
	for _, r := range recs(2) {
		if r != front {
			has(t, c, r, none(r), api.DFree)
		}
	}
	isBad(t, c)
}

// Promise 15.2: Kinds of records, and what they are, are told by the chapter's numbers.
func TestNumbers(t *testing.T) {
	if got := [...]int{api.BProc, api.BFile, api.BPipe, api.BTerm, api.BFront, api.DFree, api.DGood, api.DBad}; got != [...]int{1, 2, 3, 4, 5, 0, 1, 2} {
		t.Error(got)
	}
}

// Promise 15.1: no kernel, no environment, or one without Caps.
func TestNewRefuses(t *testing.T) {
	refused := func(k *kern.Kern, env int) {
		t.Helper()
		if c, e := New(k, env); c != nil || e != api.ErrArg {
			t.Errorf("New(%v, %d) = %v, %v", k, env, c, e)
		}
	}
	k := starts(t, boot())
	for _, env := range wild {
		refused(nil, env)
		if env < 0 || env > 4 {
			refused(k, env)
		} else {
			made(t, k, env)
		}
	}
	bare := starts(t, api.Boot{Frames: []int{1, 1}, Envs: []int{0, 1}, Lease: 1, Shared: []api.Share{{N: 8, To: []int{1}}}})
	refused(bare, 0)
	made(t, bare, 1)
	for _, name := range k.Space().Names(0) {
		made(t, k, 0)
		revoke(t, k, 0, name)
	}
	refused(k, 0)
	made(t, k, 1)
	refused(starts(t, api.Boot{Frames: []int{9}, Lease: 1}), 0)
}

// Promise 15.1: New changes nothing, whatever is there.
func TestNewLeaves(t *testing.T) {
	c, k := filled(t, 3)
	lays(t, k, ofZero, 0, []byte{99})
	was, names := all(t, k), fmt.Sprint(k.Space().Names(0))
	isBad(t, made(t, k, 0))
	stays(t, k, was)
	if got := fmt.Sprint(k.Space().Names(0)); got != names {
		t.Error(got)
	}
	isBad(t, c)
}

// Promise 15.1: which Cap is of the commons, and which of the bridges, goes by place, not by number.
func TestCapsByPlace(t *testing.T) {
	k := starts(t, boot())
	for _, name := range k.Space().Names(4) {
		revoke(t, k, 4, name)
	}
	var names []int
	for _, obj := range []int{bridgeA, ofOne, bridgeA, bridgeB} {
		names = append(names, put(t, k, 4, api.Cap{Obj: obj, Rights: api.RRead | api.RWrite, N: 40}))
	}
	revoke(t, k, 4, names[0])
	revoke(t, k, 4, names[2])
	// The first place again, with a name above the others'.
	first := put(t, k, 4, api.Cap{Obj: ofZero, Rights: api.RRead | api.RWrite, N: 492})
	if got := k.Space().Names(4); got[0] != first || got[0] < got[1] {
		t.Fatal(got)
	}
	c := made(t, k, 4)
	if !c.SetFront(5) || !c.SetPipe(4, api.Pipe{Readers: 4}) || !c.SetPipe(5, api.Pipe{Readers: 5}) || c.SetPipe(6, api.Pipe{Readers: 6}) {
		t.Error("not set")
	}
	if a, b, x := raw(t, k, ofZero), raw(t, k, ofOne), raw(t, k, bridgeB); a[488] != 5 || b[3] != 4 || x[3] != 5 || raw(t, k, bridgeA)[3] != 0 {
		t.Error(a, b, x)
	}
}

// Promise 15.1: which Caps these are is told by New; those of later on are no bridges, and stand in for none that is gone.
func TestCapsOfNew(t *testing.T) {
	c, k := filled(t, 4)
	later := api.Cap{Obj: bridgeA, Rights: api.RRead | api.RWrite, N: 40}
	put(t, k, 0, later)
	has(t, c, pipes(6), api.Pipe{}, api.DBad)
	if c.SetPipe(6, api.Pipe{}) || c.FreePipe(6) {
		t.Error("one more bridge")
	}
	d := made(t, k, 0)
	if !d.SetPipe(6, api.Pipe{Writers: 7}) || raw(t, k, bridgeA)[4] != 7 {
		t.Error("no bridge")
	}
	names := k.Space().Names(0)
	revoke(t, k, 0, names[1])
	put(t, k, 0, later)
	has(t, c, pipes(4), api.Pipe{}, api.DBad)
	has(t, c, pipes(5), some(pipes(5), 4+8+12+5), api.DGood)
	revoke(t, k, 0, names[0])
	put(t, k, 0, api.Cap{Obj: ofZero, Rights: api.RRead | api.RWrite, N: 492})
	has(t, c, procs(0), api.Proc{}, api.DBad)
	if len(c.View()) != 0 || c.SetProc(1, api.Proc{State: 1}) {
		t.Error("by another Cap")
	}
	isBad(t, c, procs(0), pipes(4))
}

// Promise 15.1: as many bridges as an environment has Caps behind the first one.
func TestManyBridges(t *testing.T) {
	for n := range 32 {
		k := starts(t, boot())
		for _, name := range k.Space().Names(0) {
			revoke(t, k, 0, name)
		}
		for i := range n + 1 {
			put(t, k, 0, api.Cap{Obj: ofZero, Rights: api.RRead | api.RWrite, Lo: 12 * i, N: 40})
		}
		c := made(t, k, 0)
		for i := range 40 {
			want := i >= 4 && i < 4+n
			if got := c.SetPipe(i, api.Pipe{Writers: 3}); got != want {
				t.Errorf("of %d bridges pipe %d: %v", n, i, got)
			}
			if want && !bytes.Equal(raw(t, k, ofZero)[12*(i-3):][:8], []byte{1, 0, 0, 0, 3, 197, 207, 0}) {
				t.Errorf("of %d bridges pipe %d is elsewhere", n, i)
			}
			if want && !c.FreePipe(i) {
				t.Errorf("of %d bridges pipe %d stays", n, i)
			}
		}
		isBad(t, c)
		c.Look()
		var want []api.Rec
		for _, r := range recs(n) {
			if obj, at, size := lies(r); r.Kind == 5 || obj == ofZero && at+size > 40 {
				want = append(want, r)
			}
		}
		isBad(t, c, want...)
	}
}

// Promise 15.1: each byte by hand, of one record of each Kind.
func TestBytes(t *testing.T) {
	k := starts(t, boot())
	c := made(t, k, 0)
	pipe := api.Pipe{Head: 31, Count: 1, Readers: 2, Writers: 3, Data: [32]byte{31: 77}}
	if !c.SetProc(7, api.Proc{State: 3, Parent: 8, Group: 7, Pending: 2, Mask: 4, Ignored: 256, Caught: 8, Fds: [8]int{12, 0, 0, 0, 0, 0, 0, 1}}) ||
		!c.SetFile(11, api.File{Kind: 2, Pipe: 7, Refs: 64, Flags: 1}) || !c.SetPipe(3, pipe) || !c.SetTerm(api.Pipe{Writers: 1}) || !c.SetFront(7) || !c.SetPipe(4, api.Pipe{Readers: 8}) || !c.SetPipe(5, api.Pipe{Head: 9}) {
		t.Fatal("not set")
	}
	want := make([]byte, 492)
	copy(want[168:], []byte{3, 8, 7, 0, 0, 2, 0, 4, 1, 0, 0, 8, 12, 0, 0, 0, 0, 0, 0, 1, 167, 234, 0, 0})
	copy(want[280:], []byte{2, 7, 64, 1, 179, 2, 0, 0})
	copy(want[408:], []byte{1, 31, 1, 2, 3, 197, 241, 0})
	want[447] = 77
	copy(want[448:], []byte{1, 0, 0, 0, 1, 197, 205, 0})
	copy(want[488:], []byte{7, 211, 220, 0})
	if !bytes.Equal(c.View(), want) || !bytes.Equal(raw(t, k, ofZero), want) {
		t.Errorf("View() = %v, want %v", c.View(), want)
	}
	if b := raw(t, k, bridgeA); !bytes.Equal(b[:8], []byte{1, 0, 0, 8, 0, 197, 212, 0}) {
		t.Error(b)
	}
	if b := raw(t, k, bridgeB); !bytes.Equal(b[:8], []byte{1, 9, 0, 0, 0, 197, 213, 0}) {
		t.Error(b)
	}
}

// Promises 15.1, 15.2: each record is in its place, and nothing else changes, whether it is set or freed.
func TestPlaces(t *testing.T) {
	for n, r := range recs(2) {
		c, k := filled(t, n)
		obj, at, size := lies(r)
		for i := range 40 {
			v, want := some(r, i), all(t, k)
			if !set(c, r, v) {
				t.Fatalf("%v is not set", r)
			}
			copy(want[obj][at:at+size], rowOf(v))
			stays(t, k, want)
			has(t, c, r, v, api.DGood)
			has(t, made(t, k, 1), r, v, api.DGood)
			if !canFree(r) {
				continue
			}
			if !free(c, r) {
				t.Fatalf("%v is not freed", r)
			}
			copy(want[obj][at:at+size], make([]byte, size))
			stays(t, k, want)
			has(t, c, r, none(r), api.DFree)
		}
		isBad(t, c)
	}
}

// Promise 15.2: what others wrote in a place is read there.
func TestReads(t *testing.T) {
	for n, r := range recs(2) {
		c, k := filled(t, n)
		obj, at, size := lies(r)
		for i := range 40 {
			v := some(r, 3*i)
			lays(t, k, obj, at, rowOf(v))
			has(t, c, r, v, api.DGood)
		}
		if canFree(r) {
			lays(t, k, obj, at, make([]byte, size))
			has(t, c, r, none(r), api.DFree)
		}
		for i, other := range recs(2) {
			if other != r {
				has(t, c, other, some(other, n+i), api.DGood)
			}
		}
	}
}

// Promises 15.1, 15.2: the front group is what its four bytes tell, all of them.
func TestFront(t *testing.T) {
	k := starts(t, boot())
	c := made(t, k, 0)
	for g := range 8 {
		for at := range 4 {
			for n := range 256 {
				b := []byte{byte(g), 211, byte(213 + g), 0}
				same := b[at] == byte(n)
				b[at] = byte(n)
				lays(t, k, ofZero, 488, b)
				d := made(t, k, 0)
				if got, ok := d.Front(); ok != same || ok && got != g || !ok && got != 0 {
					t.Errorf("of %v the front is %d, %v", b, got, ok)
				}
				if ok := d.SetFront(3); ok != same {
					t.Errorf("of %v SetFront is %v", b, ok)
				}
				if got, ok := d.Front(); ok != same || ok && got != 3 {
					t.Errorf("behind %v the front is %d, %v", b, got, ok)
				}
			}
		}
		if !c.SetFront(g) || !bytes.Equal(raw(t, k, ofZero)[488:], []byte{byte(g), 211, byte(213 + g), 0}) {
			t.Error(g)
		}
		if got, ok := c.Front(); got != g || !ok {
			t.Error(g, got, ok)
		}
	}
	// A good sum of a group that is none, or of another mark; and nothing at all.
	for _, b := range [][]byte{{8, 211, 221, 0}, {255, 211, 212, 0}, {0, 210, 212, 0}, {7, 212, 221, 0}, {0, 0, 2, 0}, {0, 0, 0, 0}, {211, 0, 213, 0}, {0, 211, 211, 0}} {
		lays(t, k, ofZero, 488, b)
		d := made(t, k, 0)
		if got, ok := d.Front(); got != 0 || ok {
			t.Errorf("of %v the front is %d, %v", b, got, ok)
		}
		isBad(t, d, front)
	}
}

// Promise 15.2: of a number that is none all is DBad or false, nothing is kept of it and nothing changes.
func TestNoSuchNumber(t *testing.T) {
	c, k := filled(t, 5)
	was := all(t, k)
	count := map[int]int{1: 8, 2: 12, 3: 6}
	for kind, n := range count {
		for _, i := range wild {
			if i >= 0 && i < n {
				continue
			}
			r := api.Rec{Kind: kind, Index: i}
			has(t, c, r, none(r), api.DBad)
			if set(c, r, some(r, 1)) || free(c, r) {
				t.Errorf("%v was set or freed", r)
			}
			has(t, c, r, none(r), api.DBad)
		}
	}
	isBad(t, c)
	stays(t, k, was)
	for i, r := range recs(2) {
		has(t, c, r, some(r, 5+i), api.DGood)
	}
	// Of commons alone there are no bridges.
	bare := made(t, starts(t, api.Boot{Frames: []int{8}, Envs: []int{0}, Lease: 1, Shared: []api.Share{{N: 492, To: []int{0}}}}), 0)
	has(t, bare, pipes(4), api.Pipe{}, api.DBad)
	if bare.SetPipe(4, api.Pipe{}) || bare.FreePipe(4) || !bare.SetPipe(3, api.Pipe{}) {
		t.Error("a bridge")
	}
	isBad(t, bare)
}

// Promise 15.2: what is not Ok is not set, and nothing is bad of it.
func TestNotOk(t *testing.T) {
	c, k := filled(t, 6)
	was := all(t, k)
	for i, r := range recs(2) {
		for _, v := range notOk(r) {
			if set(c, r, v) {
				t.Errorf("%v was set to %v", r, v)
			}
		}
		has(t, c, r, some(r, 6+i), api.DGood)
	}
	isBad(t, c)
	stays(t, k, was)
	for _, g := range wild {
		if ok := c.SetFront(g); ok != (g >= 0 && g <= 7) {
			t.Errorf("SetFront(%d) = %v", g, ok)
		}
	}
}

// Promises 15.2, 15.3 (W3): each byte that others turn makes its record bad, and no other one; what was bad once stays so for this Commons, and is kept away from.
func TestEachByte(t *testing.T) {
	c, k := filled(t, 7)
	bad := 0
	for i, r := range recs(2) {
		obj, at, size := lies(r)
		for j := range size {
			was := raw(t, k, obj)[at+j]
			lays(t, k, obj, at+j, []byte{was ^ 85})
			v, is := decodeOf(r, raw(t, k, obj)[at:at+size])
			d, e := made(t, k, 0), made(t, k, 1)
			has(t, d, r, v, is)
			d.Look()
			lays(t, k, obj, at+j, []byte{was})
			if is == api.DBad {
				bad++
				stayed(t, d, k, r)
			} else {
				isBad(t, d)
			}
			// For others, who did not read it meanwhile, it is good.
			isBad(t, e)
			has(t, e, r, some(r, 7+i), api.DGood)
			has(t, c, r, some(r, 7+i), api.DGood)
		}
	}
	isBad(t, c)
	if bad != 8*24+12*8+7*8+4 {
		t.Error(bad, "bytes tell")
	}
}

// stayed fails unless d says that r, which is good now, is bad, and this alone, and leaves it as it is.
func stayed(t *testing.T, d *Commons, k *kern.Kern, r api.Rec) {
	t.Helper()
	was := all(t, k)
	for range 2 {
		isBad(t, d, r)
		has(t, d, r, none(r), api.DBad)
		if set(d, r, some(r, 1)) || canFree(r) && free(d, r) {
			t.Errorf("%v was set or freed", r)
		}
		d.Look()
	}
	stays(t, k, was)
	for _, other := range recs(2) {
		if other == r {
			continue
		}
		if _, is := get(d, other); is != api.DGood {
			t.Errorf("%v is %d", other, is)
		}
		if v, _ := get(d, other); !set(d, other, v) {
			t.Errorf("%v is not set", other)
		}
	}
	stays(t, k, was)
}

// Promise 15.2: a free record is bad with any byte that is not 0.
func TestAlmostFree(t *testing.T) {
	k := starts(t, boot())
	for _, r := range recs(2) {
		obj, at, size := lies(r)
		for j := range size {
			if r == front {
				continue
			}
			lays(t, k, obj, at+j, []byte{byte(1 + j)})
			d := made(t, k, 0)
			has(t, d, r, none(r), api.DBad)
			isBad(t, d, r)
			lays(t, k, obj, at+j, []byte{0})
			isBad(t, d, r)
			has(t, d, r, none(r), api.DBad)
			has(t, made(t, k, 0), r, none(r), api.DFree)
		}
	}
}

// Promise 15.2: what was not read yet is not bad, whatever is there: it is set and freed, and good or free then.
func TestNotReadYet(t *testing.T) {
	for n, r := range recs(2) {
		obj, at, size := lies(r)
		junk := bytes.Repeat([]byte{85}, size)
		c, k := filled(t, n)
		lays(t, k, obj, at, junk)
		isBad(t, c)
		if !set(c, r, some(r, 9)) {
			t.Errorf("%v is not set", r)
		}
		has(t, c, r, some(r, 9), api.DGood)
		if canFree(r) {
			lays(t, k, obj, at, junk)
			if !free(c, r) {
				t.Errorf("%v is not freed", r)
			}
			has(t, c, r, none(r), api.DFree)
		}
		// View reads no records, nor does a Set that is false.
		lays(t, k, obj, at, junk)
		c.View()
		set(c, r, notOk(r)[0])
		isBad(t, c)
		has(t, c, r, none(r), api.DBad)
		isBad(t, c, r)
	}
}

// Promise 15.2: Bad's records are by Kind, then Index, in whatever order they were read, each once.
func TestBadSorted(t *testing.T) {
	r := rand.New(rand.NewSource(2))
	k := starts(t, boot())
	lays(t, k, ofZero, 0, bytes.Repeat([]byte{85}, 492))
	lays(t, k, bridgeA, 0, []byte{85})
	lays(t, k, bridgeB, 0, []byte{85})
	for n := range 200 {
		c := made(t, k, n%2)
		l := recs(2)
		r.Shuffle(len(l), func(i, j int) { l[i], l[j] = l[j], l[i] })
		var read []api.Rec
		for _, x := range l[:r.Intn(len(l)+1)] {
			has(t, c, x, none(x), api.DBad)
			has(t, c, x, none(x), api.DBad)
			read = append(read, x)
		}
		var want []api.Rec
		for _, x := range recs(2) {
			if slices.Contains(read, x) {
				want = append(want, x)
			}
		}
		isBad(t, c, want...)
		isBad(t, c, want...)
		c.Look()
		isBad(t, c, recs(2)...)
	}
}

// Promise 15.2: Look reads every record, and changes nothing else.
func TestLook(t *testing.T) {
	c, k := filled(t, 8)
	was := all(t, k)
	c.Look()
	isBad(t, c)
	stays(t, k, was)
	for i, r := range recs(2) {
		has(t, c, r, some(r, 8+i), api.DGood)
	}
	for _, r := range recs(2) {
		obj, at, size := lies(r)
		d := made(t, k, 1)
		lays(t, k, obj, at, bytes.Repeat([]byte{85}, size))
		isBad(t, d)
		d.Look()
		isBad(t, d, r)
		lays(t, k, obj, at, was[obj][at:at+size])
		d.Look()
		isBad(t, d, r)
		has(t, d, r, none(r), api.DBad)
		stays(t, k, was)
	}
	// What is free is not bad, but the front is never free.
	e := made(t, starts(t, boot()), 0)
	e.Look()
	isBad(t, e, front)
	// Of one who reads no more, all are.
	for _, name := range k.Space().Names(0) {
		revoke(t, k, 0, name)
	}
	c.Look()
	isBad(t, c, recs(2)...)
}

// Promise 15.2: what the kernel tells an error of is DBad, and bad from then on; a Set is false, and makes nothing bad.
func TestRevoked(t *testing.T) {
	for gone := range 3 {
		c, k := filled(t, 9)
		was := all(t, k)
		revoke(t, k, 0, k.Space().Names(0)[gone])
		lost := func(r api.Rec) bool {
			obj, _, _ := lies(r)
			return max(obj-1, 0) == gone
		}
		for i, r := range recs(2) {
			if ok := set(c, r, some(r, 9+i)); ok == lost(r) {
				t.Errorf("without %d %v set: %v", gone, r, ok)
			}
			if canFree(r) && lost(r) && free(c, r) {
				t.Errorf("without %d %v was freed", gone, r)
			}
		}
		if v := c.View(); gone == 0 && len(v) != 0 || gone > 0 && !bytes.Equal(v, was[ofZero]) {
			t.Error(v)
		}
		isBad(t, c)
		stays(t, k, was)
		var want []api.Rec
		for i, r := range recs(2) {
			if lost(r) {
				has(t, c, r, none(r), api.DBad)
				want = append(want, r)
			} else {
				has(t, c, r, some(r, 9+i), api.DGood)
			}
		}
		isBad(t, c, want...)
		c.Look()
		isBad(t, c, want...)
		d := made(t, k, 1)
		d.Look()
		isBad(t, d)
	}
}

// Promise 15.2: who has not all rights reads or writes just what they are of.
func TestRights(t *testing.T) {
	for rights := range 8 {
		k := starts(t, boot())
		for _, name := range k.Space().Names(0) {
			revoke(t, k, 0, name)
		}
		for _, x := range []api.Cap{{Obj: ofZero, N: 492}, {Obj: bridgeA, N: 40}, {Obj: bridgeB, N: 40}} {
			x.Rights = rights
			put(t, k, 0, x)
		}
		reads, writes := rights&api.RRead != 0, rights&api.RWrite != 0
		c, d := made(t, k, 0), made(t, k, 1)
		for i, r := range recs(2) {
			if canFree(r) && free(c, r) != writes {
				t.Errorf("with %d %v is freed: %v", rights, r, !writes)
			}
			if ok := set(c, r, some(r, i)); ok != writes {
				t.Errorf("with %d %v is set: %v", rights, r, ok)
			}
			if obj, at, size := lies(r); writes != bytes.Equal(raw(t, k, obj)[at:at+size], rowOf(some(r, i))) {
				t.Errorf("with %d %v is not as it was set", rights, r)
			}
			if !set(d, r, some(r, i)) {
				t.Fatal(r)
			}
		}
		isBad(t, c)
		if v := c.View(); reads && !bytes.Equal(v, raw(t, k, ofZero)) || !reads && len(v) != 0 {
			t.Error(rights, v)
		}
		for i, r := range recs(2) {
			if reads {
				has(t, c, r, some(r, i), api.DGood)
				continue
			}
			has(t, c, r, none(r), api.DBad)
			if set(c, r, some(r, i)) {
				t.Errorf("%v is bad, and was set", r)
			}
		}
		c.Look()
		if reads {
			isBad(t, c)
		} else {
			isBad(t, c, recs(2)...)
		}
	}
}

// Promises 15.1, 15.2: records are by where their Cap begins, and there just as far as it goes; what goes on behind the commons is not theirs.
func TestRanges(t *testing.T) {
	const lo = 5
	for n := range 500 {
		k := starts(t, api.Boot{Frames: []int{20, 20}, Envs: []int{0}, Lease: 1, Shared: []api.Share{{N: 600}, {N: 600}}})
		put(t, k, 0, api.Cap{Obj: 0, Rights: api.RRead | api.RWrite, Lo: lo, N: n})
		put(t, k, 0, api.Cap{Obj: 1, Rights: api.RRead | api.RWrite, Lo: 2 * lo, N: n})
		c := made(t, k, 0)
		var bad []api.Rec
		for i, r := range recs(1) {
			obj, at, size := lies(r)
			begin := lo
			if obj == bridgeA {
				obj, begin = 1, 2*lo
			}
			if ok := set(c, r, some(r, i)); ok != (at+size <= n) {
				t.Errorf("of %d bytes %v is set: %v", n, r, ok)
			}
			if at+size > n {
				has(t, c, r, none(r), api.DBad)
				bad = append(bad, r)
				continue
			}
			has(t, c, r, some(r, i), api.DGood)
			if b := raw(t, k, obj)[begin+at:][:size]; !bytes.Equal(b, rowOf(some(r, i))) {
				t.Errorf("of %d bytes %v is %v", n, r, b)
			}
		}
		isBad(t, c, bad...)
		if v := c.View(); n < 492 && len(v) != 0 || n >= 492 && !bytes.Equal(v, raw(t, k, 0)[lo:lo+492]) {
			t.Errorf("of %d bytes View has %d", n, len(v))
		}
	}
}

// Promise 15.2: View is the 492 bytes as they are, good or bad.
func TestView(t *testing.T) {
	r := rand.New(rand.NewSource(3))
	c, k := filled(t, 10)
	for range 300 {
		lays(t, k, ofZero, r.Intn(492), []byte{byte(r.Intn(256))})
		if v := c.View(); len(v) != 492 || !bytes.Equal(v, raw(t, k, ofZero)) {
			t.Error(v)
		}
		if r.Intn(20) == 0 {
			c.Look()
		}
	}
	if len(c.Bad()) == 0 {
		t.Error("all is good")
	}
}

// DOC.md, rule 3: what is answered is new memory, its spare room too.
func TestNewMemory(t *testing.T) {
	c, k := filled(t, 11)
	lays(t, k, ofZero, 0, []byte{99})
	lays(t, k, ofZero, 488, []byte{99})
	c.Look()
	was := all(t, k)
	v, w, l, m := c.View(), c.View(), c.Bad(), c.Bad()
	for i := range v[:cap(v)] {
		v[:cap(v)][i] ^= 255
	}
	for i := range l[:cap(l)] {
		l[:cap(l)][i] = api.Rec{Kind: 9, Index: 9}
	}
	if !bytes.Equal(w, was[ofZero]) || !slices.Equal(m, []api.Rec{procs(0), front}) {
		t.Error(w, m)
	}
	stays(t, k, was)
	isBad(t, c, procs(0), front)
	has(t, c, procs(0), api.Proc{}, api.DBad)
	names := k.Space().Names(0)
	names[0], names[1] = names[1], names[0]
	has(t, c, pipes(4), some(pipes(4), 11+24), api.DGood)
}

// Promise 15.2: each environment writes by its own Caps: a session's commons are none of another one's, and a bridge is one pipe of both.
func TestSessions(t *testing.T) {
	k := starts(t, boot())
	a, b, x := made(t, k, 0), made(t, k, 1), made(t, k, 2)
	for i, r := range recs(2) {
		obj, _, _ := lies(r)
		v, was := some(r, i), all(t, k)
		if !set(a, r, v) {
			t.Fatal(r)
		}
		for other, bytesThen := range all(t, k) {
			if (other == obj) == bytes.Equal(bytesThen, was[other]) {
				t.Errorf("by %v region %d is %v", r, other, bytesThen)
			}
		}
		has(t, b, r, v, api.DGood)
		if r.Kind == 3 && r.Index >= 4 {
			has(t, x, r, v, api.DGood)
		} else if r != front {
			has(t, x, r, none(r), api.DFree)
		}
	}
	// What the other session writes shows on the bridges alone, and may be bad there too.
	for i, r := range recs(2) {
		set(x, r, some(r, 40+i))
	}
	for i, r := range recs(2) {
		n := i
		if r.Kind == 3 && r.Index >= 4 {
			n += 40
		}
		has(t, a, r, some(r, n), api.DGood)
	}
	k.Do(3, api.Call{Op: api.KWrite, Cap: k.Space().Names(3)[1], B: []byte{9}})
	a.Look()
	isBad(t, a, pipes(4))
	isBad(t, x)
	isBad(t, b)
}

// holding is what a Cap is of, and its rights.
type holding struct {
	b      []byte
	rights int
}

// model is a Commons in the chapter's words, over bytes that others have too.
type model struct {
	caps []*holding
	bad  map[api.Rec]bool
}

// span is where a record is, and by which Cap; false, if there is none of that number.
func (m *model) span(r api.Rec) (h *holding, at, n int, ok bool) {
	_, at, n = lies(r)
	count := map[int]int{1: 8, 2: 12, 3: 3 + len(m.caps), 4: 1, 5: 1}[r.Kind]
	if r.Index < 0 || r.Index >= count {
		return nil, 0, 0, false
	}
	if r.Kind == 3 && r.Index >= 4 {
		return m.caps[r.Index-3], at, n, true
	}
	return m.caps[0], at, n, true
}

func (m *model) get(r api.Rec) (any, int) {
	h, at, n, ok := m.span(r)
	if !ok || m.bad[r] {
		return none(r), api.DBad
	}
	if h.rights&api.RRead == 0 {
		m.bad[r] = true
		return none(r), api.DBad
	}
	v, is := decodeOf(r, h.b[at:at+n])
	if is == api.DBad {
		m.bad[r] = true
	}
	return v, is
}

func (m *model) store(r api.Rec, row []byte) bool {
	h, at, n, ok := m.span(r)
	if !ok || m.bad[r] || len(row) == 0 || h.rights&api.RWrite == 0 {
		return false
	}
	copy(h.b[at:at+n], row)
	return true
}

func (m *model) free(r api.Rec) bool {
	_, _, n, ok := m.span(r)
	return ok && m.store(r, make([]byte, n))
}

func (m *model) view() []byte {
	if m.caps[0].rights&api.RRead == 0 {
		return nil
	}
	return m.caps[0].b
}

func (m *model) listed() []api.Rec {
	var l []api.Rec
	for _, r := range recs(len(m.caps) - 1) {
		if m.bad[r] {
			l = append(l, r)
		}
	}
	return l
}

func (m *model) look() {
	for _, r := range recs(len(m.caps) - 1) {
		m.get(r)
	}
}

// pair is a Commons, and the model of it.
type pair struct {
	c *Commons
	m *model
}

// scene is a kernel of boot with Commons of four environments, whose bytes the models have too; env 4 is the one whom nobody trusts.
type scene struct {
	t     *testing.T
	r     *rand.Rand
	k     *kern.Kern
	bytes [][]byte
	held  [4][]*holding
	names [4][]int
	pairs [4][]pair
}

func newScene(t *testing.T, seed int64) *scene {
	s := &scene{t: t, r: rand.New(rand.NewSource(seed)), k: starts(t, boot())}
	for env := range 4 {
		s.names[env] = s.k.Space().Names(env)
	}
	s.bytes = all(t, s.k)
	for env := range s.held {
		for _, obj := range []int{env / 2, bridgeA, bridgeB} {
			s.held[env] = append(s.held[env], &holding{b: s.bytes[obj], rights: api.RRead | api.RWrite})
		}
		s.renew(env)
		s.renew(env)
	}
	return s
}

// renew makes one more Commons of an environment.
func (s *scene) renew(env int) {
	m := &model{caps: slices.Clone(s.held[env]), bad: map[api.Rec]bool{}}
	s.pairs[env] = append(s.pairs[env], pair{made(s.t, s.k, env), m})
	if len(s.pairs[env]) > 3 {
		s.pairs[env] = s.pairs[env][1:]
	}
}

// rec is some record, seldom of a number that is none.
func (s *scene) rec() api.Rec {
	l := recs(2)
	r := l[s.r.Intn(len(l))]
	if s.r.Intn(12) == 0 && r.Kind <= 3 {
		r.Index = wild[s.r.Intn(len(wild))]
	}
	return r
}

// value is some value of a record, seldom none that is Ok.
func (s *scene) value(r api.Rec) any {
	if l := notOk(r); s.r.Intn(6) == 0 {
		return l[s.r.Intn(len(l))]
	}
	return some(r, s.r.Intn(1000))
}

// spoil writes into some region as one does whom nobody trusts: a byte or some, or a whole record that is good.
func (s *scene) spoil() {
	obj := s.r.Intn(len(s.bytes))
	at := s.r.Intn(len(s.bytes[obj]))
	b := make([]byte, 1+s.r.Intn(min(3, len(s.bytes[obj])-at)))
	s.r.Read(b)
	if r := recs(2)[s.r.Intn(28)]; s.r.Intn(3) > 0 {
		obj, at, _ = lies(r)
		if obj == ofZero && s.r.Intn(2) == 0 {
			obj = ofOne
		}
		b = rowOf(some(r, s.r.Intn(1000)))
	}
	lays(s.t, s.k, obj, at, b)
	copy(s.bytes[obj][at:], b)
}

// step does one thing to one Commons and its model, and fails unless they say the same.
func (s *scene) step() {
	s.t.Helper()
	env := s.r.Intn(4)
	p := s.pairs[env][s.r.Intn(len(s.pairs[env]))]
	r := s.rec()
	switch n := s.r.Intn(100); {
	case n < 30:
		v, is := p.m.get(r)
		has(s.t, p.c, r, v, is)
	case n < 65:
		v := s.value(r)
		if got, want := set(p.c, r, v), p.m.store(r, rowOf(v)); got != want {
			s.t.Errorf("of %d %v set to %v: %v", env, r, v, got)
		}
	case n < 75:
		if canFree(r) {
			if got, want := free(p.c, r), p.m.free(r); got != want {
				s.t.Errorf("of %d %v freed: %v", env, r, got)
			}
		}
	case n < 78:
		p.c.Look()
		p.m.look()
	case n < 83:
		s.renew(env)
	case n < 95:
		s.spoil()
	}
	isBad(s.t, p.c, p.m.listed()...)
	if v := p.c.View(); !bytes.Equal(v, p.m.view()) {
		s.t.Errorf("of %d View() = %v, want %v", env, v, p.m.view())
	}
	stays(s.t, s.k, s.bytes)
}

// Promises 15.1 to 15.3: what many do at once is what the chapter says, beside one whom nobody trusts.
func TestAgainstModel(t *testing.T) {
	for seed := range int64(40) {
		s := newScene(t, seed)
		for range 600 {
			s.step()
			if t.Failed() {
				t.Fatal("seed", seed)
			}
		}
		// Rights that are gone, one by one.
		for i := range 3 {
			env := s.r.Intn(4)
			for _, p := range s.pairs[env] {
				p.m.caps = slices.Clone(p.m.caps)
				p.m.caps[2-i] = &holding{b: p.m.caps[2-i].b}
			}
			if s.held[env][2-i].rights != 0 {
				revoke(t, s.k, env, s.names[env][2-i])
			}
			s.held[env][2-i] = &holding{b: s.held[env][2-i].b}
			s.afterwards(env)
		}
	}
}

// afterwards reads and sets all that an environment has, and fails unless its models say the same.
func (s *scene) afterwards(env int) {
	s.t.Helper()
	for _, p := range s.pairs[env] {
		for _, r := range recs(2) {
			v := some(r, s.r.Intn(1000))
			if got, want := set(p.c, r, v), p.m.store(r, rowOf(v)); got != want {
				s.t.Errorf("of %d %v set: %v", env, r, got)
			}
			w, is := p.m.get(r)
			has(s.t, p.c, r, w, is)
		}
		isBad(s.t, p.c, p.m.listed()...)
		if v := p.c.View(); !bytes.Equal(v, p.m.view()) {
			s.t.Errorf("of %d View() = %v, want %v", env, v, p.m.view())
		}
		stays(s.t, s.k, s.bytes)
	}
}

// Promise 15.3 (W3): whatever bytes are there, each record is free, good, with just the bytes of what it is, or bad, and nothing but a good one is told of.
func TestOneOfThree(t *testing.T) {
	r := rand.New(rand.NewSource(4))
	kinds := map[int]int{}
	for range 400 {
		_, k := filled(t, r.Intn(1000))
		for range r.Intn(40) {
			obj := r.Intn(4)
			b := raw(t, k, obj)
			lays(t, k, obj, r.Intn(len(b)), []byte{byte(r.Intn(256))})
		}
		for _, x := range recs(2) {
			if obj, at, n := lies(x); r.Intn(6) == 0 {
				lays(t, k, obj, at, make([]byte, n))
			}
		}
		c := made(t, k, 0)
		var bad []api.Rec
		for _, x := range recs(2) {
			obj, at, n := lies(x)
			b := raw(t, k, obj)[at : at+n]
			v, is := get(c, x)
			kinds[is]++
			switch is {
			case api.DFree:
				if !bytes.Equal(b, make([]byte, n)) || v != none(x) || x == front {
					t.Errorf("%v of %v is free: %v", x, b, v)
				}
			case api.DGood:
				if !bytes.Equal(b, rowOf(v)) {
					t.Errorf("%v of %v is %v", x, b, v)
				}
			default:
				if w, kind := decodeOf(x, b); is != api.DBad || kind != is || v != w {
					t.Errorf("%v of %v is %v, %d, want %v, %d", x, b, v, is, w, kind)
				}
				bad = append(bad, x)
			}
		}
		isBad(t, c, bad...)
	}
	for is := range 3 {
		if kinds[is] < 500 {
			t.Error("only", kinds[is], "of kind", is)
		}
	}
}

// Promise 15.2: all goes by kern.Do of this environment: nobody's Caps become more or fewer, no frame is taken, no Sect entered, no time goes by.
func TestKernelElse(t *testing.T) {
	c, k := filled(t, 12)
	tell := func() string {
		var l []string
		for env := range 5 {
			for _, name := range k.Space().Names(env) {
				x, _ := k.Space().Get(env, name)
				l = append(l, fmt.Sprint(env, name, x))
			}
		}
		return fmt.Sprint(l, k.Now(), k.Sect(0).Queue(), k.Regions().Len())
	}
	was := tell()
	for i, r := range recs(2) {
		set(c, r, some(r, i))
		get(c, r)
		if canFree(r) {
			free(c, r)
		}
	}
	c.Look()
	c.View()
	c.Bad()
	if got := tell(); got != was {
		t.Errorf("%s, was %s", got, was)
	}
	if a := k.Do(0, api.Call{Op: api.KAlloc}); a.N != 0 || a.E != api.OK {
		t.Error(a)
	}
	if _, _, _, ok := k.Sect(0).Holder(); ok {
		t.Error("somebody holds")
	}
}

// Promise 15.4: every call ends and none panics, of whatever numbers and values, by Caps of whatever.
func TestNoPanic(t *testing.T) {
	odd := []api.Cap{{}, {Obj: -1, Rights: 7, N: 492}, {Obj: 99, Rights: 7, N: 492}, {Obj: math.MaxInt, Rights: 7, Lo: 65536, N: 65536}, {Rights: 7, Lo: 400, N: 65536}, {Rights: 7}, {Rights: 7, N: 65536}}
	for _, x := range odd {
		for _, y := range odd {
			k := starts(t, api.Boot{Frames: []int{8}, Envs: []int{0}, Lease: 1, Shared: []api.Share{{N: 492}}})
			put(t, k, 0, x)
			put(t, k, 0, y)
			callAll(t, made(t, k, 0))
		}
	}
	c, k := filled(t, 13)
	callAll(t, c)
	for _, name := range k.Space().Names(0) {
		revoke(t, k, 0, name)
		callAll(t, c)
	}
}

// callAll calls all of c with wild numbers; what it says is free, good or bad.
func callAll(t *testing.T, c *Commons) {
	t.Helper()
	c.Look()
	for _, i := range wild {
		for kind := 1; kind <= 5; kind++ {
			r := api.Rec{Kind: kind, Index: i}
			if _, is := get(c, r); is < api.DFree || is > api.DBad {
				t.Error(r, is)
			}
			set(c, r, some(r, 1))
			for _, v := range notOk(r) {
				if set(c, r, v) {
					t.Error(r, v)
				}
			}
			if canFree(r) {
				free(c, r)
			}
		}
		c.SetProc(i, api.Proc{State: i, Parent: i, Group: i, Code: i, Pending: i, Mask: i, Ignored: i, Caught: i, Fds: [8]int{i, i}})
		c.SetFile(i, api.File{Kind: i, Pipe: i, Refs: i, Flags: i})
		c.SetPipe(i, api.Pipe{Head: i, Count: i, Readers: i, Writers: i})
		c.SetTerm(api.Pipe{Head: i, Count: i, Readers: i, Writers: i})
		c.SetFront(i)
		if _, e := New(nil, i); e != api.ErrArg {
			t.Error(i, e)
		}
	}
	c.Look()
	c.View()
	for _, r := range c.Bad() {
		if r.Kind < 1 || r.Kind > 5 || r.Index < 0 {
			t.Error(r)
		}
	}
}
