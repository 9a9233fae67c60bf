package mem

import (
	"bytes"
	"math"
	"math/rand"
	"testing"

	"commonage/api"
)

// filled is a Mem whose bytes tell their places.
func filled(frames int) *Mem {
	m := New(frames)
	b := make([]byte, m.Size())
	for i := range b {
		b[i] = byte(i*7 + i/64 + 1)
	}
	m.Store(0, b)
	return m
}

func all(t *testing.T, m *Mem) []byte {
	t.Helper()
	b, e := m.Load(0, m.Size())
	if e != api.OK {
		t.Fatal("loading all:", e)
	}
	return b
}

func same(t *testing.T, what string, m *Mem, want []byte) {
	t.Helper()
	if got := all(t, m); !bytes.Equal(got, want) {
		t.Errorf("%s: bytes are % x, want % x", what, got, want)
	}
}

// Promise 1.1: as many frames of 64 bytes as are told, 0 to 256, all 0.
func TestNew(t *testing.T) {
	for _, x := range []struct{ frames, size int }{
		{math.MinInt, 0}, {-1, 0}, {0, 0}, {1, 64}, {2, 128}, {255, 16320}, {256, 16384}, {257, 16384}, {1 << 58, 16384}, {math.MaxInt, 16384},
	} {
		m := New(x.frames)
		if n := m.Size(); n != x.size {
			t.Errorf("New(%d).Size() = %d, want %d", x.frames, n, x.size)
			continue
		}
		same(t, "new", m, make([]byte, x.size))
	}
}

// Promise 1.1: Load and Store, ordinary, at the edges, and wrong.
func TestLoadStore(t *testing.T) {
	for _, x := range []struct {
		at, n int
		e     api.Errno
	}{
		{0, 0, api.OK}, {0, 1, api.OK}, {0, 128, api.OK}, {63, 2, api.OK}, {127, 1, api.OK}, {127, 0, api.OK}, {128, 0, api.OK},
		{128, 1, api.ErrArg}, {129, 0, api.ErrArg}, {127, 2, api.ErrArg}, {0, 129, api.ErrArg}, {-1, 0, api.ErrArg}, {-1, 1, api.ErrArg}, {-1, 2, api.ErrArg}, {math.MinInt, 0, api.ErrArg}, {math.MaxInt, 0, api.ErrArg}, {math.MaxInt, 1, api.ErrArg},
	} {
		m := filled(2)
		before := all(t, m)
		b, e := m.Load(x.at, x.n)
		if e != x.e {
			t.Errorf("Load(%d, %d): %d, want %d", x.at, x.n, e, x.e)
		}
		if e == api.OK && !bytes.Equal(b, before[x.at:x.at+x.n]) || e != api.OK && len(b) != 0 {
			t.Errorf("Load(%d, %d) = % x", x.at, x.n, b)
		}
		same(t, "loaded", m, before)

		in := bytes.Repeat([]byte{0xee}, x.n)
		want := bytes.Clone(before)
		if x.e == api.OK {
			copy(want[x.at:], in)
		}
		if e := m.Store(x.at, in); e != x.e {
			t.Errorf("Store(%d, %d bytes): %d, want %d", x.at, x.n, e, x.e)
		}
		same(t, "stored", m, want)
	}
	m := filled(2)
	for _, x := range [][2]int{{0, -1}, {1, -1}, {128, -1}, {129, -1}, {-1, -1}, {0, math.MinInt}, {math.MinInt, math.MinInt}, {0, math.MaxInt}, {1, math.MaxInt}, {math.MaxInt, math.MaxInt}, {1 << 62, 1 << 62}} {
		if b, e := m.Load(x[0], x[1]); e != api.ErrArg || len(b) != 0 {
			t.Errorf("Load(%d, %d) = % x, %d", x[0], x[1], b, e)
		}
	}
	if m.Store(128, nil) != api.OK || m.Store(128, []byte{}) != api.OK || m.Store(129, nil) != api.ErrArg || m.Store(-1, nil) != api.ErrArg {
		t.Error("no bytes: at may be Size at most, and no less than 0")
	}
}

// Promise 1.1: of no frames there is the place 0, and nothing else.
func TestNoFrames(t *testing.T) {
	m := New(0)
	if b, e := m.Load(0, 0); len(b) != 0 || e != api.OK {
		t.Error("Load(0, 0):", b, e)
	}
	if e := m.Store(0, nil); e != api.OK {
		t.Error("Store(0, nil):", e)
	}
	if _, e := m.Load(0, 1); e != api.ErrArg {
		t.Error("Load(0, 1):", e)
	}
	if _, e := m.Load(1, 0); e != api.ErrArg {
		t.Error("Load(1, 0):", e)
	}
	if e := m.Store(0, []byte{1}); e != api.ErrArg {
		t.Error("Store(0, 1 byte):", e)
	}
	if n, e := m.Word(0); n != 0 || e != api.ErrArg {
		t.Error("Word(0):", n, e)
	}
	if e := m.SetWord(0, 1); e != api.ErrArg {
		t.Error("SetWord(0):", e)
	}
	if e := m.Zero(0); e != api.ErrArg {
		t.Error("Zero(0):", e)
	}
	if c := m.Copy(); c.Size() != 0 {
		t.Error("Copy:", c.Size())
	}
}

// Promise 1.1: a word is four bytes, the highest first.
func TestWords(t *testing.T) {
	m := New(2)
	m.Store(2, []byte{1, 2})
	if n, e := m.Word(0); n != 258 || e != api.OK {
		t.Error("the chapter's example:", n, e)
	}
	for _, x := range []struct {
		at int
		n  uint32
		b  []byte
	}{
		{0, 0x01020304, []byte{1, 2, 3, 4}}, {1, 0xff000000, []byte{0xff, 0, 0, 0}}, {62, 0x00ff0000, []byte{0, 0xff, 0, 0}}, {63, 0x0000ff00, []byte{0, 0, 0xff, 0}}, {124, 0xff, []byte{0, 0, 0, 0xff}}, {124, math.MaxUint32, []byte{0xff, 0xff, 0xff, 0xff}}, {124, 0, []byte{0, 0, 0, 0}},
	} {
		m := filled(2)
		want := all(t, m)
		copy(want[x.at:], x.b)
		if e := m.SetWord(x.at, x.n); e != api.OK {
			t.Errorf("SetWord(%d, %x): %d", x.at, x.n, e)
		}
		same(t, "a word set", m, want)
		if n, e := m.Word(x.at); n != x.n || e != api.OK {
			t.Errorf("Word(%d) = %x, %d, want %x", x.at, n, e, x.n)
		}
	}
	for _, at := range []int{-1, -4, math.MinInt, 125, 126, 127, 128, 129, 1 << 62, math.MaxInt, math.MaxInt - 3} {
		m := filled(2)
		before := all(t, m)
		if n, e := m.Word(at); n != 0 || e != api.ErrArg {
			t.Errorf("Word(%d) = %x, %d", at, n, e)
		}
		if e := m.SetWord(at, 5); e != api.ErrArg {
			t.Errorf("SetWord(%d): %d", at, e)
		}
		same(t, "a word refused", m, before)
	}
}

// Promise 1.1: Zero makes one frame 0, and nothing beside it.
func TestZero(t *testing.T) {
	for frame := range 3 {
		m := filled(3)
		want := all(t, m)
		clear(want[frame*64 : frame*64+64])
		if e := m.Zero(frame); e != api.OK {
			t.Errorf("Zero(%d): %d", frame, e)
		}
		same(t, "zeroed", m, want)
	}
	for _, frame := range []int{-1, math.MinInt, 3, 4, 64, 1 << 58, 1<<58 + 1, 1 << 62, math.MaxInt} {
		m := filled(3)
		before := all(t, m)
		if e := m.Zero(frame); e != api.ErrArg {
			t.Errorf("Zero(%d): %d", frame, e)
		}
		same(t, "refused", m, before)
	}
}

// Promise 1.2: what was stored is loaded, and nothing beside it changes, held against a plain list of bytes.
func TestWhatWasStoredIsLoaded(t *testing.T) {
	r := rand.New(rand.NewSource(1))
	m := New(3)
	model := make([]byte, 192)
	for range 5000 {
		at := r.Intn(196) - 2
		switch r.Intn(4) {
		case 0:
			b := make([]byte, r.Intn(80))
			r.Read(b)
			if e := m.Store(at, b); (e == api.OK) != (at >= 0 && at+len(b) <= 192) {
				t.Fatalf("Store(%d, %d bytes): %d", at, len(b), e)
			} else if e == api.OK {
				copy(model[at:], b)
			}
		case 1:
			n := r.Uint32()
			if e := m.SetWord(at, n); (e == api.OK) != (at >= 0 && at+4 <= 192) {
				t.Fatalf("SetWord(%d): %d", at, e)
			} else if e == api.OK {
				for i := range 4 {
					model[at+i] = byte(n >> (24 - 8*i))
				}
			}
		case 2:
			k := r.Intn(40) - 1
			if e := m.Zero(k); (e == api.OK) != (k >= 0 && k < 3) {
				t.Fatalf("Zero(%d): %d", k, e)
			} else if e == api.OK {
				clear(model[k*64 : k*64+64])
			}
		case 3:
			if n, e := m.Word(at); e == api.OK {
				w := model[at : at+4]
				if n != uint32(w[0])<<24|uint32(w[1])<<16|uint32(w[2])<<8|uint32(w[3]) {
					t.Fatalf("Word(%d) = %x of % x", at, n, w)
				}
			} else if at >= 0 && at+4 <= 192 {
				t.Fatalf("Word(%d): %d", at, e)
			}
		}
		if got := all(t, m); !bytes.Equal(got, model) {
			t.Fatalf("bytes are % x, want % x", got, model)
		}
	}
}

// Promise 1.2: what is handed in is neither changed nor kept, and what is answered is not the Mem's own.
func TestNothingIsShared(t *testing.T) {
	m := filled(2)
	room := []byte{1, 2, 3, 4, 5, 6}
	if e := m.Store(10, room[1:3]); e != api.OK {
		t.Fatal(e)
	}
	if !bytes.Equal(room, []byte{1, 2, 3, 4, 5, 6}) {
		t.Error("what was handed in is changed:", room)
	}
	before := all(t, m)
	room[1], room[3] = 99, 99
	same(t, "behind a change of what was handed in", m, before)

	b, _ := m.Load(8, 4)
	b = append(b[:4], b[4:cap(b)]...)
	for i := range b {
		b[i] ^= 0xff
	}
	same(t, "behind a change of what was answered", m, before)

	a, _ := m.Load(0, 8)
	m.Store(0, bytes.Repeat([]byte{0xaa}, 8))
	if !bytes.Equal(a, before[:8]) {
		t.Error("an answer changed behind a Store:", a)
	}
}

// Promise 1.2: a Copy has the same bytes, and goes its own way from there.
func TestCopy(t *testing.T) {
	m := filled(2)
	c := m.Copy()
	before := all(t, m)
	same(t, "the copy", c, before)

	c.Store(0, []byte{0, 0, 0})
	c.SetWord(60, 0)
	c.Zero(1)
	same(t, "behind changes of its copy", m, before)

	c = m.Copy()
	m.Zero(0)
	m.Zero(1)
	same(t, "the copy behind changes of what it was made of", c, before)
}

// Promise 1.3: no call panics, whatever numbers it is given.
func TestNoPanic(t *testing.T) {
	wild := []int{math.MinInt, math.MinInt + 1, -1 << 62, -16385, -65, -64, -4, -1, 0, 1, 3, 4, 60, 61, 63, 64, 65, 128, 16380, 16384, 16385, 1 << 31, 1 << 32, 1 << 58, 1 << 62, math.MaxInt - 4, math.MaxInt - 3, math.MaxInt}
	lists := [][]byte{nil, {}, {1}, make([]byte, 64), make([]byte, 16384), make([]byte, 16385)}
	for _, frames := range wild {
		m := New(frames)
		for _, at := range wild {
			for _, n := range wild {
				if b, e := m.Load(at, n); e == api.OK && len(b) != n {
					t.Errorf("Load(%d, %d): %d bytes", at, n, len(b))
				}
			}
			for _, b := range lists {
				m.Store(at, b)
			}
			m.Word(at)
			m.SetWord(at, math.MaxUint32)
			m.Zero(at)
		}
		if m.Copy().Size() != m.Size() {
			t.Error("a copy of another size")
		}
	}
}
