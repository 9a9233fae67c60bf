package pslot

import (
	"bytes"
	"math"
	"math/rand"
	"slices"
	"testing"

	"commonage/api"
)

var wild = []int{math.MinInt, math.MinInt + 1, -1 << 62, -1 << 32, -65536, -256, -255, -3, -2, -1, 0, 1, 2, 3, 4, 5, 6, 7, 8, 9, 10, 11, 12, 13, 14, 15, 16, 127, 128, 254, 255, 256, 257, 1 << 9, 1 << 14, 1<<9 | 1<<14, 1<<14 + 1, 65534, 65535, 65536, 65537, 65538, 1 << 31, 1 << 32, 1<<32 + 1, 1<<32 + 2, 1 << 62, math.MaxInt - 1, math.MaxInt}

// okOf is Ok in the chapter's words.
func okOf(p api.Proc) bool {
	if p.State < 1 || p.State > 3 || p.Parent < 0 || p.Parent > 8 || p.Group < 0 || p.Group > 7 || p.Code < 0 || p.Code > 255 {
		return false
	}
	for _, set := range []int{p.Pending, p.Mask, p.Ignored, p.Caught} {
		if set < 0 || set > 65535 || set%2 == 1 {
			return false
		}
	}
	for _, set := range []int{p.Mask, p.Ignored, p.Caught} {
		if has(set, 9) || has(set, 14) {
			return false
		}
	}
	for n := 1; n <= 15; n++ {
		if has(p.Ignored, n) && has(p.Caught, n) {
			return false
		}
	}
	open := 0
	for _, fd := range p.Fds {
		if fd < 0 || fd > 12 {
			return false
		}
		open += fd
	}
	if p.State == 2 {
		return open == 0 && p.Pending == 0
	}
	return p.Code == 0
}

func has(set, n int) bool {
	return set>>n%2 == 1
}

// bytesOf are the bytes of a process that is Ok, in the chapter's words.
func bytesOf(p api.Proc) []byte {
	b := []byte{byte(p.State), byte(p.Parent), byte(p.Group), byte(p.Code)}
	for _, set := range []int{p.Pending, p.Mask, p.Ignored, p.Caught} {
		b = append(b, byte(set/256), byte(set%256))
	}
	for _, fd := range p.Fds {
		b = append(b, byte(fd))
	}
	return mended(append(b, 167, 0, 0, 0))
}

// mended has 24 bytes with the sum that the ones ahead of it ask for.
func mended(b []byte) []byte {
	sum := 21
	for _, x := range b[:21] {
		sum += int(x)
	}
	b[21] = byte(sum % 256)
	return b
}

// readOf is the process whose fields these 24 bytes tell, Ok or not.
func readOf(b []byte) api.Proc {
	two := func(at int) int { return int(b[at])*256 + int(b[at+1]) }
	p := api.Proc{State: int(b[0]), Parent: int(b[1]), Group: int(b[2]), Code: int(b[3]), Pending: two(4), Mask: two(6), Ignored: two(8), Caught: two(10)}
	for i := range 8 {
		p.Fds[i] = int(b[12+i])
	}
	return p
}

// decodeOf is Decode in the chapter's words.
func decodeOf(b []byte) (api.Proc, int) {
	if len(b) != 24 {
		return api.Proc{}, api.DBad
	}
	if bytes.Equal(b, make([]byte, 24)) {
		return api.Proc{}, api.DFree
	}
	p := readOf(b)
	if okOf(p) && bytes.Equal(bytesOf(p), b) {
		return p, api.DGood
	}
	return api.Proc{}, api.DBad
}

// decodes fails unless Decode, and a Codec's, answer of b what the chapter says, and leave it and its spare room.
func decodes(t *testing.T, b []byte) int {
	t.Helper()
	want, kind := decodeOf(b)
	in := append(slices.Clone(b), 201, 202, 203, 204)
	if p, is := Decode(in[:len(b)]); p != want || is != kind {
		t.Errorf("Decode(%v) = %v, %d, want %v, %d", b, p, is, want, kind)
	}
	if p, ok := Codec().Decode(in[:len(b)]); p != want || ok != (kind == api.DGood) {
		t.Errorf("a Codec's Decode(%v) = %v, %v, want %v of kind %d", b, p, ok, want, kind)
	}
	if !bytes.Equal(in[:len(b)], b) || !bytes.Equal(in[len(b):], []byte{201, 202, 203, 204}) {
		t.Errorf("Decode(%v) left %v", b, in)
	}
	return kind
}

// encodes fails unless Ok, Encode, and a Codec's, answer of p what the chapter says, and it is read back as it was.
func encodes(t *testing.T, p api.Proc) bool {
	t.Helper()
	ok := okOf(p)
	if Ok(p) != ok {
		t.Errorf("Ok(%v) = %v", p, !ok)
	}
	var want []byte
	if ok {
		want = bytesOf(p)
	}
	b, is := Encode(p)
	if !bytes.Equal(b, want) || is != ok {
		t.Errorf("Encode(%v) = %v, %v, want %v, %v", p, b, is, want, ok)
	}
	if b, is := Codec().Encode(p); !bytes.Equal(b, want) || is != ok {
		t.Errorf("a Codec's Encode(%v) = %v, %v, want %v, %v", p, b, is, want, ok)
	}
	if !ok {
		return false
	}
	if q, kind := Decode(b); q != p || kind != api.DGood {
		t.Errorf("Decode(Encode(%v)) = %v, %d", p, q, kind)
	}
	return true
}

func live() api.Proc {
	return api.Proc{State: api.PLive, Parent: 3, Group: 2, Pending: 1<<9 | 1<<2, Mask: 1 << 13, Ignored: 1 << 2, Caught: 1<<3 | 1<<15, Fds: [8]int{1, 2, 3, 0, 0, 12, 0, 7}}
}

func stopped() api.Proc {
	p := live()
	p.State = api.PStopped
	return p
}

func zombie() api.Proc {
	return api.Proc{State: api.PZombie, Parent: 8, Group: 7, Code: 41, Mask: 1 << 1, Ignored: 1 << 4, Caught: 1 << 5}
}

// bases are processes that are Ok, the plainest ones of each state among them.
func bases() []api.Proc {
	return []api.Proc{live(), stopped(), zombie(), {State: api.PLive}, {State: api.PStopped}, {State: api.PZombie}}
}

// fields are p's numbers, to be set.
func fields(p *api.Proc) []*int {
	l := []*int{&p.State, &p.Parent, &p.Group, &p.Code, &p.Pending, &p.Mask, &p.Ignored, &p.Caught}
	for i := range p.Fds {
		l = append(l, &p.Fds[i])
	}
	return l
}

// Promise 11.2: the chapter's example.
func TestExample(t *testing.T) {
	if p, is := Decode(make([]byte, 24)); p != (api.Proc{}) || is != api.DFree {
		t.Error(p, is)
	}
}

// Promise 11.1: what is Ok, and what is just beside it, told one by one.
func TestOk(t *testing.T) {
	for i, x := range []struct {
		p    api.Proc
		want bool
	}{
		{api.Proc{}, false},
		{live(), true}, {stopped(), true}, {zombie(), true},
		{api.Proc{State: 1}, true}, {api.Proc{State: 2}, true}, {api.Proc{State: 3}, true}, {api.Proc{State: 4}, false}, {api.Proc{State: -1}, false},
		{api.Proc{State: 1, Parent: 8}, true}, {api.Proc{State: 1, Parent: 9}, false}, {api.Proc{State: 1, Parent: -1}, false},
		{api.Proc{State: 1, Group: 7}, true}, {api.Proc{State: 1, Group: 8}, false}, {api.Proc{State: 1, Group: -1}, false},
		{api.Proc{State: 1, Code: 1}, false}, {api.Proc{State: 3, Code: 1}, false}, {api.Proc{State: 1, Code: -1}, false},
		{api.Proc{State: 2, Code: 1}, true}, {api.Proc{State: 2, Code: 255}, true}, {api.Proc{State: 2, Code: 256}, false}, {api.Proc{State: 2, Code: -1}, false},
		{api.Proc{State: 1, Pending: 65534}, true}, {api.Proc{State: 3, Pending: 65534}, true}, {api.Proc{State: 2, Pending: 2}, false},
		{api.Proc{State: 1, Pending: 65535}, false}, {api.Proc{State: 1, Pending: 65536}, false}, {api.Proc{State: 1, Pending: -2}, false},
		{api.Proc{State: 2, Mask: 65534 &^ (1<<9 | 1<<14)}, true}, {api.Proc{State: 1, Ignored: 65534 &^ (1<<9 | 1<<14)}, true}, {api.Proc{State: 1, Caught: 65534 &^ (1<<9 | 1<<14)}, true},
		{api.Proc{State: 1, Mask: 1 << 9}, false}, {api.Proc{State: 1, Ignored: 1 << 9}, false}, {api.Proc{State: 1, Caught: 1 << 9}, false},
		{api.Proc{State: 1, Mask: 1 << 14}, false}, {api.Proc{State: 1, Ignored: 1 << 14}, false}, {api.Proc{State: 1, Caught: 1 << 14}, false},
		{api.Proc{State: 1, Mask: 6, Ignored: 2, Caught: 4, Pending: 6}, true}, {api.Proc{State: 1, Ignored: 6, Caught: 4}, false}, {api.Proc{State: 2, Ignored: 1 << 15, Caught: 1 << 15}, false},
		{api.Proc{State: 1, Fds: [8]int{12, 12, 12, 12, 12, 12, 12, 12}}, true}, {api.Proc{State: 1, Fds: [8]int{13}}, false}, {api.Proc{State: 3, Fds: [8]int{7: 13}}, false}, {api.Proc{State: 1, Fds: [8]int{7: -1}}, false},
		{api.Proc{State: 2, Fds: [8]int{1}}, false}, {api.Proc{State: 2, Fds: [8]int{7: 1}}, false},
	} {
		if Ok(x.p) != x.want {
			t.Errorf("%d: Ok(%v) = %v", i, x.p, !x.want)
		}
		if okOf(x.p) != x.want {
			t.Errorf("%d: the model says of %v %v", i, x.p, !x.want)
		}
		encodes(t, x.p)
	}
}

// Promises 11.1, 11.2: every field of every state with whatever number, the others being good.
func TestEachField(t *testing.T) {
	for _, base := range bases() {
		if !encodes(t, base) {
			t.Error("not Ok", base)
		}
		for i := range fields(&base) {
			for _, n := range wild {
				p := base
				*fields(&p)[i] = n
				encodes(t, p)
			}
		}
	}
}

// Promise 11.1: every signal in every two of the sets, of every state.
func TestSignals(t *testing.T) {
	for _, state := range []int{api.PLive, api.PZombie, api.PStopped} {
		for one := 4; one < 8; one++ {
			for two := one; two < 8; two++ {
				for n := range 64 {
					p := api.Proc{State: state}
					*fields(&p)[one] |= 1 << n
					*fields(&p)[two] |= 1 << n
					encodes(t, p)
					*fields(&p)[two] = 1 << (n%15 + 1)
					encodes(t, p)
				}
			}
		}
	}
}

// procOf is some process, with each field mostly good.
func procOf(r *rand.Rand) api.Proc {
	p := api.Proc{State: 1 + r.Intn(3), Parent: r.Intn(9), Group: r.Intn(8), Pending: r.Intn(65536) &^ 1}
	p.Mask, p.Ignored, p.Caught = r.Intn(65536)&^(1|1<<9|1<<14), r.Intn(65536)&^(1|1<<9|1<<14), r.Intn(65536)&^(1|1<<9|1<<14)
	if r.Intn(8) > 0 {
		p.Caught &^= p.Ignored
	}
	for i := range p.Fds {
		p.Fds[i] = r.Intn(13)
	}
	if p.State == api.PZombie {
		p.Code, p.Pending, p.Fds = r.Intn(256), 0, [8]int{}
	}
	if r.Intn(3) == 0 {
		l := fields(&p)
		*l[r.Intn(len(l))] = wild[r.Intn(len(wild))]
	}
	return p
}

// Promises 11.1, 11.2 (W7): what is Ok, its bytes, and that it is read as it was.
func TestThereAndBack(t *testing.T) {
	r := rand.New(rand.NewSource(1))
	good := 0
	for range 30000 {
		if encodes(t, procOf(r)) {
			good++
		}
	}
	if good < 10000 || good > 28000 {
		t.Error(good, "were good")
	}
}

// Promise 11.2: each byte in its place, the higher one of two first, the sum of those ahead, and two of 0 behind.
func TestBytes(t *testing.T) {
	for _, x := range []struct {
		p    api.Proc
		want []byte
	}{
		{api.Proc{State: 1}, []byte{1, 0, 0, 0, 0, 0, 0, 0, 0, 0, 0, 0, 0, 0, 0, 0, 0, 0, 0, 0, 167, 189, 0, 0}},
		{api.Proc{State: 2, Code: 255}, []byte{2, 0, 0, 255, 0, 0, 0, 0, 0, 0, 0, 0, 0, 0, 0, 0, 0, 0, 0, 0, 167, 189, 0, 0}},
		{api.Proc{State: 3, Parent: 4, Group: 5, Pending: 0x0602, Mask: 0x0804, Ignored: 0x1018, Caught: 0x2020, Fds: [8]int{1, 2, 3, 4, 5, 6, 7, 8}},
			[]byte{3, 4, 5, 0, 6, 2, 8, 4, 16, 24, 32, 32, 1, 2, 3, 4, 5, 6, 7, 8, 167, 104, 0, 0}},
	} {
		if b, ok := Encode(x.p); !bytes.Equal(b, x.want) || !ok {
			t.Errorf("Encode(%v) = %v, %v, want %v, true", x.p, b, ok, x.want)
		}
		if p, is := Decode(x.want); p != x.p || is != api.DGood {
			t.Errorf("Decode(%v) = %v, %d, want %v, 1", x.want, p, is, x.p)
		}
	}
}

// Promise 11.2: bytes of another number are bad, blank or good ones with some more or less too.
func TestLengths(t *testing.T) {
	for n := range 100 {
		kind := decodes(t, make([]byte, n))
		if want := map[bool]int{true: api.DFree, false: api.DBad}[n == 24]; kind != want {
			t.Error(n, kind)
		}
		for _, p := range bases() {
			b := make([]byte, n)
			copy(b, bytesOf(p))
			if kind := decodes(t, b); (kind == api.DGood) != (n == 24) {
				t.Error(n, p, kind)
			}
		}
	}
	if p, is := Decode(nil); p != (api.Proc{}) || is != api.DBad {
		t.Error(p, is)
	}
}

// Promise 11.2: one bit beside a blank row is bad.
func TestAlmostFree(t *testing.T) {
	for at := range 24 {
		for bit := range 8 {
			b := make([]byte, 24)
			b[at] = 1 << bit
			if kind := decodes(t, b); kind != api.DBad {
				t.Error(at, bit, kind)
			}
		}
	}
}

// Promises 11.2, 11.3: every byte of a good row with every other number is bad by its sum, and with the sum mended good only where the process is.
func TestEachByte(t *testing.T) {
	kinds := [3]int{}
	for _, p := range bases() {
		for at := range 24 {
			for n := range 256 {
				b := bytesOf(p)
				same := b[at] == byte(n)
				b[at] = byte(n)
				if kind := decodes(t, b); (kind == api.DGood) != same {
					t.Error(p, at, n, kind)
				}
				kinds[decodes(t, mended(b))]++
			}
		}
	}
	if kinds[api.DFree] != 0 || kinds[api.DGood] < 1000 || kinds[api.DBad] < 20000 {
		t.Error(kinds)
	}
}

// Promise 11.2: two bytes that make up for each other's sum, which alone would not tell.
func TestSwapped(t *testing.T) {
	for _, p := range bases() {
		for at := range 24 {
			for to := range at {
				b := bytesOf(p)
				b[at], b[to] = b[to], b[at]
				decodes(t, b)
				b = bytesOf(p)
				b[at]++
				b[to]--
				decodes(t, b)
			}
		}
	}
}

// Promise 11.3 (W3): each row of bytes is free, one process, which has just these bytes, or bad.
func TestOneOfThree(t *testing.T) {
	r := rand.New(rand.NewSource(2))
	kinds := [3]int{}
	for range 30000 {
		b := make([]byte, 24)
		if p := procOf(r); okOf(p) {
			b = bytesOf(p)
		}
		for range r.Intn(3) {
			b[r.Intn(24)] ^= 1 << r.Intn(8)
		}
		if r.Intn(2) == 0 {
			b = mended(b)
		}
		kind := decodes(t, b)
		kinds[kind]++
		p, _ := Decode(b)
		if again, ok := Encode(p); ok != (kind == api.DGood) || ok && !bytes.Equal(again, b) {
			t.Errorf("Encode(Decode(%v)) = %v, %v", b, again, ok)
		}
	}
	for range 5000 {
		b := make([]byte, 24)
		r.Read(b)
		b[0], b[20], b[22], b[23] = b[0]%4, 167, 0, 0
		kinds[decodes(t, mended(b))]++
	}
	for kind, n := range kinds {
		if n < 500 {
			t.Error("only", n, "of kind", kind)
		}
	}
}

// Promise 11.2: a Codec of processes says the same, of 24 bytes; to it a free row is no process.
func TestCodec(t *testing.T) {
	c := Codec()
	if c == nil || c.Size() != 24 {
		t.Fatal(c)
	}
	for _, p := range bases() {
		b, ok := c.Encode(p)
		if !ok || !bytes.Equal(b, bytesOf(p)) {
			t.Error(p, b, ok)
		}
		if q, ok := c.Decode(b); q != p || !ok {
			t.Error(p, q, ok)
		}
	}
	for _, b := range [][]byte{nil, make([]byte, 23), make([]byte, 24), make([]byte, 25)} {
		if p, ok := c.Decode(b); p != (api.Proc{}) || ok {
			t.Error(b, p, ok)
		}
	}
}

// DOC.md, rule 3: what is answered is new memory, its spare room too, of each call and of each Codec.
func TestNewMemory(t *testing.T) {
	c := Codec()
	if c == Codec() {
		t.Error("one Codec for two")
	}
	for _, encode := range []func(api.Proc) ([]byte, bool){Encode, c.Encode} {
		one, _ := encode(live())
		two, _ := encode(live())
		for i := range one[:cap(one)] {
			one[:cap(one)][i] = 99
		}
		if !bytes.Equal(two, bytesOf(live())) {
			t.Error(two)
		}
		p, _ := Decode(two)
		for i := range two {
			two[i] = 98
		}
		if p != live() {
			t.Error(p)
		}
		encodes(t, live())
	}
}

// Promise 11.4: no call panics.
func TestNoPanic(t *testing.T) {
	for _, n := range wild {
		for _, m := range wild {
			p := api.Proc{}
			for i, field := range fields(&p) {
				*field = []int{n, m}[i%2]
			}
			Ok(p)
			Encode(p)
			Codec().Encode(p)
		}
	}
	for n := range 300 {
		for _, x := range []byte{0, 1, 2, 167, 255} {
			b := bytes.Repeat([]byte{x}, n)
			Decode(b)
			Codec().Decode(b)
		}
	}
}
