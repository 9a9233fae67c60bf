package ring

import (
	"bytes"
	"math"
	"math/rand"
	"slices"
	"testing"

	"commonage/api"
)

var wild = []int{math.MinInt, math.MinInt + 1, -1 << 62, -1 << 32, -65536, -257, -256, -255, -33, -32, -31, -2, -1, 0, 1, 2, 3, 4, 7, 8, 9, 15, 16, 30, 31, 32, 33, 34, 63, 64, 65, 127, 128, 255, 256, 257, 258, 264, 287, 288, 65535, 65536, 1 << 31, 1 << 32, 1<<32 + 1, 1<<32 + 31, 1 << 62, math.MaxInt - 1, math.MaxInt}

// okOf is Ok in the chapter's words.
func okOf(p api.Pipe) bool {
	if p.Head < 0 || p.Head > 31 {
		return false
	}
	if p.Count < 0 || p.Count > 32 {
		return false
	}
	if p.Readers < 0 || p.Readers > 8 {
		return false
	}
	return p.Writers >= 0 && p.Writers <= 8
}

// rowOf are the 40 bytes of these numbers and Data, in the chapter's words, whether they are a pipe's or not.
func rowOf(p api.Pipe) []byte {
	b := []byte{1, byte(p.Head), byte(p.Count), byte(p.Readers), byte(p.Writers), 197, 0, 0}
	return mended(append(b, p.Data[:]...))
}

// mended has 40 bytes with the sum that the ones ahead of it ask for.
func mended(b []byte) []byte {
	sum := 6
	for _, x := range b[:6] {
		sum += int(x)
	}
	b[6] = byte(sum % 256)
	return b
}

// decodeOf is Decode in the chapter's words.
func decodeOf(b []byte) (api.Pipe, int) {
	if len(b) != 40 {
		return api.Pipe{}, api.DBad
	}
	if bytes.Equal(b, make([]byte, 40)) {
		return api.Pipe{}, api.DFree
	}
	p := api.Pipe{Head: int(b[1]), Count: int(b[2]), Readers: int(b[3]), Writers: int(b[4]), Data: [32]byte(b[8:])}
	if okOf(p) && bytes.Equal(rowOf(p), b) {
		return p, api.DGood
	}
	return api.Pipe{}, api.DBad
}

// bytesOf is Bytes in the chapter's words, by stepping round Data.
func bytesOf(p api.Pipe) []byte {
	if !okOf(p) {
		return nil
	}
	var l []byte
	for at := p.Head; len(l) < p.Count; at++ {
		if at == 32 {
			at = 0
		}
		l = append(l, p.Data[at])
	}
	return l
}

// putOf is Put in the chapter's words, byte by byte.
func putOf(p api.Pipe, b []byte) (api.Pipe, int) {
	n := 0
	for okOf(p) && p.Count < 32 && n < len(b) {
		at := p.Head + p.Count
		if at >= 32 {
			at -= 32
		}
		p.Data[at] = b[n]
		p.Count++
		n++
	}
	return p, n
}

// takeOf is Take in the chapter's words, byte by byte.
func takeOf(p api.Pipe, n int) (api.Pipe, []byte) {
	var l []byte
	for okOf(p) && p.Count > 0 && len(l) < n {
		l = append(l, p.Data[p.Head])
		p.Head++
		if p.Head == 32 {
			p.Head = 0
		}
		p.Count--
	}
	return p, l
}

// roomy has these bytes, and others in the spare room behind them.
func roomy(b []byte) []byte {
	return append(slices.Clone(b), 201, 202, 203, 204)[:len(b)]
}

// same fails unless b is as roomy made it of want.
func same(t *testing.T, what string, b, want []byte) {
	t.Helper()
	if !bytes.Equal(b, want) || !bytes.Equal(b[len(b):len(b)+4], []byte{201, 202, 203, 204}) {
		t.Errorf("%s left %v", what, b[:len(b)+4])
	}
}

// decodes fails unless Decode answers of b what the chapter says, and leaves it and its spare room.
func decodes(t *testing.T, b []byte) int {
	t.Helper()
	want, kind := decodeOf(b)
	in := roomy(b)
	if p, is := Decode(in); p != want || is != kind {
		t.Errorf("Decode(%v) = %v, %d, want %v, %d", b, p, is, want, kind)
	}
	same(t, "Decode", in, b)
	return kind
}

// encodes fails unless Ok and Encode answer of p what the chapter says, and it is read back as it was.
func encodes(t *testing.T, p api.Pipe) bool {
	t.Helper()
	ok := okOf(p)
	if Ok(p) != ok {
		t.Errorf("Ok(%v) = %v", p, !ok)
	}
	var want []byte
	if ok {
		want = rowOf(p)
	}
	b, is := Encode(p)
	if !bytes.Equal(b, want) || is != ok {
		t.Errorf("Encode(%v) = %v, %v, want %v, %v", p, b, is, want, ok)
	}
	if !ok {
		return false
	}
	if q, kind := Decode(b); q != p || kind != api.DGood {
		t.Errorf("Decode(Encode(%v)) = %v, %d", p, q, kind)
	}
	return true
}

// puts fails unless Put answers of p and b what the chapter says, and leaves b and its spare room.
func puts(t *testing.T, p api.Pipe, b []byte) (api.Pipe, int) {
	t.Helper()
	want, k := putOf(p, b)
	in := roomy(b)
	q, n := Put(p, in)
	if q != want || n != k {
		t.Errorf("Put(%v, %v) = %v, %d, want %v, %d", p, b, q, n, want, k)
	}
	same(t, "Put", in, b)
	return q, n
}

// takes fails unless Take answers of p and n what the chapter says.
func takes(t *testing.T, p api.Pipe, n int) (api.Pipe, []byte) {
	t.Helper()
	want, l := takeOf(p, n)
	q, b := Take(p, n)
	if q != want || !bytes.Equal(b, l) {
		t.Errorf("Take(%v, %d) = %v, %v, want %v, %v", p, n, q, b, want, l)
	}
	return q, b
}

// data has another number in each place, none of them 0.
func data() [32]byte {
	var d [32]byte
	for i := range d {
		d[i] = byte(100 + 3*i)
	}
	return d
}

// counting are n numbers from 1 on.
func counting(n int) []byte {
	b := make([]byte, n)
	for i := range b {
		b[i] = byte(i + 1)
	}
	return b
}

// bases are pipes that are Ok, the plainest one and the greatest one among them.
func bases() []api.Pipe {
	return []api.Pipe{
		{}, {Readers: 1}, {Writers: 1}, {Head: 31, Count: 32, Readers: 8, Writers: 8, Data: data()},
		{Head: 30, Count: 3, Readers: 1, Writers: 2, Data: data()}, {Head: 5, Count: 20, Readers: 2, Writers: 1, Data: data()},
	}
}

// fields are p's numbers, to be set.
func fields(p *api.Pipe) []*int {
	return []*int{&p.Head, &p.Count, &p.Readers, &p.Writers}
}

// wrongs are pipes that are not Ok, each for one of its numbers.
func wrongs() []api.Pipe {
	var l []api.Pipe
	for _, base := range bases() {
		for i := range fields(&base) {
			for _, n := range wild {
				p := base
				*fields(&p)[i] = n
				if !okOf(p) {
					l = append(l, p)
				}
			}
		}
	}
	return l
}

// Promise 13.2: the chapter's example.
func TestExample(t *testing.T) {
	p, n := Put(api.Pipe{}, []byte{1, 2, 3})
	if n != 3 {
		t.Error(n)
	}
	q, b := Take(p, 2)
	if !bytes.Equal(b, []byte{1, 2}) || !bytes.Equal(Bytes(q), []byte{3}) {
		t.Error(b, q)
	}
}

// Promise 13.1: what is Ok, and what is just beside it, told one by one.
func TestOk(t *testing.T) {
	for i, x := range []struct {
		p    api.Pipe
		want bool
	}{
		{api.Pipe{}, true}, {api.Pipe{Data: data()}, true}, {api.Pipe{Head: 31, Count: 32, Readers: 8, Writers: 8}, true},
		{api.Pipe{Head: 31}, true}, {api.Pipe{Head: 32}, false}, {api.Pipe{Head: -1}, false}, {api.Pipe{Head: 256}, false},
		{api.Pipe{Count: 1}, true}, {api.Pipe{Count: 32}, true}, {api.Pipe{Count: 33}, false}, {api.Pipe{Count: -1}, false}, {api.Pipe{Count: 256}, false},
		{api.Pipe{Readers: 8}, true}, {api.Pipe{Readers: 9}, false}, {api.Pipe{Readers: -1}, false}, {api.Pipe{Readers: 256}, false},
		{api.Pipe{Writers: 8}, true}, {api.Pipe{Writers: 9}, false}, {api.Pipe{Writers: -1}, false}, {api.Pipe{Writers: 256}, false},
	} {
		if Ok(x.p) != x.want {
			t.Errorf("%d: Ok(%v) = %v", i, x.p, !x.want)
		}
		if okOf(x.p) != x.want {
			t.Errorf("%d: the model says of %v %v", i, x.p, !x.want)
		}
		encodes(t, x.p)
	}
}

// Promise 13.1 (W7): all pipes that there are but for their Data, and all around them, their bytes, and that each is read as it was.
func TestThereAndBack(t *testing.T) {
	good := 0
	p := api.Pipe{Data: data()}
	for p.Head = -2; p.Head <= 34; p.Head++ {
		for p.Count = -2; p.Count <= 35; p.Count++ {
			for p.Readers = -1; p.Readers <= 9; p.Readers++ {
				for p.Writers = -1; p.Writers <= 9; p.Writers++ {
					if encodes(t, p) {
						good++
					}
				}
			}
		}
	}
	if good != 32*33*9*9 {
		t.Error(good, "are good")
	}
}

// Promise 13.1: every number with whatever value, the others being good; and two of them at a time.
func TestEachField(t *testing.T) {
	for _, base := range bases() {
		if !encodes(t, base) {
			t.Error("not Ok", base)
		}
		for i := range fields(&base) {
			for _, n := range wild {
				p := base
				*fields(&p)[i] = n
				encodes(t, p)
				for j := range i {
					for _, m := range wild {
						*fields(&p)[j] = m
						encodes(t, p)
						*fields(&p)[j] = *fields(&base)[j]
					}
				}
			}
		}
	}
}

// Promise 13.1: Data is any, in each place, within what the pipe has and beside it; and it is no part of the sum.
func TestAnyData(t *testing.T) {
	r := rand.New(rand.NewSource(1))
	for _, p := range bases() {
		for at := range p.Data {
			for n := range 256 {
				q := p
				q.Data[at] = byte(n)
				encodes(t, q)
			}
		}
		was := rowOf(p)
		for range 1000 {
			r.Read(p.Data[:])
			encodes(t, p)
			if b, _ := Encode(p); !bytes.Equal(b[:8], was[:8]) {
				t.Fatal(b, was)
			}
		}
	}
}

// Promise 13.1: each byte in its place, the sum of those ahead, one of 0, and Data as it lies.
func TestBytesOfRow(t *testing.T) {
	d := [32]byte{7, 5: 99, 30: 5, 31: 6}
	for _, x := range []struct {
		p    api.Pipe
		want []byte
	}{
		{api.Pipe{}, []byte{1, 0, 0, 0, 0, 197, 204, 0}},
		{api.Pipe{Head: 2, Count: 3, Readers: 4, Writers: 5}, []byte{1, 2, 3, 4, 5, 197, 218, 0}},
		{api.Pipe{Head: 30, Count: 3, Readers: 1, Writers: 2, Data: d}, []byte{1, 30, 3, 1, 2, 197, 240, 0}},
		{api.Pipe{Head: 20, Count: 32}, []byte{1, 20, 32, 0, 0, 197, 0, 0}},
		{api.Pipe{Head: 31, Count: 32, Readers: 8, Writers: 8, Data: d}, []byte{1, 31, 32, 8, 8, 197, 27, 0}},
	} {
		want := append(x.want, x.p.Data[:]...)
		if b, ok := Encode(x.p); !bytes.Equal(b, want) || !ok {
			t.Errorf("Encode(%v) = %v, %v, want %v, true", x.p, b, ok, want)
		}
		if p, is := Decode(want); p != x.p || is != api.DGood {
			t.Errorf("Decode(%v) = %v, %d, want %v, 1", want, p, is, x.p)
		}
	}
}

// Promise 13.1: bytes of another number are bad, blank or good ones with some more or less too.
func TestLengths(t *testing.T) {
	for n := range 100 {
		kind := decodes(t, make([]byte, n))
		if want := map[bool]int{true: api.DFree, false: api.DBad}[n == 40]; kind != want {
			t.Error(n, kind)
		}
		for _, p := range bases() {
			b := make([]byte, n)
			copy(b, rowOf(p))
			if kind := decodes(t, b); (kind == api.DGood) != (n == 40) {
				t.Error(n, p, kind)
			}
		}
	}
	if p, is := Decode(nil); p != (api.Pipe{}) || is != api.DBad {
		t.Error(p, is)
	}
}

// Promise 13.1: one byte beside a blank row is bad, among the Data too.
func TestAlmostFree(t *testing.T) {
	for at := range 40 {
		for n := 1; n < 256; n++ {
			b := make([]byte, 40)
			b[at] = byte(n)
			if kind := decodes(t, b); kind != api.DBad {
				t.Error(at, n, kind)
			}
		}
	}
}

// Promise 13.1: every byte ahead of the Data with every other number is bad by its sum, and with the sum mended good only where the pipe is; of the Data every one is good.
func TestEachByte(t *testing.T) {
	kinds := [3]int{}
	for _, p := range bases() {
		for at := range 40 {
			for n := range 256 {
				b := rowOf(p)
				good := at >= 8 || b[at] == byte(n)
				b[at] = byte(n)
				if kind := decodes(t, b); (kind == api.DGood) != good {
					t.Error(p, at, n, kind)
				}
				if at < 8 {
					kinds[decodes(t, mended(b))]++
				}
			}
		}
	}
	if kinds[api.DFree] != 0 || kinds[api.DGood] < 800 || kinds[api.DBad] < 8000 {
		t.Error(kinds)
	}
}

// Promise 13.1: two bytes that make up for each other in the sum, which alone would not tell.
func TestSwapped(t *testing.T) {
	for _, p := range bases() {
		for at := range 40 {
			for to := range 40 {
				b := rowOf(p)
				b[at], b[to] = b[to], b[at]
				decodes(t, b)
				b = rowOf(p)
				b[at]++
				b[to]--
				decodes(t, b)
			}
		}
	}
}

// Promise 13.1: good numbers and a good sum, with each two bytes of the first one, the mark and the one of 0.
func TestMarks(t *testing.T) {
	for _, p := range bases() {
		for n := range 256 {
			for m := range 256 {
				b := rowOf(p)
				b[0], b[5] = byte(n), byte(m)
				if kind := decodes(t, mended(b)); (kind == api.DGood) != (n == 1 && m == 197) {
					t.Error(p, "first and mark", n, m, kind)
				}
				b = rowOf(p)
				b[5], b[7] = byte(n), byte(m)
				if kind := decodes(t, mended(b)); (kind == api.DGood) != (n == 197 && m == 0) {
					t.Error(p, "mark and last", n, m, kind)
				}
			}
		}
	}
}

// pipeOf is some pipe.
func pipeOf(r *rand.Rand) api.Pipe {
	p := api.Pipe{Head: r.Intn(32), Count: r.Intn(33), Readers: r.Intn(9), Writers: r.Intn(9)}
	r.Read(p.Data[:])
	return p
}

// Promise 13.1 (W7): each row of bytes is free, one pipe, which has just these bytes, or bad.
func TestOneOfThree(t *testing.T) {
	r := rand.New(rand.NewSource(2))
	kinds := [3]int{}
	for i := range 40000 {
		b := make([]byte, 40)
		if i%4 == 0 {
			r.Read(b)
			b[0], b[1], b[2], b[3], b[4], b[5], b[7] = 1, b[1]%34, b[2]%35, b[3]%10, b[4]%10, 197, 0
		} else if i%4 > 1 {
			b = rowOf(pipeOf(r))
		}
		for range r.Intn(3) {
			b[r.Intn(12)] ^= 1 << r.Intn(8)
		}
		if r.Intn(2) == 0 && !bytes.Equal(b, make([]byte, 40)) {
			b = mended(b)
		}
		kind := decodes(t, b)
		kinds[kind]++
		p, _ := Decode(b)
		again, ok := Encode(p)
		if kind == api.DGood && (!ok || !bytes.Equal(again, b)) {
			t.Errorf("Encode(Decode(%v)) = %v, %v", b, again, ok)
		}
	}
	for kind, n := range kinds {
		if n < 2000 {
			t.Error("only", n, "of kind", kind)
		}
	}
}

// Promise 13.2: Bytes are Count bytes of Data from Head on, the first behind the last, from each Head and of each Count.
func TestBytes(t *testing.T) {
	d := data()
	twice := append(slices.Clone(d[:]), d[:]...)
	for head := range 32 {
		for count := range 33 {
			p := api.Pipe{Head: head, Count: count, Readers: head % 9, Writers: count % 9, Data: d}
			if b := Bytes(p); !bytes.Equal(b, twice[head:head+count]) || !bytes.Equal(b, bytesOf(p)) {
				t.Errorf("Bytes(%v) = %v", p, b)
			}
		}
	}
}

// Promise 13.2: Put puts as many as there is room for, from each Head, behind each Count, of each number; all else stays.
func TestPut(t *testing.T) {
	for head := range 32 {
		for count := range 33 {
			for k := range 70 {
				p := api.Pipe{Head: head, Count: count, Readers: head % 9, Writers: count % 9, Data: data()}
				b := counting(k)
				q, n := puts(t, p, b)
				if n != min(k, 32-count) || !bytes.Equal(Bytes(q), append(Bytes(p), b[:n]...)) {
					t.Errorf("Put(%v, %v) = %v, %d", p, b, q, n)
				}
				for i := count + n; i < 32; i++ {
					if at := (head + i) % 32; q.Data[at] != p.Data[at] {
						t.Errorf("Put(%v, %v) altered place %d: %v", p, b, at, q)
					}
				}
			}
			if p := (api.Pipe{Head: head, Count: count, Data: data()}); p != first(Put(p, nil)) {
				t.Error("Put of nothing altered", p)
			}
		}
	}
}

// first is the first one of two.
func first[A, B any](a A, _ B) A { return a }

// Promise 13.2: Put takes whatever bytes as they are, many of them too.
func TestPutAnyBytes(t *testing.T) {
	for n := range 256 {
		p, k := puts(t, api.Pipe{Head: n % 32, Data: data()}, bytes.Repeat([]byte{byte(n)}, 20))
		if k != 20 || !bytes.Equal(Bytes(p), bytes.Repeat([]byte{byte(n)}, 20)) {
			t.Error(n, p, k)
		}
	}
	long := bytes.Repeat(counting(255), 5000)
	p, n := Put(api.Pipe{Head: 3, Count: 4, Data: data()}, long)
	if n != 28 || !bytes.Equal(Bytes(p)[4:], long[:28]) {
		t.Error(n, p)
	}
}

// Promise 13.2: Take takes at most n, the first ones, from each Head, of each Count; Head goes round; Data stays, and all else.
func TestTake(t *testing.T) {
	for head := range 32 {
		for count := range 33 {
			p := api.Pipe{Head: head, Count: count, Readers: head % 9, Writers: count % 9, Data: data()}
			for _, n := range append(counting33(), wild...) {
				q, b := takes(t, p, n)
				k := len(b)
				if k != max(0, min(n, count)) || q.Head != (head+k)%32 || q.Count != count-k || q.Data != p.Data || q.Readers != p.Readers || q.Writers != p.Writers {
					t.Errorf("Take(%v, %d) = %v, %v", p, n, q, b)
				}
				if !bytes.Equal(append(b, Bytes(q)...), Bytes(p)) {
					t.Errorf("Take(%v, %d) = %v, %v", p, n, q, b)
				}
			}
		}
	}
}

// counting33 are 0 to 33.
func counting33() []int {
	var l []int
	for n := range 34 {
		l = append(l, n)
	}
	return l
}

// Promise 13.2: of one that is not Ok there are no bytes, nothing is put or taken, and it is answered as it is.
func TestNotOk(t *testing.T) {
	for _, p := range wrongs() {
		if b := Bytes(p); len(b) != 0 {
			t.Errorf("Bytes(%v) = %v", p, b)
		}
		for _, k := range []int{0, 1, 5, 32, 40} {
			if q, n := puts(t, p, counting(k)); q != p || n != 0 {
				t.Errorf("Put(%v, %d bytes) = %v, %d", p, k, q, n)
			}
		}
		for _, n := range wild {
			if q, b := takes(t, p, n); q != p || len(b) != 0 {
				t.Errorf("Take(%v, %d) = %v, %v", p, n, q, b)
			}
		}
	}
}

// Promise 13.2: a pipe without Readers and Writers flows as any other; neither hangs on them.
func TestEndsDoNotMatter(t *testing.T) {
	for ends := range 81 {
		p := api.Pipe{Head: 29, Count: 2, Readers: ends / 9, Writers: ends % 9, Data: data()}
		q, n := puts(t, p, []byte{1, 2, 3})
		r, b := takes(t, q, 4)
		if n != 3 || !bytes.Equal(b, []byte{p.Data[29], p.Data[30], 1, 2}) || r.Readers != ends/9 || r.Writers != ends%9 {
			t.Error(ends, n, b, r)
		}
	}
}

// Promise 13.3 (W4): from each Head, what comes out is what went in, in order, and never are there more than 32.
func TestQueue(t *testing.T) {
	r := rand.New(rand.NewSource(3))
	for head := range 32 {
		p := api.Pipe{Head: head, Readers: 1, Writers: 1, Data: data()}
		var queue []byte
		for range 1000 {
			if b := counting(r.Intn(45)); r.Intn(2) == 0 {
				r.Read(b)
				q, n := puts(t, p, b)
				if n > len(b) || n < len(b) && len(queue)+n != 32 {
					t.Fatal(p, b, n)
				}
				p, queue = q, append(queue, b[:n]...)
			} else {
				q, l := takes(t, p, len(b)-3)
				if len(l) > len(queue) || !bytes.Equal(l, queue[:len(l)]) {
					t.Fatal(p, l, queue)
				}
				p, queue = q, queue[len(l):]
			}
			if len(queue) > 32 || p.Count != len(queue) || !bytes.Equal(Bytes(p), queue) || !Ok(p) {
				t.Fatal(p, queue)
			}
		}
	}
}

// Promise 13.3 (W4): a long row of bytes comes through as it went in, by whatever pieces, and there and back as bytes between them (W7).
func TestStream(t *testing.T) {
	r := rand.New(rand.NewSource(4))
	in := make([]byte, 20000)
	r.Read(in)
	rest, p := in, api.Pipe{}
	var out []byte
	for i := 0; len(out) < len(in); i++ {
		if i == 1000000 {
			t.Fatal("no end of it")
		}
		q, n := Put(p, rest[:min(r.Intn(40), len(rest))])
		rest = rest[n:]
		b, ok := Encode(q)
		s, is := Decode(b)
		if !ok || is != api.DGood || s != q {
			t.Fatal(q, b, s, is)
		}
		taken, l := Take(s, r.Intn(40))
		p, out = taken, append(out, l...)
	}
	if !bytes.Equal(out, in) || len(rest) != 0 || p.Count != 0 {
		t.Error(len(out), len(rest), p)
	}
}

// Promise 13.3 (W4): full and empty are told apart, at each Head.
func TestFullAndEmpty(t *testing.T) {
	for head := range 32 {
		p := api.Pipe{Head: head}
		full, n := puts(t, p, counting(32))
		if n != 32 || full.Head != head || full.Count != 32 {
			t.Error(head, n, full)
		}
		if q, n := puts(t, full, []byte{9}); n != 0 || q != full {
			t.Error(head, n, q)
		}
		empty, b := takes(t, full, 32)
		if !bytes.Equal(b, counting(32)) || empty.Head != head || empty.Count != 0 {
			t.Error(head, b, empty)
		}
		if q, b := takes(t, empty, 1); len(b) != 0 || q != empty {
			t.Error(head, b, q)
		}
	}
}

// DOC.md, rule 3: what is answered is new memory, its spare room too; the same is answered of each call.
func TestNewMemory(t *testing.T) {
	p := api.Pipe{Head: 30, Count: 7, Readers: 1, Writers: 1, Data: data()}
	for i, call := range []func() []byte{
		func() []byte { b, _ := Encode(p); return b },
		func() []byte { return Bytes(p) },
		func() []byte { _, b := Take(p, 5); return b },
	} {
		one, two := call(), call()
		want := slices.Clone(two)
		for k := range one[:cap(one)] {
			one[:cap(one)][k] = 99
		}
		if !bytes.Equal(two, want) || !bytes.Equal(call(), want) || p.Data != data() {
			t.Error(i, two, want)
		}
	}
}

// DOC.md, rule 3: what is handed in is not kept: a pipe stays, though the bytes that it was read off, or that were put, alter.
func TestNotKept(t *testing.T) {
	p := api.Pipe{Head: 30, Count: 7, Readers: 1, Writers: 1, Data: data()}
	b := rowOf(p)
	q, _ := Decode(b)
	more := counting(9)
	full, _ := Put(p, more)
	was := full
	clear(b)
	clear(more)
	if q != p || full != was || !bytes.Equal(Bytes(full)[7:], counting(9)) {
		t.Error(q, full)
	}
}

// Promise 13.4: no call panics.
func TestNoPanic(t *testing.T) {
	for _, n := range wild {
		for _, m := range wild {
			for _, p := range []api.Pipe{{Head: n, Count: m, Readers: n, Writers: m}, {Head: n, Count: m}, {Head: m, Count: 32}, {Readers: n, Writers: m}} {
				Ok(p)
				Encode(p)
				Bytes(p)
				Put(p, nil)
				Put(p, counting(33))
				Take(p, n)
				Take(p, m)
			}
		}
	}
	for n := range 300 {
		for _, x := range []byte{0, 1, 2, 31, 32, 197, 255} {
			Decode(bytes.Repeat([]byte{x}, n))
		}
	}
}
