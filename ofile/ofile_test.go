package ofile

import (
	"bytes"
	"math"
	"math/rand"
	"slices"
	"testing"

	"commonage/api"
)

var wild = []int{math.MinInt, math.MinInt + 1, -1 << 62, -1 << 32, -65536, -256, -255, -254, -3, -2, -1, 0, 1, 2, 3, 4, 5, 6, 7, 8, 9, 15, 16, 32, 63, 64, 65, 66, 127, 128, 129, 254, 255, 256, 257, 258, 259, 260, 320, 512, 65535, 65536, 65537, 1 << 31, 1 << 32, 1<<32 + 1, 1<<32 + 3, 1 << 62, math.MaxInt - 1, math.MaxInt}

// okOf is Ok in the chapter's words.
func okOf(f api.File) bool {
	if f.Refs < 1 || f.Refs > 64 {
		return false
	}
	if f.Flags != 0 && f.Flags != 1 {
		return false
	}
	switch f.Kind {
	case 1, 2:
		return f.Pipe >= 0 && f.Pipe <= 7
	case 3:
		return f.Pipe == 0
	}
	return false
}

// bytesOf are the bytes of a file that is Ok, in the chapter's words.
func bytesOf(f api.File) []byte {
	return mended([]byte{byte(f.Kind), byte(f.Pipe), byte(f.Refs), byte(f.Flags), 179, 0, 0, 0})
}

// mended has 8 bytes with the sum that the ones ahead of it ask for.
func mended(b []byte) []byte {
	sum := 5
	for _, x := range b[:5] {
		sum += int(x)
	}
	b[5] = byte(sum % 256)
	return b
}

// decodeOf is Decode in the chapter's words.
func decodeOf(b []byte) (api.File, int) {
	if len(b) != 8 {
		return api.File{}, api.DBad
	}
	if bytes.Equal(b, make([]byte, 8)) {
		return api.File{}, api.DFree
	}
	f := api.File{Kind: int(b[0]), Pipe: int(b[1]), Refs: int(b[2]), Flags: int(b[3])}
	if okOf(f) && bytes.Equal(bytesOf(f), b) {
		return f, api.DGood
	}
	return api.File{}, api.DBad
}

// decodes fails unless Decode, and a Codec's, answer of b what the chapter says, and leave it and its spare room.
func decodes(t *testing.T, b []byte) int {
	t.Helper()
	want, kind := decodeOf(b)
	in := append(slices.Clone(b), 201, 202, 203, 204)
	if f, is := Decode(in[:len(b)]); f != want || is != kind {
		t.Errorf("Decode(%v) = %v, %d, want %v, %d", b, f, is, want, kind)
	}
	if f, ok := Codec().Decode(in[:len(b)]); f != want || ok != (kind == api.DGood) {
		t.Errorf("a Codec's Decode(%v) = %v, %v, want %v of kind %d", b, f, ok, want, kind)
	}
	if !bytes.Equal(in[:len(b)], b) || !bytes.Equal(in[len(b):], []byte{201, 202, 203, 204}) {
		t.Errorf("Decode(%v) left %v", b, in)
	}
	return kind
}

// encodes fails unless Ok, Encode, and a Codec's, answer of f what the chapter says, and it is read back as it was.
func encodes(t *testing.T, f api.File) bool {
	t.Helper()
	ok := okOf(f)
	if Ok(f) != ok {
		t.Errorf("Ok(%v) = %v", f, !ok)
	}
	var want []byte
	if ok {
		want = bytesOf(f)
	}
	b, is := Encode(f)
	if !bytes.Equal(b, want) || is != ok {
		t.Errorf("Encode(%v) = %v, %v, want %v, %v", f, b, is, want, ok)
	}
	if b, is := Codec().Encode(f); !bytes.Equal(b, want) || is != ok {
		t.Errorf("a Codec's Encode(%v) = %v, %v, want %v, %v", f, b, is, want, ok)
	}
	if !ok {
		return false
	}
	if g, kind := Decode(b); g != f || kind != api.DGood {
		t.Errorf("Decode(Encode(%v)) = %v, %d", f, g, kind)
	}
	return true
}

// bases are files that are Ok, of each kind, the plainest ones and the greatest ones.
func bases() []api.File {
	return []api.File{
		{Kind: api.FRead, Refs: 1}, {Kind: api.FWrite, Refs: 1}, {Kind: api.FTerm, Refs: 1},
		{Kind: api.FRead, Pipe: 4, Refs: 9, Flags: api.FNow}, {Kind: api.FWrite, Pipe: 7, Refs: 64, Flags: api.FNow}, {Kind: api.FTerm, Refs: 64, Flags: api.FNow},
	}
}

// fields are f's numbers, to be set.
func fields(f *api.File) []*int {
	return []*int{&f.Kind, &f.Pipe, &f.Refs, &f.Flags}
}

// files are all files of these numbers.
func files(kinds, pipes, refs, flags []int) []api.File {
	var l []api.File
	for _, kind := range kinds {
		for _, pipe := range pipes {
			for _, n := range refs {
				for _, flag := range flags {
					l = append(l, api.File{Kind: kind, Pipe: pipe, Refs: n, Flags: flag})
				}
			}
		}
	}
	return l
}

// upTo are the numbers from lo to hi.
func upTo(lo, hi int) []int {
	var l []int
	for n := lo; n <= hi; n++ {
		l = append(l, n)
	}
	return l
}

// Promise 12.2: the chapter's example.
func TestExample(t *testing.T) {
	if f, is := Decode(make([]byte, 8)); f != (api.File{}) || is != api.DFree {
		t.Error(f, is)
	}
}

// Promise 12.1: what is Ok, and what is just beside it, told one by one.
func TestOk(t *testing.T) {
	for i, x := range []struct {
		f    api.File
		want bool
	}{
		{api.File{}, false},
		{api.File{Kind: 1, Refs: 1}, true}, {api.File{Kind: 2, Refs: 1}, true}, {api.File{Kind: 3, Refs: 1}, true},
		{api.File{Kind: 0, Refs: 1}, false}, {api.File{Kind: 4, Refs: 1}, false}, {api.File{Kind: -1, Refs: 1}, false}, {api.File{Kind: 257, Refs: 1}, false},
		{api.File{Kind: 1, Pipe: 3, Refs: 1}, true}, {api.File{Kind: 1, Pipe: 4, Refs: 1}, true}, {api.File{Kind: 1, Pipe: 7, Refs: 1}, true},
		{api.File{Kind: 1, Pipe: 8, Refs: 1}, false}, {api.File{Kind: 1, Pipe: -1, Refs: 1}, false}, {api.File{Kind: 1, Pipe: 256, Refs: 1}, false},
		{api.File{Kind: 2, Pipe: 3, Refs: 1}, true}, {api.File{Kind: 2, Pipe: 4, Refs: 1}, true}, {api.File{Kind: 2, Pipe: 7, Refs: 1}, true},
		{api.File{Kind: 2, Pipe: 8, Refs: 1}, false}, {api.File{Kind: 2, Pipe: -1, Refs: 1}, false}, {api.File{Kind: 2, Pipe: 256, Refs: 1}, false},
		{api.File{Kind: 3, Pipe: 1, Refs: 1}, false}, {api.File{Kind: 3, Pipe: 7, Refs: 1}, false}, {api.File{Kind: 3, Pipe: -1, Refs: 1}, false}, {api.File{Kind: 3, Pipe: 256, Refs: 1}, false},
		{api.File{Kind: 1, Refs: 2}, true}, {api.File{Kind: 2, Refs: 63}, true}, {api.File{Kind: 3, Refs: 64}, true},
		{api.File{Kind: 1, Refs: 0}, false}, {api.File{Kind: 2, Refs: 65}, false}, {api.File{Kind: 3, Refs: 65}, false}, {api.File{Kind: 3, Refs: -1}, false}, {api.File{Kind: 1, Refs: 257}, false},
		{api.File{Kind: 1, Refs: 1, Flags: 1}, true}, {api.File{Kind: 2, Refs: 1, Flags: 1}, true}, {api.File{Kind: 3, Refs: 1, Flags: 1}, true},
		{api.File{Kind: 1, Refs: 1, Flags: 2}, false}, {api.File{Kind: 2, Refs: 1, Flags: 3}, false}, {api.File{Kind: 3, Refs: 1, Flags: -1}, false}, {api.File{Kind: 1, Refs: 1, Flags: 256}, false},
	} {
		if Ok(x.f) != x.want {
			t.Errorf("%d: Ok(%v) = %v", i, x.f, !x.want)
		}
		if okOf(x.f) != x.want {
			t.Errorf("%d: the model says of %v %v", i, x.f, !x.want)
		}
		encodes(t, x.f)
	}
}

// Promises 12.1, 12.2 (W7): all files that there are, and all around them, their bytes, and that each is read as it was.
func TestThereAndBack(t *testing.T) {
	good := 0
	for _, f := range files(upTo(-2, 6), upTo(-2, 10), upTo(-2, 67), upTo(-2, 3)) {
		if encodes(t, f) {
			good++
		}
	}
	// Two kinds with eight pipes each and one with one, with 64 Refs and two Flags each.
	if good != (2*8+1)*64*2 {
		t.Error(good, "are good")
	}
}

// Promise 12.1: every field of every kind with whatever number, the others being good; and two of them at a time.
func TestEachField(t *testing.T) {
	for _, base := range bases() {
		if !encodes(t, base) {
			t.Error("not Ok", base)
		}
		for i := range fields(&base) {
			for _, n := range wild {
				f := base
				*fields(&f)[i] = n
				encodes(t, f)
				for j := range i {
					for _, m := range wild {
						*fields(&f)[j] = m
						encodes(t, f)
						*fields(&f)[j] = *fields(&base)[j]
					}
				}
			}
		}
	}
}

// Promise 12.2: each byte in its place, the sum of those ahead, and two of 0 behind.
func TestBytes(t *testing.T) {
	for _, x := range []struct {
		f    api.File
		want []byte
	}{
		{api.File{Kind: api.FRead, Refs: 1}, []byte{1, 0, 1, 0, 179, 186, 0, 0}},
		{api.File{Kind: api.FRead, Pipe: 3, Refs: 16, Flags: api.FNow}, []byte{1, 3, 16, 1, 179, 205, 0, 0}},
		{api.File{Kind: api.FWrite, Pipe: 6, Refs: 5}, []byte{2, 6, 5, 0, 179, 197, 0, 0}},
		{api.File{Kind: api.FWrite, Pipe: 5, Refs: 64, Flags: api.FNow}, []byte{2, 5, 64, 1, 179, 0, 0, 0}},
		{api.File{Kind: api.FTerm, Refs: 64}, []byte{3, 0, 64, 0, 179, 251, 0, 0}},
		{api.File{Kind: api.FTerm, Refs: 2, Flags: api.FNow}, []byte{3, 0, 2, 1, 179, 190, 0, 0}},
	} {
		if b, ok := Encode(x.f); !bytes.Equal(b, x.want) || !ok {
			t.Errorf("Encode(%v) = %v, %v, want %v, true", x.f, b, ok, x.want)
		}
		if f, is := Decode(x.want); f != x.f || is != api.DGood {
			t.Errorf("Decode(%v) = %v, %d, want %v, 1", x.want, f, is, x.f)
		}
	}
}

// Promise 12.2: bytes of another number are bad, blank or good ones with some more or less too.
func TestLengths(t *testing.T) {
	for n := range 100 {
		kind := decodes(t, make([]byte, n))
		if want := map[bool]int{true: api.DFree, false: api.DBad}[n == 8]; kind != want {
			t.Error(n, kind)
		}
		for _, f := range bases() {
			b := make([]byte, n)
			copy(b, bytesOf(f))
			if kind := decodes(t, b); (kind == api.DGood) != (n == 8) {
				t.Error(n, f, kind)
			}
		}
	}
	if f, is := Decode(nil); f != (api.File{}) || is != api.DBad {
		t.Error(f, is)
	}
}

// Promise 12.2: one byte beside a blank row is bad.
func TestAlmostFree(t *testing.T) {
	for at := range 8 {
		for n := 1; n < 256; n++ {
			b := make([]byte, 8)
			b[at] = byte(n)
			if kind := decodes(t, b); kind != api.DBad {
				t.Error(at, n, kind)
			}
		}
	}
}

// Promises 12.2, 12.3: every byte of a good row with every other number is bad by its sum, and with the sum mended good only where the file is.
func TestEachByte(t *testing.T) {
	kinds := [3]int{}
	for _, f := range bases() {
		for at := range 8 {
			for n := range 256 {
				b := bytesOf(f)
				same := b[at] == byte(n)
				b[at] = byte(n)
				if kind := decodes(t, b); (kind == api.DGood) != same {
					t.Error(f, at, n, kind)
				}
				kinds[decodes(t, mended(b))]++
			}
		}
	}
	if kinds[api.DFree] != 0 || kinds[api.DGood] < 1000 || kinds[api.DBad] < 8000 {
		t.Error(kinds)
	}
}

// Promise 12.2: two bytes that make up for each other in the sum, which alone would not tell.
func TestSwapped(t *testing.T) {
	for _, f := range files([]int{1, 2, 3}, upTo(0, 7), []int{1, 2, 3, 31, 63, 64}, []int{0, 1}) {
		if !okOf(f) {
			continue
		}
		for at := range 8 {
			for to := range 8 {
				b := bytesOf(f)
				b[at], b[to] = b[to], b[at]
				decodes(t, b)
				b = bytesOf(f)
				b[at]++
				b[to]--
				decodes(t, b)
			}
		}
	}
}

// Promise 12.2: a good sum and good numbers ahead of it, with each mark, and with each two bytes behind.
func TestMarkAndTail(t *testing.T) {
	for _, f := range bases() {
		for n := range 256 {
			b := bytesOf(f)
			b[4] = byte(n)
			if kind := decodes(t, mended(b)); (kind == api.DGood) != (n == 179) {
				t.Error(f, "mark", n, kind)
			}
			for m := range 256 {
				b := bytesOf(f)
				b[6], b[7] = byte(n), byte(m)
				if kind := decodes(t, b); (kind == api.DGood) != (n == 0 && m == 0) {
					t.Error(f, "tail", n, m, kind)
				}
			}
		}
	}
}

// oneOfThree fails unless b is free, or the bytes of the one file that is told of it, or bad.
func oneOfThree(t *testing.T, b []byte) int {
	t.Helper()
	kind := decodes(t, b)
	f, _ := Decode(b)
	if again, ok := Encode(f); ok != (kind == api.DGood) || ok && !bytes.Equal(again, b) {
		t.Errorf("Encode(Decode(%v)) = %v, %v", b, again, ok)
	}
	return kind
}

// Promise 12.3 (W3): each row of bytes is free, one file, which has just these bytes, or bad.
func TestOneOfThree(t *testing.T) {
	r := rand.New(rand.NewSource(1))
	kinds := [3]int{}
	for range 30000 {
		b := make([]byte, 8)
		f := api.File{Kind: 1 + r.Intn(3), Pipe: r.Intn(8), Refs: 1 + r.Intn(64), Flags: r.Intn(2)}
		if okOf(f) && r.Intn(4) > 0 {
			b = bytesOf(f)
		}
		for range r.Intn(3) {
			b[r.Intn(8)] ^= 1 << r.Intn(8)
		}
		if r.Intn(2) == 0 && !bytes.Equal(b, make([]byte, 8)) {
			b = mended(b)
		}
		kinds[oneOfThree(t, b)]++
	}
	for range 5000 {
		b := make([]byte, 8)
		r.Read(b)
		kinds[oneOfThree(t, b)]++
		b[0], b[1], b[2], b[3], b[4], b[6], b[7] = b[0]%5, b[1]%9, b[2]%70, b[3]%3, 179, 0, 0
		kinds[oneOfThree(t, mended(b))]++
	}
	for kind, n := range kinds {
		if n < 500 {
			t.Error("only", n, "of kind", kind)
		}
	}
}

// Promise 12.3 (W3): so is each row whose four numbers are about those of files, with the sum that they ask for.
func TestRowsOfNumbers(t *testing.T) {
	good := 0
	for _, f := range files([]int{0, 1, 2, 3, 4, 255}, []int{0, 1, 2, 3, 4, 5, 6, 7, 8, 9, 128, 255}, append(upTo(0, 67), 128, 129, 192, 255), []int{0, 1, 2, 3, 128, 255}) {
		if oneOfThree(t, bytesOf(f)) == api.DGood {
			good++
		}
	}
	if good != (2*8+1)*64*2 {
		t.Error(good, "are good")
	}
}

// Promise 12.2: a Codec of files says the same, of 8 bytes; to it a free row is no file.
func TestCodec(t *testing.T) {
	c := Codec()
	if c == nil || c.Size() != 8 {
		t.Fatal(c)
	}
	for _, f := range bases() {
		b, ok := c.Encode(f)
		if !ok || !bytes.Equal(b, bytesOf(f)) {
			t.Error(f, b, ok)
		}
		if g, ok := c.Decode(b); g != f || !ok {
			t.Error(f, g, ok)
		}
	}
	for _, b := range [][]byte{nil, make([]byte, 7), make([]byte, 8), make([]byte, 9)} {
		if f, ok := c.Decode(b); f != (api.File{}) || ok {
			t.Error(b, f, ok)
		}
	}
	for _, f := range []api.File{{}, {Kind: 4, Refs: 1}, {Kind: 3, Pipe: 1, Refs: 1}, {Kind: 1, Refs: 65}, {Kind: 1, Refs: 1, Flags: 2}} {
		if b, ok := c.Encode(f); len(b) != 0 || ok {
			t.Error(f, b, ok)
		}
	}
}

// DOC.md, rule 3: what is answered is new memory, its spare room too, of each call and of each Codec.
func TestNewMemory(t *testing.T) {
	f := api.File{Kind: api.FWrite, Pipe: 5, Refs: 3, Flags: api.FNow}
	c := Codec()
	if c == Codec() {
		t.Error("one Codec for two")
	}
	for _, encode := range []func(api.File) ([]byte, bool){Encode, c.Encode} {
		one, _ := encode(f)
		two, _ := encode(f)
		for i := range one[:cap(one)] {
			one[:cap(one)][i] = 99
		}
		if !bytes.Equal(two, bytesOf(f)) {
			t.Error(two)
		}
		g, _ := Decode(two)
		for i := range two {
			two[i] = 98
		}
		if g != f {
			t.Error(g)
		}
		encodes(t, f)
	}
}

// Promise 12.4: no call panics.
func TestNoPanic(t *testing.T) {
	for _, n := range wild {
		for _, m := range wild {
			f := api.File{Kind: n, Pipe: m, Refs: n, Flags: m}
			Ok(f)
			Encode(f)
			Codec().Encode(f)
		}
	}
	for n := range 300 {
		for _, x := range []byte{0, 1, 2, 3, 179, 255} {
			b := bytes.Repeat([]byte{x}, n)
			Decode(b)
			Codec().Decode(b)
		}
	}
}
