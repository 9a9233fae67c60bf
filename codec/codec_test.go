package codec

import (
	"bytes"
	"math"
	"math/rand"
	"slices"
	"testing"
)

var wild = []int{math.MinInt, math.MinInt + 1, -1 << 62, -1 << 32, -65536, -65, -64, -2, -1, 0, 1, 2, 3, 4, 5, 6, 7, 31, 32, 63, 64, 65, 66, 128, 255, 256, 257, 258, 65534, 65535, 65536, 65537, 1 << 31, 1 << 32, 1<<32 + 1, 1 << 62, math.MaxInt - 1, math.MaxInt}

// sizeOf is how many bytes a Codec of that size has, in the chapter's words.
func sizeOf(size int) int {
	if size < 0 {
		return 0
	}
	if size > 64 {
		return 64
	}
	return size
}

// sumOf is Sum in the chapter's words, by a number that does not wrap round.
func sumOf(b []byte) int {
	sum := 0
	for i := range b {
		sum += int(b[i])
	}
	return (sum + len(b)) % 256
}

// roomy has these bytes, and others in the spare room behind them.
func roomy(b []byte) []byte {
	l := append(slices.Clone(b), 201, 202, 203, 204)
	return l[:len(b)]
}

// same fails unless b has these bytes, and roomy's ones behind them.
func same(t *testing.T, what string, b, want []byte) {
	t.Helper()
	if !bytes.Equal(b, want) {
		t.Errorf("%s: %v, want %v", what, b, want)
	}
	if more := b[len(b) : len(b)+4]; !bytes.Equal(more, []byte{201, 202, 203, 204}) {
		t.Errorf("%s: the spare room is %v", what, more)
	}
}

func encodes[T any](t *testing.T, c *Codec[T], v T, want ...byte) {
	t.Helper()
	if b, ok := c.Encode(v); !ok || !bytes.Equal(b, want) {
		t.Errorf("Encode(%v) = %v, %v, want %v, true", v, b, ok, want)
	}
}

func encodesNot[T any](t *testing.T, c *Codec[T], v T) {
	t.Helper()
	if b, ok := c.Encode(v); ok || len(b) != 0 {
		t.Errorf("Encode(%v) = %v, %v, want nothing, false", v, b, ok)
	}
}

func decodes[T comparable](t *testing.T, c *Codec[T], want T, b ...byte) {
	t.Helper()
	in := roomy(b)
	if v, ok := c.Decode(in); !ok || v != want {
		t.Errorf("Decode(%v) = %v, %v, want %v, true", b, v, ok, want)
	}
	same(t, "Decode's bytes", in, b)
}

func decodesNot[T comparable](t *testing.T, c *Codec[T], b ...byte) {
	t.Helper()
	var none T
	in := roomy(b)
	if v, ok := c.Decode(in); ok || v != none {
		t.Errorf("Decode(%v) = %v, %v, want nothing, false", b, v, ok)
	}
	same(t, "Decode's bytes", in, b)
}

// date is a record of five bytes: a year of two, a month, a day, and how many bytes its name has, of up to three.
type date struct {
	year, month, day int
	name             string
}

func dateCodec() *Codec[date] {
	return New(8, putDate, getDate)
}

func putDate(d date, b []byte) bool {
	if d.month < 1 || d.month > 12 || d.day < 1 || d.day > 31 || len(d.name) > 3 {
		return false
	}
	b[2], b[3], b[4] = byte(d.month), byte(d.day), byte(len(d.name))
	copy(b[5:], d.name)
	return Put2(b, 0, d.year)
}

func getDate(b []byte) (date, bool) {
	year, ok := Get2(b, 0)
	n := min(int(b[4]), 3)
	d := date{year, int(b[2]), int(b[3]), string(b[5 : 5+n])}
	return d, ok && d.month >= 1 && d.month <= 12 && d.day >= 1 && d.day <= 31 && b[4] <= 3 && Blank(b[5+n:])
}

// raw is a Codec of bytes as they are.
func raw(size int) *Codec[[64]byte] {
	return New(size, func(v [64]byte, b []byte) bool {
		copy(b, v[:])
		return true
	}, func(b []byte) (v [64]byte, ok bool) {
		copy(v[:], b)
		return v, true
	})
}

// Promise 10.1: the chapter's example.
func TestExample(t *testing.T) {
	if n := Sum([]byte{1, 2}); n != 5 {
		t.Error(n)
	}
}

// Promise 10.1: Sum is the sum of all bytes and their number, modulo 256.
func TestSum(t *testing.T) {
	for _, x := range []struct {
		b    []byte
		want byte
	}{
		{nil, 0}, {[]byte{}, 0}, {[]byte{0}, 1}, {[]byte{0, 0}, 2}, {[]byte{7}, 8}, {[]byte{254}, 255}, {[]byte{255}, 0},
		{[]byte{255, 255}, 0}, {[]byte{128, 128}, 2}, {[]byte{1, 2, 3}, 9}, {[]byte{3, 2, 1}, 9}, {make([]byte, 255), 255}, {make([]byte, 256), 0}, {make([]byte, 257), 1},
	} {
		if n := Sum(x.b); n != x.want {
			t.Errorf("Sum(%v) = %d, want %d", x.b, n, x.want)
		}
	}
}

// Promise 10.1: so it is of whatever bytes, which are left as they are; what stands behind them does not count.
func TestSumAgainstModel(t *testing.T) {
	r := rand.New(rand.NewSource(1))
	for n := range 700 {
		b := make([]byte, n)
		r.Read(b)
		in := roomy(b)
		if got := Sum(in); int(got) != sumOf(b) {
			t.Errorf("Sum of %d bytes = %d, want %d", n, got, sumOf(b))
		}
		same(t, "Sum's bytes", in, b)
	}
}

// Promise 10.1: Put2 puts the higher byte first and leaves the others, and Get2 gets it back, of every number that two bytes can have.
func TestTwoBytes(t *testing.T) {
	b := roomy([]byte{9, 8, 7, 6})
	for n := range 65536 {
		if !Put2(b, 1, n) {
			t.Fatal("Put2", n)
		}
		if want := []byte{9, byte(n / 256), byte(n % 256), 6}; !bytes.Equal(b, want) {
			t.Fatal("Put2", n, b)
		}
		if got, ok := Get2(b, 1); got != n || !ok {
			t.Fatal("Get2", n, got, ok)
		}
	}
	same(t, "Put2's bytes", b, []byte{9, 255, 255, 6})
}

// Promise 10.1: false, and nothing, wherever the two bytes are not all there, or n is none of two bytes.
func TestTwoBytesEdges(t *testing.T) {
	for size := range 9 {
		was := make([]byte, size)
		for i := range was {
			was[i] = byte(40 + i)
		}
		for _, at := range wild {
			there := false
			for i := 0; i+1 < size; i++ {
				there = there || i == at
			}
			b, want := roomy(was), 0
			if there {
				want = int(was[at])*256 + int(was[at+1])
			}
			if n, ok := Get2(b, at); n != want || ok != there {
				t.Errorf("Get2(%v, %d) = %d, %v, want %d, %v", was, at, n, ok, want, there)
			}
			same(t, "Get2's bytes", b, was)
			for _, n := range wild {
				b, want, fits := roomy(was), slices.Clone(was), there && n >= 0 && n <= 65535
				if fits {
					want[at], want[at+1] = byte(n/256), byte(n%256)
				}
				if ok := Put2(b, at, n); ok != fits {
					t.Errorf("Put2(%v, %d, %d) = %v, want %v", was, at, n, ok, fits)
				}
				same(t, "Put2's bytes", b, want)
			}
		}
	}
	for _, at := range wild {
		if n, ok := Get2(nil, at); n != 0 || ok || Put2(nil, at, 1) {
			t.Error("of nothing", at, n, ok)
		}
	}
}

// Promise 10.1: Blank asks for all bytes, each with all its bits, and for none behind them.
func TestBlank(t *testing.T) {
	if !Blank(nil) || !Blank([]byte{}) {
		t.Error("nothing is not blank")
	}
	for size := 1; size < 70; size++ {
		b := roomy(make([]byte, size))
		if !Blank(b) {
			t.Error(size)
		}
		for at := range b {
			for bit := range 8 {
				b[at] = 1 << bit
				if Blank(b) {
					t.Error(size, at, bit)
				}
			}
			b[at] = 0
		}
		same(t, "Blank's bytes", b, make([]byte, size))
	}
	if Blank([]byte{255, 1}) || Blank([]byte{1, 255}) || Blank([]byte{128, 128}) {
		t.Error("bytes whose sum is 0 are blank")
	}
}

// Promise 10.2: size below 0 is taken as 0, above 64 as that, and it is the number of all bytes that are encoded and decoded.
func TestSizes(t *testing.T) {
	var v [64]byte
	for i := range v {
		v[i] = byte(200 - i)
	}
	for _, size := range append(slices.Clone(wild), 20, 33, 40, 48, 62) {
		c, n := raw(size), sizeOf(size)
		if c.Size() != n {
			t.Errorf("Size() = %d, want %d", c.Size(), n)
		}
		encodes(t, c, v, v[:n]...)
		var want [64]byte
		copy(want[:], v[:n])
		for k := range 70 {
			b := bytes.Repeat([]byte{5}, k)
			copy(b, v[:])
			if k == n {
				decodes(t, c, want, b...)
			} else {
				decodesNot(t, c, b...)
			}
		}
		if c.Size() != n {
			t.Errorf("Size() = %d, want %d", c.Size(), n)
		}
	}
}

// Promise 10.2: put puts v into bytes that are size, and all 0, each time.
func TestPutIsGiven(t *testing.T) {
	var values []int
	for _, size := range wild {
		values = nil
		c := New(size, func(v int, b []byte) bool {
			values = append(values, v)
			if len(b) != sizeOf(size) || !bytes.Equal(b, make([]byte, sizeOf(size))) {
				t.Errorf("put is given %v, of size %d", b, size)
			}
			for i := range b[:cap(b)] {
				b[:cap(b)][i] = 77
			}
			return v%3 != 0
		}, nil)
		for _, v := range wild {
			if v%3 == 0 {
				encodesNot(t, c, v)
			} else {
				encodes(t, c, v, bytes.Repeat([]byte{77}, sizeOf(size))...)
			}
		}
		if !slices.Equal(values, wild) {
			t.Errorf("put was asked of %v", values)
		}
	}
}

// Promise 10.2: bytes that put leaves are 0, and what it appends to its bytes is none of the record's.
func TestPutLeaves(t *testing.T) {
	c := New(4, func(v byte, b []byte) bool {
		b[2] = v
		b = append(b, 9, 9)
		b[0] = 8
		return len(b) == 6
	}, nil)
	if b, ok := c.Encode(5); !ok || len(b) != 4 || b[1] != 0 || b[2] != 5 || b[3] != 0 {
		t.Error(b, ok)
	}
}

// Promise 10.2: where put says false there are no bytes, whatever it put.
func TestPutSaysFalse(t *testing.T) {
	c := New(3, func(v int, b []byte) bool {
		b[0], b[1], b[2] = 1, 2, 3
		return v > 0
	}, nil)
	encodes(t, c, 1, 1, 2, 3)
	encodesNot(t, c, 0)
	encodesNot(t, c, -1)
	encodes(t, c, 2, 1, 2, 3)
	encodesNot(t, New(0, func(int, []byte) bool { return false }, nil), 1)
	encodes(t, New(0, func(int, []byte) bool { return true }, nil), 1)
}

// Promise 10.2: get gets a copy of the bytes, whose every byte it may write.
func TestGetIsGiven(t *testing.T) {
	for _, size := range wild {
		n := sizeOf(size)
		want := make([]byte, n)
		for i := range want {
			want[i] = byte(i + 1)
		}
		c := New(size, nil, func(b []byte) (int, bool) {
			if !bytes.Equal(b, want) {
				t.Errorf("get is given %v, want %v", b, want)
			}
			for i := range b[:cap(b)] {
				b[:cap(b)][i] = 77
			}
			return 5, true
		})
		for range 3 {
			decodes(t, c, 5, want...)
		}
	}
}

// Promise 10.2: false, and a zero value, where get says false, whatever value it tells beside that.
func TestGetSaysFalse(t *testing.T) {
	c := New(1, nil, func(b []byte) (string, bool) {
		b[0]++
		return "told", b[0] > 100
	})
	decodes(t, c, "told", 100)
	decodes(t, c, "told", 254)
	decodesNot(t, c, 99)
	decodesNot(t, c, 255)
	decodes(t, c, "told", 100)
}

// Promise 10.2: get is asked of bytes of the right number alone, once.
func TestGetIsAsked(t *testing.T) {
	asked := 0
	c := New(5, nil, func(b []byte) (int, bool) {
		asked++
		return int(b[4]), true
	})
	for n := range 100 {
		b := bytes.Repeat([]byte{3}, n)
		if n == 5 {
			decodes(t, c, 3, b...)
		} else {
			decodesNot(t, c, b...)
		}
	}
	if asked != 1 {
		t.Error(asked)
	}
	if v, ok := c.Decode(nil); v != 0 || ok || asked != 1 {
		t.Error(v, ok, asked)
	}
}

// Promise 10.2: a put or a get that is nil says false; the other one is asked all the same.
func TestNilFunctions(t *testing.T) {
	put := func(v byte, b []byte) bool {
		if len(b) > 0 {
			b[0] = v
		}
		return true
	}
	get := func(b []byte) (byte, bool) { return 7, true }
	for _, size := range wild {
		n := sizeOf(size)
		b := bytes.Repeat([]byte{1}, n)
		for i, c := range []*Codec[byte]{New[byte](size, nil, nil), New(size, put, nil), New(size, nil, get)} {
			if c.Size() != n {
				t.Error(size, i, c.Size())
			}
			if want := make([]byte, n); i == 1 {
				copy(want, []byte{3})
				encodes(t, c, 3, want...)
			} else {
				encodesNot(t, c, 3)
			}
			if i == 2 {
				decodes(t, c, 7, b...)
			} else {
				decodesNot(t, c, b...)
			}
		}
	}
}

// Promise 10.2: it is of any type.
func TestAnyType(t *testing.T) {
	flags := New(1, func(v []bool, b []byte) bool {
		for i, is := range v {
			if is && i < 8 {
				b[0] |= 1 << i
			}
		}
		return len(v) == 8
	}, func(b []byte) ([]bool, bool) {
		var v []bool
		for i := range 8 {
			v = append(v, b[0]>>i&1 == 1)
		}
		return v, b[0] != 99
	})
	v := []bool{true, false, true, false, false, false, false, true}
	encodes(t, flags, v, 133)
	encodesNot(t, flags, v[:7])
	if l, ok := flags.Decode([]byte{133}); !ok || !slices.Equal(l, v) {
		t.Error(l, ok)
	}
	if l, ok := flags.Decode([]byte{99}); ok || l != nil {
		t.Error(l, ok)
	}
	six := 6
	boxes := New(1, func(v any, b []byte) bool {
		n, ok := v.(*int)
		if ok {
			b[0] = byte(*n)
		}
		return ok
	}, func(b []byte) (any, bool) { return &six, b[0] == 6 })
	encodes[any](t, boxes, &six, 6)
	encodesNot[any](t, boxes, 6)
	encodesNot[any](t, boxes, nil)
	decodes[any](t, boxes, &six, 6)
	decodesNot[any](t, boxes, 5)
}

// Promise 10.2: each Codec has its own functions and its own size.
func TestCodecsApart(t *testing.T) {
	var made []*Codec[int]
	for n := range 5 {
		made = append(made, New(n+1, func(v int, b []byte) bool {
			b[n] = byte(v + n)
			return true
		}, func(b []byte) (int, bool) { return int(b[n]) * 10, true }))
	}
	for n, c := range made {
		want := make([]byte, n+1)
		want[n] = byte(50 + n)
		encodes(t, c, 50, want...)
		decodes(t, c, 500+10*n, want...)
		decodesNot(t, c, make([]byte, n)...)
	}
}

// DOC.md, rule 3: what Encode answers is new memory, its spare room too, though put keeps its bytes.
func TestNewMemory(t *testing.T) {
	var kept []byte
	c := New(5, func(v int, b []byte) bool {
		for i := range kept {
			kept[i] = 66
		}
		kept = b
		b[0] = byte(v)
		return true
	}, nil)
	one, _ := c.Encode(1)
	for i := range kept[:cap(kept)] {
		kept[:cap(kept)][i] = 55
	}
	two, _ := c.Encode(2)
	for i := range two[:cap(two)] {
		two[:cap(two)][i] = 88
	}
	encodes(t, c, 3, 3, 0, 0, 0, 0)
	if !bytes.Equal(one, []byte{1, 0, 0, 0, 0}) || !bytes.Equal(two, []byte{88, 88, 88, 88, 88}) {
		t.Error(one, two)
	}
}

// DOC.md, rule 3: a get that keeps its bytes, or tells them as the value, keeps none of who asked, nor of who asks later.
func TestDecodedMemory(t *testing.T) {
	c := New(3, nil, func(b []byte) ([]byte, bool) { return b, true })
	in := roomy([]byte{1, 2, 3})
	one, ok := c.Decode(in)
	two, is := c.Decode(in)
	if !ok || !is || !bytes.Equal(one, in) || !bytes.Equal(two, in) {
		t.Error(one, two)
	}
	for i := range one[:cap(one)] {
		one[:cap(one)][i] = 9
	}
	same(t, "Decode's bytes", in, []byte{1, 2, 3})
	if !bytes.Equal(two, []byte{1, 2, 3}) {
		t.Error(two)
	}
	in[0] = 4
	if one[0] != 9 || two[0] != 1 {
		t.Error(one, two)
	}
}

// Promise 10.3 (W7): what put and get agree on is there and back.
func TestThereAndBack(t *testing.T) {
	c := dateCodec()
	encodes(t, c, date{1961, 4, 12, "ab"}, 7, 169, 4, 12, 2, 'a', 'b', 0)
	r := rand.New(rand.NewSource(3))
	good := 0
	for range 20000 {
		d := date{r.Intn(66000) - 200, r.Intn(14), r.Intn(33), "\x00xyz"[:r.Intn(5)]}
		b, ok := c.Encode(d)
		if !ok {
			continue
		}
		good++
		if len(b) != 8 {
			t.Fatal(d, b)
		}
		decodes(t, c, d, b...)
	}
	if good < 5000 {
		t.Error("only", good, "were good")
	}
}

// Promise 10.3 (W7): and bytes that get agrees to are those that put puts of it.
func TestBackAndThere(t *testing.T) {
	c := dateCodec()
	r := rand.New(rand.NewSource(4))
	good := 0
	for range 20000 {
		b := []byte{byte(r.Intn(256)), byte(r.Intn(256)), byte(r.Intn(14)), byte(r.Intn(33)), byte(r.Intn(5)), byte(r.Intn(3)), byte(r.Intn(3)), byte(r.Intn(2))}
		if d, ok := c.Decode(b); ok {
			good++
			encodes(t, c, d, b...)
		}
	}
	if good < 1000 {
		t.Error("only", good, "were good")
	}
	for range 200 {
		var v [64]byte
		r.Read(v[:])
		decodes(t, raw(64), v, v[:]...)
		encodes(t, raw(64), v, v[:]...)
	}
}

// Promise 10.4: no call panics.
func TestNoPanic(t *testing.T) {
	lists := [][]byte{nil, {}, {1}, {1, 2}, make([]byte, 64), make([]byte, 65), bytes.Repeat([]byte{255}, 300)}
	for _, b := range lists {
		Sum(b)
		Blank(b)
		for _, at := range wild {
			Get2(b, at)
			for _, n := range wild {
				Put2(b, at, n)
			}
		}
	}
	for _, size := range wild {
		for _, c := range []*Codec[[64]byte]{raw(size), New[[64]byte](size, nil, nil)} {
			c.Size()
			c.Encode([64]byte{1})
			for _, b := range lists {
				c.Decode(b)
			}
		}
	}
}
