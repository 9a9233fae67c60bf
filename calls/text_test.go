package calls

import (
	"bytes"
	hexes "encoding/hex"
	"fmt"
	"math"
	"math/rand"
	"regexp"
	"slices"
	"strconv"
	"strings"
	"testing"

	"commonage/api"
)

// The calls in the chapter's words: how each is named, and which numbers it names: none, A, or A and B.
var (
	names   = []string{"", "pid", "fork", "exit", "wait", "kill", "mask", "sig", "group", "pipe", "read", "write", "close", "dup", "dup2", "now", "front", "parent", "getgroup"}
	numbers = []int{0, 0, 0, 1, 0, 2, 1, 2, 2, 0, 2, 1, 1, 1, 2, 2, 1, 0, 0}
)

// The texts that Parse shall read, in the chapter's words.
var form = regexp.MustCompile(`^(?:(pid|fork|wait|pipe|parent|getgroup)|(exit|mask|close|dup|front) (0|-?[1-9][0-9]{0,3})|(kill|sig|group|read|dup2|now) (0|-?[1-9][0-9]{0,3}) (0|-?[1-9][0-9]{0,3})|(write) (0|-?[1-9][0-9]{0,3}) (-|(?:[0-9a-f]{2}){1,40}))$`)

// told is what a text tells, in the chapter's words.
func told(s string) (api.Sys, bool) {
	m := form.FindStringSubmatch(s)
	if m == nil {
		return api.Sys{}, false
	}
	m = slices.DeleteFunc(m[1:], func(x string) bool { return x == "" })
	x := api.Sys{Op: slices.Index(names, m[0])}
	for n, word := range m[1:] {
		switch {
		case x.Op == api.UWrite && n == 1:
			x.D, _ = hexes.DecodeString(strings.TrimPrefix(word, "-"))
		case n == 0:
			x.A, _ = strconv.Atoi(word)
		default:
			x.B, _ = strconv.Atoi(word)
		}
	}
	return x, true
}

// same tells if two calls are the same.
func same(a, b api.Sys) bool {
	return a.Op == b.Op && a.A == b.A && a.B == b.B && bytes.Equal(a.D, b.D)
}

// parses fails unless a text tells what the chapter says.
func parses(t *testing.T, s string) (api.Sys, bool) {
	t.Helper()
	got, ok := Parse(s)
	want, is := told(s)
	if ok != is || !same(got, want) {
		t.Errorf("Parse(%q) = %v, %v, want %v, %v", s, got, ok, want, is)
	}
	return got, ok
}

// Promise 20.3: the chapter's example.
func TestExample(t *testing.T) {
	if s, ok := Parse("read 0 8"); !ok || !same(s, api.Sys{Op: api.URead, A: 0, B: 8}) {
		t.Error(s, ok)
	}
	if s := Text(api.Sys{Op: api.URead, A: 0, B: 8}); s != "read 0 8" {
		t.Error(s)
	}
}

// Promise 20.3: each Op has its Name, and what is none has an empty one, and an empty text.
func TestName(t *testing.T) {
	for op := 1; op <= 18; op++ {
		if got := Name(op); got != names[op] {
			t.Errorf("Name(%d) = %q", op, got)
		}
	}
	for _, op := range wild {
		if op > 0 && op < 19 {
			continue
		}
		if got := Name(op); got != "" {
			t.Errorf("Name(%d) = %q", op, got)
		}
		if got := Text(sys(op, 1, 2, 3)); got != "" {
			t.Errorf("Text of Op %d = %q", op, got)
		}
	}
}

// Promise 20.3: a text is the Name, and what the call names, whatever it is, behind a blank each.
func TestText(t *testing.T) {
	for op := 1; op <= 18; op++ {
		for _, a := range wild {
			for _, b := range wild {
				want := names[op]
				if numbers[op] > 0 {
					want += fmt.Sprintf(" %d", a)
				}
				if numbers[op] > 1 {
					want += fmt.Sprintf(" %d", b)
				}
				if op == api.UWrite {
					want += " 00ff7a10"
				}
				if got := Text(sys(op, a, b, 0, 255, 122, 16)); got != want {
					t.Fatalf("Text(%d, %d, %d) = %q, want %q", op, a, b, got, want)
				}
			}
		}
	}
	for _, x := range []struct {
		s    api.Sys
		want string
	}{
		{sys(api.UExit, math.MinInt, 0), "exit -9223372036854775808"},
		{sys(api.UWrite, -5, 7), "write -5 -"},
		{api.Sys{Op: api.UWrite, A: 3, D: []byte{}}, "write 3 -"},
		{sys(api.UWrite, 3, 0, 10), "write 3 0a"},
		{sys(api.UWrite, 3, 0, 160), "write 3 a0"},
		{sys(api.URead, 1, 2, 3), "read 1 2"},
	} {
		if got := Text(x.s); got != x.want {
			t.Errorf("Text(%+v) = %q, want %q", x.s, got, x.want)
		}
	}
	for n := range 300 {
		b := run(byte(n), n)
		want := "write 0 " + hexes.EncodeToString(b)
		if n == 0 {
			want = "write 0 -"
		}
		if got := Text(api.Sys{Op: api.UWrite, D: b}); got != want {
			t.Errorf("Text of %d bytes = %q", n, got)
		}
	}
}

// back fails unless a call is read as it was.
func back(t *testing.T, s api.Sys) {
	t.Helper()
	if got, ok := parses(t, Text(s)); !ok || !same(got, s) {
		t.Fatalf("%+v is told as %q, and read as %+v, %v", s, Text(s), got, ok)
	}
}

// Promise 20.3 (W7): each number of at most four digits, in each place, and each byte, and each number of bytes up to 40, is read as it was; others are not read.
func TestThereAndBack(t *testing.T) {
	for n := -10020; n <= 10020; n++ {
		is := n >= -9999 && n <= 9999
		for op := 1; op <= 18; op++ {
			if n%13 != 0 && is && op != api.UExit && op != api.UKill {
				continue
			}
			for _, s := range []api.Sys{sys(op, n, 3, 1), sys(op, 3, n, 1)} {
				switch numbers[op] {
				case 0:
					s.A, s.B = 0, 0
				case 1:
					s.B = 0
				}
				if op != api.UWrite {
					s.D = nil
				}
				if is || s.A != n && s.B != n {
					back(t, s)
				} else if got, ok := parses(t, Text(s)); ok {
					t.Fatal(s, got)
				}
			}
		}
	}
	for b := range 256 {
		back(t, sys(api.UWrite, b, 0, byte(b)))
		back(t, sys(api.UWrite, b, 0, 0, byte(b), 255))
	}
	for n := range 60 {
		s := sys(api.UWrite, 1, 0, run(byte(7*n), n)...)
		if n <= 40 {
			back(t, s)
		} else if got, ok := parses(t, Text(s)); ok {
			t.Error(n, got)
		}
	}
}

// Promise 20.3: what is no text is false, with no call.
func TestParseRefuses(t *testing.T) {
	for _, s := range []string{
		"", " ", "  ", "-", "0", "\n", "\x00", "é", "Pid", "PID", "pi", "pidd", "pid ", " pid", "pid 1", "pid -", "pid\n", "pid\x00", "pid\t", "none", "signal 1 2", "dup3 1", "dup 2 1",
		"exit", "exit ", "exit  1", "exit 1 ", "exit 1 2", "exit\t1", "exit\n1", "exit 1\n", "exit 01", "exit 00", "exit -0", "exit -01", "exit +1", "exit --1", "exit -", "exit 1-", "exit 0x1", "exit 1e1", "exit 1_0", "exit 1.0", "exit .", "exit a", "exit ١", "exit 10000", "exit -10000", "exit 99999", "exit 09999", "exit 18446744073709551617", "exit -9223372036854775808", "exit 4294967296",
		"kill", "kill 1", "kill 1 ", "kill  1", "kill 1  2", "kill 1 2 ", "kill 1 2 3", "kill 1 2 3 4", "kill 1 2 3 4 5 6", "kill 1 x", "kill x 1", "kill 1,2",
		"write", "write 1", "write 1 ", "write  1", "write 1  -", "write 1 - ", "write 1 --", "write 1 0", "write 1 000", "write 1 0G", "write 1 g0", "write 1 AB", "write 1 aB", "write 1 -a", "write 1 a-", "write 1 +1", "write 1 0x", "write 1 00 00", "write 1 00 -", "write x 00", "write 00 00", "write - 1", "write 1 é", "write 1 0\x00",
	} {
		if got, ok := parses(t, s); ok || !same(got, api.Sys{}) {
			t.Errorf("Parse(%q) = %v, %v", s, got, ok)
		}
	}
}

// each calls f with each text of at most n of these signs.
func each(signs string, n int, f func(s string)) {
	f("")
	if n == 0 {
		return
	}
	for _, c := range signs {
		each(signs, n-1, func(s string) { f(string(c) + s) })
	}
}

// Promise 20.3: all short words, where a number is asked for, and where bytes are.
func TestParseWords(t *testing.T) {
	seen := 0
	each("-+0189a ", 5, func(s string) {
		if _, ok := parses(t, "exit "+s); ok {
			seen++
		}
		if _, ok := parses(t, "kill 5 "+s); ok {
			seen++
		}
	})
	each("-09afgAF/:` ", 4, func(s string) {
		if _, ok := parses(t, "write 1 "+s); ok {
			seen++
		}
	})
	if seen < 1000 {
		t.Error(seen)
	}
	for _, c := range []byte(Text(sys(api.UWrite, 1, 0, run(0, 9)...))) {
		for other := range 256 {
			parses(t, strings.ReplaceAll("write 1 0a1b", string(rune(c)), string(rune(other))))
		}
	}
	for other := range 256 {
		parses(t, "write 1 0"+string([]byte{byte(other)}))
		parses(t, "write 1 "+string([]byte{byte(other)})+"0")
		parses(t, "exit "+string([]byte{byte(other)}))
	}
}

// Promise 20.3: texts with signs that are gone, new, or others.
func TestParseAtLarge(t *testing.T) {
	r := rand.New(rand.NewSource(9))
	signs := []string{" ", " ", "-", "+", "0", "1", "9", "a", "f", "g", "A", "_", "\n", "\t", "\x00", "é", "00", "write ", "kill ", "dup"}
	count := map[bool]int{}
	for range 100000 {
		_, x := some(r)
		s := Text(x)
		for range r.Intn(3) {
			at := r.Intn(len(s) + 1)
			to := min(len(s), at+r.Intn(2))
			put := ""
			if r.Intn(2) == 0 {
				put = signs[r.Intn(len(signs))]
			}
			s = s[:at] + put + s[to:]
		}
		got, ok := parses(t, s)
		if ok && Text(got) != s {
			t.Errorf("%q is %+v, which is %q", s, got, Text(got))
		}
		count[ok]++
		if t.Failed() {
			t.FailNow()
		}
	}
	if count[false] < 10000 || count[true] < 10000 {
		t.Error(count)
	}
}

// Promise 20.5: texts of any length are read, or not, and it ends.
func TestParseLong(t *testing.T) {
	for _, n := range []int{100, 10000, 1 << 20} {
		for _, s := range []string{" ", "0", "9", "-", "pid ", "write 1 ", "write 1 00", "kill 1 ", "\xff"} {
			if got, ok := Parse(strings.Repeat(s, n)); ok || !same(got, api.Sys{}) {
				t.Error(n, s, got.Op)
			}
			if got, ok := Parse("write 1 " + strings.Repeat(s, n)); ok || !same(got, api.Sys{}) {
				t.Error(n, s, got.Op)
			}
			if got, ok := Parse("exit " + strings.Repeat(s, n)); ok || !same(got, api.Sys{}) {
				t.Error(n, s, got.Op)
			}
		}
	}
}

// Promise 20.3 (rule 3): Text leaves the bytes as they are; Parse answers new ones each time.
func TestTextOwn(t *testing.T) {
	room := run(1, 16)
	Text(api.Sys{Op: api.UWrite, D: room[4:8:12]})
	if !bytes.Equal(room, run(1, 16)) {
		t.Error(room)
	}
	a, _ := Parse("write 1 0102")
	clear(a.D[:cap(a.D)])
	if b, ok := Parse("write 1 0102"); !ok || !bytes.Equal(b.D, []byte{1, 2}) || !bytes.Equal(a.D, []byte{0, 0}) {
		t.Error(a, b, ok)
	}
}
