package calls

import (
	"slices"
	"strconv"
	"strings"

	"commonage/api"
)

const (
	blank     = " "
	digits    = "0123456789abcdef"
	noBytes   = "-"
	maxBytes  = 40
	maxNumber = 9999
	// A text has a name, and at most two words behind it.
	maxWords = 3
)

// Name answers how a call is named, empty of no Op.
func Name(op int) string {
	return of(op).name
}

// Text tells a call as words: its name, and what it names.
func Text(s api.Sys) string {
	x := of(s.Op)
	words := []string{x.name}
	for _, n := range []int{s.A, s.B}[:x.numbers] {
		words = append(words, strconv.Itoa(n))
	}
	if x.bytes {
		words = append(words, hex(s.D))
	}
	return strings.Join(words, blank)
}

// Parse answers the call that a text tells, false if it is not what Text tells of one.
func Parse(t string) (api.Sys, bool) {
	// One word more than there may be shows that there are too many.
	words := strings.SplitN(t, blank, maxWords+1)
	op, x := named(words[0])
	if op == 0 || len(words) != x.words() {
		return api.Sys{}, false
	}
	var numbers [maxWords - 1]int
	for n, w := range words[1 : 1+x.numbers] {
		v, ok := number(w)
		if !ok {
			return api.Sys{}, false
		}
		numbers[n] = v
	}
	s := api.Sys{Op: op, A: numbers[0], B: numbers[1]}
	if x.bytes {
		d, ok := unhex(words[1+x.numbers])
		if !ok {
			return api.Sys{}, false
		}
		s.D = d
	}
	return s, true
}

// named answers the Op and the call of a name, 0 if there is none.
func named(name string) (int, call) {
	all := table()
	op := slices.IndexFunc(all[:], func(x call) bool { return x.name == name })
	if op < 0 {
		return 0, call{}
	}
	return op, all[op]
}

// words answers of how many words a text of x is.
func (x call) words() int {
	if x.bytes {
		return 1 + x.numbers + 1
	}
	return 1 + x.numbers
}

// number answers the number that a word tells.
func number(w string) (int, bool) {
	n, err := strconv.Atoi(w)
	// Atoi reads a plus, and noughts ahead, too.
	if err != nil || n < -maxNumber || n > maxNumber || strconv.Itoa(n) != w {
		return 0, false
	}
	return n, true
}

// hex tells bytes by two digits each.
func hex(b []byte) string {
	if len(b) == 0 {
		return noBytes
	}
	var t strings.Builder
	for _, x := range b {
		t.WriteByte(digits[x>>4])
		t.WriteByte(digits[x&15])
	}
	return t.String()
}

// unhex answers the bytes that a word tells.
func unhex(w string) ([]byte, bool) {
	if w == noBytes {
		return nil, true
	}
	if w == "" || len(w)%2 != 0 || len(w) > 2*maxBytes {
		return nil, false
	}
	b := make([]byte, len(w)/2)
	for i := range b {
		high, low := strings.IndexByte(digits, w[2*i]), strings.IndexByte(digits, w[2*i+1])
		if high < 0 || low < 0 {
			return nil, false
		}
		b[i] = byte(high<<4 | low)
	}
	return b, true
}
