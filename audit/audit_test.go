package audit

import (
	"bytes"
	"maps"
	"math/rand"
	"slices"
	"testing"

	"commonage/api"
	"commonage/ofile"
	"commonage/pslot"
	"commonage/ring"
)

// sess is a session's records as values; what is not in a map is free.
type sess struct {
	procs map[int]api.Proc
	files map[int]api.File
	pipes map[int]api.Pipe
	term  []api.Pipe // one, or none
	front int
}

// empty is what Blank tells of.
func empty() sess {
	return sess{procs: map[int]api.Proc{}, files: map[int]api.File{}, pipes: map[int]api.Pipe{}, term: []api.Pipe{{Readers: 1, Writers: 1}}}
}

func (s sess) copy() sess {
	return sess{maps.Clone(s.procs), maps.Clone(s.files), maps.Clone(s.pipes), slices.Clone(s.term), s.front}
}

// bytes are the commons of s, in the words of 15.1; each record is what the codecs of the layers below say.
func (s sess) bytes(t *testing.T) []byte {
	t.Helper()
	b := make([]byte, 492)
	lay := func(at int, row []byte, ok bool) {
		t.Helper()
		if !ok {
			t.Fatalf("not Ok, at %d: %+v", at, s)
		}
		copy(b[at:], row)
	}
	for i, p := range s.procs {
		row, ok := pslot.Encode(p)
		lay(24*i, row, ok)
	}
	for i, f := range s.files {
		row, ok := ofile.Encode(f)
		lay(192+8*i, row, ok)
	}
	for i, p := range s.pipes {
		row, ok := ring.Encode(p)
		lay(288+40*i, row, ok)
	}
	for _, p := range s.term {
		row, ok := ring.Encode(p)
		lay(448, row, ok)
	}
	lay(488, []byte{byte(s.front), 211, byte((s.front + 211 + 2) % 256), 0}, s.front >= 0 && s.front <= 7)
	return b
}

// lies is where a record is, and how many bytes it has.
func lies(r api.Rec) (at, n int) {
	switch r.Kind {
	case 1:
		return 24 * r.Index, 24
	case 2:
		return 192 + 8*r.Index, 8
	case 3:
		return 288 + 40*r.Index, 40
	case 4:
		return 448, 40
	}
	return 488, 4
}

// recs are all records, by Kind, then Index.
func recs() []api.Rec {
	var l []api.Rec
	for kind, n := range []int{0, 8, 12, 4, 1, 1} {
		for i := range n {
			l = append(l, api.Rec{Kind: kind, Index: i})
		}
	}
	return l
}

// isBad tells in the chapter's words whether these bytes of a record are bad.
func isBad(r api.Rec, b []byte) bool {
	is := api.DGood
	switch r.Kind {
	case 1:
		_, is = pslot.Decode(b)
	case 2:
		_, is = ofile.Decode(b)
	case 3, 4:
		_, is = ring.Decode(b)
	case 5:
		return b[0] > 7 || b[1] != 211 || int(b[2]) != (int(b[0])+int(b[1])+2)%256 || b[3] != 0
	}
	return is == api.DBad
}

// badOf is Bad in the chapter's words.
func badOf(b []byte) []api.Rec {
	if len(b) != 492 {
		return []api.Rec{{Kind: 0, Index: 0}}
	}
	var l []api.Rec
	for _, r := range recs() {
		if at, n := lies(r); isBad(r, b[at:at+n]) {
			l = append(l, r)
		}
	}
	return l
}

// valuesOf is back from bytes without anything bad.
func valuesOf(b []byte) sess {
	s := empty()
	for _, r := range recs() {
		at, n := lies(r)
		row := b[at : at+n]
		if bytes.Equal(row, make([]byte, n)) && r.Kind != 4 {
			continue
		}
		switch r.Kind {
		case 1:
			s.procs[r.Index], _ = pslot.Decode(row)
		case 2:
			s.files[r.Index], _ = ofile.Decode(row)
		case 3:
			s.pipes[r.Index], _ = ring.Decode(row)
		case 4:
			s.term = nil
			if p, is := ring.Decode(row); is == api.DGood {
				s.term = []api.Pipe{p}
			}
		case 5:
			s.front = int(row[0])
		}
	}
	return s
}

// faultsOf is Faults in the chapter's words, of values.
func faultsOf(s sess) []string {
	is := map[string]bool{}
	named := map[int]int{}
	for i, p := range s.procs {
		if p.Parent > 0 {
			_, there := s.procs[p.Parent-1]
			is["parent"] = is["parent"] || p.Parent-1 == i || !there
		}
		for _, fd := range p.Fds {
			if fd > 0 {
				_, there := s.files[fd-1]
				is["fd"] = is["fd"] || !there
				named[fd-1]++
			}
		}
	}
	readers, writers := map[int]int{}, map[int]int{}
	for i, f := range s.files {
		is["refs"] = is["refs"] || f.Refs != named[i]
		if f.Kind == 3 {
			continue
		}
		if _, there := s.pipes[f.Pipe]; !there && f.Pipe <= 3 {
			is["pipe"] = true
		}
		if f.Kind == 1 {
			readers[f.Pipe]++
		} else {
			writers[f.Pipe]++
		}
	}
	for i, p := range s.pipes {
		if p.Readers != readers[i] || p.Writers != writers[i] || p.Readers == 0 && p.Writers == 0 {
			is["ends"] = true
		}
	}
	var l []string
	for _, name := range []string{"parent", "fd", "refs", "pipe", "ends"} {
		if is[name] {
			l = append(l, name)
		}
	}
	return l
}

// roomy has these bytes, and others in the spare room behind them.
func roomy(b []byte) []byte {
	return append(slices.Clone(b), 201, 202, 203, 204)[:len(b)]
}

// tells fails unless all calls answer so of b, and leave it and its spare room.
func tells(t *testing.T, b []byte, bad []api.Rec, faults []string) {
	t.Helper()
	in := roomy(b)
	if got := Bad(in); !slices.Equal(got, bad) {
		t.Errorf("Bad(%v) = %v, want %v", b, got, bad)
	}
	if got := Faults(in); !slices.Equal(got, faults) {
		t.Errorf("Faults(%v) = %v, want %v", b, got, faults)
	}
	if got := Sound(in); got != (len(faults) == 0) {
		t.Errorf("Sound(%v) = %v, of faults %v", b, got, faults)
	}
	if !bytes.Equal(in, b) || !bytes.Equal(in[len(b):len(b)+4], []byte{201, 202, 203, 204}) {
		t.Errorf("%v is %v now", b, in[:len(b)+4])
	}
}

// found fails unless these are the faults of s.
func found(t *testing.T, s sess, faults ...string) {
	t.Helper()
	tells(t, s.bytes(t), nil, faults)
}

// asTold fails unless the calls answer of b what the chapter says, and answers whether nothing is bad.
func asTold(t *testing.T, b []byte) bool {
	t.Helper()
	bad := badOf(b)
	if len(bad) > 0 {
		tells(t, b, bad, []string{"bad"})
		return false
	}
	tells(t, b, nil, faultsOf(valuesOf(b)))
	return true
}

// busy is a session with something of each kind, which is sound: live, stopped and dead processes, files of several Fds, all kinds of files, a pipe with two readers, one without writers, one without readers, and bridges.
func busy() sess {
	s := empty()
	s.procs[0] = api.Proc{State: 1, Fds: [8]int{1, 1, 2, 3, 5, 7, 8, 9}}
	s.procs[2] = api.Proc{State: 3, Parent: 1, Group: 2, Pending: 4, Mask: 8, Ignored: 16, Caught: 32, Fds: [8]int{1, 0, 4, 12, 0, 12}}
	s.procs[3] = api.Proc{State: 2, Parent: 3, Group: 2, Code: 255}
	s.procs[7] = api.Proc{State: 1, Parent: 4, Group: 7}
	s.files[0] = api.File{Kind: 3, Refs: 3}
	s.files[1] = api.File{Kind: 1, Pipe: 2, Refs: 1}
	s.files[2] = api.File{Kind: 2, Pipe: 2, Refs: 1, Flags: 1}
	s.files[3] = api.File{Kind: 1, Pipe: 2, Refs: 1}
	s.files[4] = api.File{Kind: 1, Pipe: 0, Refs: 1}
	s.files[6] = api.File{Kind: 2, Pipe: 3, Refs: 1}
	s.files[7] = api.File{Kind: 1, Pipe: 4, Refs: 1}
	s.files[8] = api.File{Kind: 2, Pipe: 7, Refs: 1}
	s.files[11] = api.File{Kind: 3, Refs: 2, Flags: 1}
	s.pipes[0] = api.Pipe{Head: 5, Count: 32, Readers: 1}
	s.pipes[2] = api.Pipe{Count: 3, Readers: 2, Writers: 1, Data: [32]byte{7, 8, 9}}
	s.pipes[3] = api.Pipe{Head: 31, Writers: 1}
	s.term = []api.Pipe{{Count: 1, Readers: 3, Data: [32]byte{31: 1}}}
	s.front = 7
	return s
}

// Promise 16.1, and the chapter's example.
func TestBlank(t *testing.T) {
	want := make([]byte, 492)
	copy(want[448:], []byte{1, 0, 0, 1, 1, 197, 206, 0})
	copy(want[488:], []byte{0, 211, 213, 0})
	b := Blank()
	if !bytes.Equal(b, want) || !Sound(b) {
		t.Errorf("Blank() = %v", b)
	}
	tells(t, b, nil, nil)
	if !bytes.Equal(empty().bytes(t), b) {
		t.Error("another one by records")
	}
}

// Promises 16.1, 16.2: what is answered is new memory, its spare room too.
func TestNewMemory(t *testing.T) {
	b := Blank()
	was := slices.Clone(b)
	full := b[:cap(b)]
	for i := range full {
		full[i] = 99
	}
	if again := Blank(); !bytes.Equal(again, was) {
		t.Errorf("Blank() = %v", again)
	}
	for _, in := range [][]byte{nil, make([]byte, 492), full} {
		l, f := Bad(in), Faults(in)
		bad, faults := slices.Clone(l), slices.Clone(f)
		for i := range cap(l) {
			l[:cap(l)][i] = api.Rec{Kind: 77, Index: 77}
		}
		for i := range cap(f) {
			f[:cap(f)][i] = "x"
		}
		tells(t, in, bad, faults)
	}
}

// Promise 16.1: of another length there is one, of Kind 0, and so is nothing but bad.
func TestLengths(t *testing.T) {
	long := append(busy().bytes(t), make([]byte, 600)...)
	for n := range len(long) {
		if n != 492 {
			tells(t, long[:n], []api.Rec{{Kind: 0, Index: 0}}, []string{"bad"})
			tells(t, make([]byte, n), []api.Rec{{Kind: 0, Index: 0}}, []string{"bad"})
		}
	}
	tells(t, long[:492], nil, nil)
	tells(t, make([]byte, 1<<16), []api.Rec{{Kind: 0, Index: 0}}, []string{"bad"})
	for _, none := range [][]byte{nil, {}} {
		if l, f := Bad(none), Faults(none); !slices.Equal(l, []api.Rec{{}}) || !slices.Equal(f, []string{"bad"}) || Sound(none) {
			t.Error(l, f)
		}
	}
}

// Promise 16.1: of nothing but 0 the front alone is bad, for some group is always the front one.
func TestAllZero(t *testing.T) {
	tells(t, make([]byte, 492), []api.Rec{{Kind: 5}}, []string{"bad"})
}

// Promise 16.1: each record is bad by itself, by its own bytes alone, be it free or good.
func TestEachByte(t *testing.T) {
	for _, s := range []sess{empty(), busy()} {
		b := s.bytes(t)
		for _, r := range recs() {
			at, n := lies(r)
			for i := at; i < at+n; i++ {
				for _, x := range []byte{1, 2, 4, 8, 16, 32, 64, 128, 85, 255} {
					b[i] ^= x
					if isBad(r, b[at:at+n]) {
						tells(t, b, []api.Rec{r}, []string{"bad"})
					} else {
						asTold(t, b)
					}
					b[i] ^= x
				}
			}
		}
		found(t, s)
	}
}

// Promise 16.1: the front is as told, or bad, whatever its four bytes.
func TestFront(t *testing.T) {
	s := busy()
	for g := range 8 {
		s.front = g
		found(t, s)
		b := s.bytes(t)
		for at := 488; at < 492; at++ {
			was := b[at]
			for n := range 256 {
				b[at] = byte(n)
				if byte(n) == was {
					tells(t, b, nil, nil)
				} else {
					tells(t, b, []api.Rec{{Kind: 5}}, []string{"bad"})
				}
			}
			b[at] = was
		}
	}
	// A good sum of a group that is none, or of another mark.
	b := s.bytes(t)
	for _, x := range [][]byte{{8, 211, 221, 0}, {255, 211, 212, 0}, {0, 210, 212, 0}, {7, 212, 221, 0}, {0, 0, 2, 0}} {
		copy(b[488:], x)
		tells(t, b, []api.Rec{{Kind: 5}}, []string{"bad"})
	}
}

// Promise 16.1: the terminal may be any pipe, or free; it is bad as a pipe is.
func TestTerm(t *testing.T) {
	for _, s := range []sess{empty(), busy()} {
		for _, l := range [][]api.Pipe{nil, {{}}, {{Readers: 8, Writers: 8}}, {{Head: 31, Count: 32, Writers: 5}}} {
			s.term = l
			found(t, s)
		}
		b := s.bytes(t)
		b[449] = 32
		tells(t, b, []api.Rec{{Kind: 4}}, []string{"bad"})
	}
}

// Promise 16.1: what is bad is by Kind, then Index, whichever records it is; what is not among them is not told.
func TestBadOrder(t *testing.T) {
	r := rand.New(rand.NewSource(1))
	for n := range 300 {
		b := busy().bytes(t)
		var want []api.Rec
		for _, x := range recs() {
			if n == 0 || r.Intn(n%7+1) == 0 {
				at, _ := lies(x)
				b[at+1] ^= 128
				want = append(want, x)
			}
		}
		var faults []string
		if len(want) > 0 {
			faults = []string{"bad"}
		}
		tells(t, b, want, faults)
	}
}

// Promise 16.2: where something is bad, nothing else is told, whatever else is wrong.
func TestBadAlone(t *testing.T) {
	s := wrong()
	found(t, s, "parent", "fd", "refs", "pipe", "ends")
	for _, r := range recs() {
		b := s.bytes(t)
		at, _ := lies(r)
		b[at+1] ^= 64
		tells(t, b, []api.Rec{r}, []string{"bad"})
	}
}

// wrong has all faults but bad, some of them twice.
func wrong() sess {
	s := busy()
	s.procs[1] = api.Proc{State: 1, Parent: 2, Fds: [8]int{6, 11}}
	s.procs[5] = api.Proc{State: 2, Parent: 7}
	s.files[9] = api.File{Kind: 1, Pipe: 1, Refs: 2}
	s.files[2] = api.File{Kind: 2, Pipe: 1, Refs: 9}
	s.pipes[3] = api.Pipe{}
	return s
}

// Promise 16.2: parent, of each process and each Parent, whatever states they have.
func TestParent(t *testing.T) {
	for i := range 8 {
		for parent := range 9 {
			for state := 1; state <= 3; state++ {
				s := empty()
				s.procs[i] = api.Proc{State: state, Parent: parent}
				if parent == 0 {
					found(t, s)
					continue
				}
				found(t, s, "parent")
				if parent-1 == i {
					continue
				}
				for other := 1; other <= 3; other++ {
					s.procs[parent-1] = api.Proc{State: other}
					found(t, s)
				}
				// One of each other's is no fault that the chapter names.
				s.procs[parent-1] = api.Proc{State: 1, Parent: i + 1}
				found(t, s)
				delete(s.procs, parent-1)
				s.files[parent-1] = api.File{Kind: 3, Refs: 1}
				found(t, s, "parent", "refs")
			}
		}
	}
}

// Promise 16.2: fd, of each Fd of each process and each file.
func TestFd(t *testing.T) {
	for i := range 8 {
		for at := range 8 {
			for fd := 1; fd <= 12; fd++ {
				s := busy()
				s.procs = map[int]api.Proc{(i + 3) % 8: {State: 1, Fds: [8]int{1, 2, 3, 5, 7, 8, 9, 12}}, (i + 5) % 8: {State: 3, Fds: [8]int{1, 12, 1, 0, 4}}}
				found(t, s)
				p := api.Proc{State: 1 + 2*(at%2)}
				p.Fds[at] = fd
				s.procs[i] = p
				if f, there := s.files[fd-1]; there {
					found(t, s, "refs")
					f.Refs++
					s.files[fd-1] = f
					found(t, s)
					continue
				}
				found(t, s, "fd")
				s.files[fd-1] = api.File{Kind: 3, Refs: 1}
				found(t, s)
			}
		}
	}
}

// Promise 16.2: refs, of each file, for as many Fds as there may be.
func TestRefs(t *testing.T) {
	for file := range 12 {
		s := empty()
		s.files[file] = api.File{Kind: 3, Refs: 1}
		found(t, s, "refs")
		for n := 1; n <= 64; n++ {
			p, ok := s.procs[n%8]
			if !ok {
				p.State = 1 + 2*(n%2)
			}
			p.Fds[(n+n/8)%8] = file + 1
			s.procs[n%8] = p
			for _, refs := range []int{1, n - 1, n, n + 1, 64} {
				if refs < 1 || refs > 64 {
					continue
				}
				s.files[file] = api.File{Kind: 3, Refs: refs}
				if refs == n {
					found(t, s)
				} else {
					found(t, s, "refs")
				}
			}
		}
	}
}

// Promise 16.2: pipe and ends, of each kind of file and each pipe: those of the session alone, and of none that is the terminal.
func TestPipe(t *testing.T) {
	for pipe := range 8 {
		for kind := 1; kind <= 2; kind++ {
			s := empty()
			s.procs[4] = api.Proc{State: 1, Fds: [8]int{3: 6}}
			s.files[5] = api.File{Kind: kind, Pipe: pipe, Refs: 1}
			if pipe > 3 {
				found(t, s)
				continue
			}
			found(t, s, "pipe")
			s.pipes[pipe] = api.Pipe{Readers: 2 - kind, Writers: kind - 1}
			found(t, s)
			s.pipes[pipe] = api.Pipe{Readers: kind - 1, Writers: 2 - kind}
			found(t, s, "ends")
			delete(s.pipes, pipe)
			other := (pipe + 1) % 4
			s.pipes[other] = api.Pipe{Readers: 2 - kind, Writers: kind - 1}
			found(t, s, "pipe", "ends")
		}
	}
	s := empty()
	s.procs[4] = api.Proc{State: 1, Fds: [8]int{3: 6}}
	s.files[5] = api.File{Kind: 3, Refs: 1}
	found(t, s)
	for _, p := range []api.Pipe{{}, {Readers: 1}, {Writers: 1}, {Readers: 1, Writers: 1}} {
		s.pipes[0] = p
		found(t, s, "ends")
	}
}

// Promise 16.2: ends, by how many files name a pipe, whatever their Refs, their Flags and what the pipe has.
func TestEnds(t *testing.T) {
	for pipe := range 4 {
		for readers := range 6 {
			for writers := range 6 {
				s := empty()
				for i := range readers + writers {
					kind := 1
					if i >= readers {
						kind = 2
					}
					s.files[i] = api.File{Kind: kind, Pipe: pipe, Refs: 1 + i%3, Flags: i % 2}
					for slot := range 1 + i%3 {
						p := s.procs[slot+3*(i/8)]
						p.State = 1
						p.Fds[i%8] = i + 1
						s.procs[slot+3*(i/8)] = p
					}
				}
				for r := range 9 {
					for w := range 9 {
						s.pipes[pipe] = api.Pipe{Head: r, Count: 32 - w, Readers: r, Writers: w, Data: [32]byte{9}}
						if r == readers && w == writers && r+w > 0 {
							found(t, s)
						} else {
							found(t, s, "ends")
						}
					}
				}
			}
		}
	}
}

// full is a session in which every record is there, and sound: each file has two Fds, each pipe two readers and a writer.
func full() sess {
	s := empty()
	for i := range 8 {
		s.procs[i] = api.Proc{State: 1, Parent: i, Fds: [8]int{i%4 + 1, 0, i%4 + 5, 7: i%4 + 9}}
	}
	for i := range 12 {
		s.files[i] = api.File{Kind: 1 + i/4%2, Pipe: i % 4, Refs: 2}
	}
	for i := range 4 {
		s.pipes[i] = api.Pipe{Readers: 2, Writers: 1}
	}
	return s
}

// Promise 16.2: each of many records is looked at, not the first one or the last one alone.
func TestEach(t *testing.T) {
	found(t, full())
	for i := range 8 {
		s := full()
		p := s.procs[i]
		p.Parent = i + 1
		s.procs[i] = p
		found(t, s, "parent")
		delete(s.procs, i)
		if i < 7 {
			found(t, s, "parent", "refs")
		} else {
			found(t, s, "refs")
		}
	}
	for i := range 12 {
		s := full()
		f := s.files[i]
		f.Refs = 3
		s.files[i] = f
		found(t, s, "refs")
		s.files[i] = api.File{Kind: 3, Refs: 2}
		found(t, s, "ends")
		delete(s.files, i)
		found(t, s, "fd", "ends")
	}
	for i := range 4 {
		s := full()
		s.pipes[i] = api.Pipe{Readers: 1, Writers: 2}
		found(t, s, "ends")
		delete(s.pipes, i)
		found(t, s, "pipe")
	}
}

// Promise 16.2: a fault that several records have is told once.
func TestOnce(t *testing.T) {
	s := full()
	for i := range 8 {
		p := s.procs[i]
		p.Parent = i + 1
		s.procs[i] = p
		found(t, s, "parent")
	}
	for i := range 4 {
		delete(s.files, 3*i)
		found(t, s, "parent", "fd", "ends")
	}
	for _, i := range []int{1, 2, 4, 5} {
		s.files[i] = api.File{Kind: 2, Pipe: i % 4, Refs: 1}
		found(t, s, "parent", "fd", "refs", "ends")
	}
	for i := range 3 {
		delete(s.pipes, i)
		found(t, s, "parent", "fd", "refs", "pipe", "ends")
	}
}

// Promise 16.2: all faults at once are in the chapter's order, and so are any of them.
func TestOrder(t *testing.T) {
	names := []string{"parent", "fd", "refs", "pipe", "ends"}
	for set := range 32 {
		s := empty()
		s.procs[0] = api.Proc{State: 1, Fds: [8]int{1}}
		s.files[0] = api.File{Kind: 3, Refs: 1}
		var want []string
		for i, name := range names {
			if set>>i&1 == 0 {
				continue
			}
			want = append(want, name)
			p := s.procs[0]
			switch name {
			case "parent":
				p.Parent = 8
			case "fd":
				p.Fds[7] = 12
			case "refs":
				s.files[0] = api.File{Kind: 3, Refs: 2}
			case "pipe":
				p.Fds[2] = 3
				s.files[2] = api.File{Kind: 2, Pipe: 1, Refs: 1}
			case "ends":
				s.pipes[3] = api.Pipe{Writers: 1}
			}
			s.procs[0] = p
		}
		found(t, s, want...)
	}
}

// Promise 16.2: whatever is not told to matter does not: what is pending, groups, bytes, flags, the terminal, the front.
func TestElse(t *testing.T) {
	r := rand.New(rand.NewSource(2))
	for range 200 {
		s := busy()
		for _, i := range []int{0, 2, 3, 7} {
			p := s.procs[i]
			p.Group = r.Intn(8)
			if p.State != 2 {
				p.State, p.Pending, p.Mask = 1+2*r.Intn(2), r.Intn(1<<15)<<1, r.Intn(1<<8)<<1
				p.Ignored = r.Intn(4) << 10
			} else {
				p.Code = r.Intn(256)
			}
			s.procs[i] = p
		}
		for _, i := range []int{0, 1, 2, 3, 4, 6, 7, 8, 11} {
			f := s.files[i]
			f.Flags = r.Intn(2)
			s.files[i] = f
		}
		for _, i := range []int{0, 2, 3} {
			p := s.pipes[i]
			p.Head, p.Count = r.Intn(32), r.Intn(33)
			r.Read(p.Data[:])
			s.pipes[i] = p
		}
		s.term = []api.Pipe{{Head: r.Intn(32), Count: r.Intn(33), Readers: r.Intn(9), Writers: r.Intn(9)}}
		s.front = r.Intn(8)
		found(t, s)
	}
}

// random is some session, nearly sound or nowhere near it.
func random(r *rand.Rand) sess {
	s := empty()
	for i := range 8 {
		if r.Intn(3) == 0 {
			continue
		}
		p := api.Proc{State: 1 + r.Intn(3), Group: r.Intn(8)}
		if r.Intn(2) == 0 {
			p.Parent = r.Intn(9)
		}
		for at := range p.Fds {
			if p.State != 2 && r.Intn(3) == 0 {
				p.Fds[at] = r.Intn(13)
			}
		}
		s.procs[i] = p
	}
	for i := range 12 {
		if r.Intn(4) > 0 {
			kind := 1 + r.Intn(3)
			s.files[i] = api.File{Kind: kind, Refs: 1 + r.Intn(3)}
			if kind != 3 {
				s.files[i] = api.File{Kind: kind, Pipe: r.Intn(8), Refs: 1 + r.Intn(3)}
			}
		}
	}
	for i := range 4 {
		if r.Intn(3) > 0 {
			s.pipes[i] = api.Pipe{Readers: r.Intn(3), Writers: r.Intn(3)}
		}
	}
	for _, mend := range []func(sess){mendFds, mendRefs, mendPipes, mendEnds, mendParents} {
		if r.Intn(3) > 0 {
			mend(s)
		}
	}
	return s
}

// mendFds leaves no Fd that names no file.
func mendFds(s sess) {
	for i, p := range s.procs {
		for at, fd := range p.Fds {
			if _, there := s.files[fd-1]; !there {
				p.Fds[at] = 0
			}
		}
		s.procs[i] = p
	}
}

// mendRefs has each file told how many Fds name it; what none names is free then.
func mendRefs(s sess) {
	named := map[int]int{}
	for _, p := range s.procs {
		for _, fd := range p.Fds {
			named[fd-1]++
		}
	}
	for i, f := range s.files {
		f.Refs = named[i]
		s.files[i] = f
		if f.Refs == 0 {
			delete(s.files, i)
		}
	}
}

// mendPipes has all files that name no pipe be the terminal's.
func mendPipes(s sess) {
	for i, f := range s.files {
		if _, there := s.pipes[f.Pipe]; !there && f.Pipe < 4 {
			s.files[i] = api.File{Kind: 3, Refs: f.Refs}
		}
	}
}

// mendEnds has each pipe told how many files name it; what none names is free then.
func mendEnds(s sess) {
	for i := range s.pipes {
		p := api.Pipe{}
		for _, f := range s.files {
			if f.Pipe == i && f.Kind == 1 {
				p.Readers++
			}
			if f.Pipe == i && f.Kind == 2 {
				p.Writers++
			}
		}
		p.Readers, p.Writers = min(p.Readers, 8), min(p.Writers, 8)
		s.pipes[i] = p
		if p.Readers+p.Writers == 0 {
			delete(s.pipes, i)
		}
	}
}

// mendParents has each process that names no other one have no parent.
func mendParents(s sess) {
	for i, p := range s.procs {
		if _, there := s.procs[p.Parent-1]; !there || p.Parent-1 == i {
			p.Parent = 0
			s.procs[i] = p
		}
	}
}

// Promises 16.1, 16.2: sessions at large, with any of the faults or none, and with bytes turned.
func TestAtLarge(t *testing.T) {
	r := rand.New(rand.NewSource(3))
	count := map[string]int{}
	for range 20000 {
		s := random(r)
		l := faultsOf(s)
		found(t, s, l...)
		if len(l) == 0 {
			count["sound"]++
		}
		for _, name := range l {
			count[name]++
			if len(l) == 1 {
				count[name+" alone"]++
			}
		}
		if t.Failed() {
			t.FailNow()
		}
	}
	for _, name := range []string{"sound", "parent", "fd", "refs", "pipe", "ends"} {
		if count[name] < 100 || name != "sound" && count[name+" alone"] < 20 {
			t.Error(name, count)
		}
	}
}

// Promises 16.1, 16.3 (W3): whatever one writes whom nobody trusts, bytes or records that are good by themselves, what is told is just what is there.
func TestWhatOthersWrite(t *testing.T) {
	r := rand.New(rand.NewSource(4))
	good, bad := 0, 0
	for range 400 {
		b := busy().bytes(t)
		for range 20 {
			other := random(r).bytes(t)
			x := recs()[r.Intn(26)]
			at, n := lies(x)
			switch r.Intn(5) {
			case 0:
				copy(b[at:at+n], make([]byte, n))
			case 1:
				b[r.Intn(492)] = byte(r.Intn(256))
			default:
				copy(b[at:at+n], other[at:at+n])
			}
			if asTold(t, b) {
				good++
			} else {
				bad++
				copy(b[at:at+n], other[at:at+n])
			}
			if t.Failed() {
				t.FailNow()
			}
		}
	}
	if good < 500 || bad < 500 {
		t.Error(good, bad)
	}
}

// Promise 16.2: nothing is kept from call to call, of whatever bytes.
func TestAgain(t *testing.T) {
	good, spoilt := busy().bytes(t), wrong().bytes(t)
	bad := slices.Clone(spoilt)
	bad[288+2] = 33
	for range 5 {
		tells(t, good, nil, nil)
		tells(t, bad, []api.Rec{{Kind: 3, Index: 0}}, []string{"bad"})
		tells(t, spoilt, nil, []string{"parent", "fd", "refs", "pipe", "ends"})
		tells(t, nil, []api.Rec{{}}, []string{"bad"})
		tells(t, Blank(), nil, nil)
	}
}

// honest is a session of honest ones alone, who do what chapters 17 and 18 say.
type honest struct{ sess }

// started is what chapter 22 says that a session with two bridges begins with.
func started() honest {
	h := honest{empty()}
	h.procs[0] = api.Proc{State: 1, Fds: [8]int{1, 2, 3}}
	h.files[0] = api.File{Kind: 3, Refs: 1}
	h.files[1] = api.File{Kind: 2, Pipe: 4, Refs: 1}
	h.files[2] = api.File{Kind: 1, Pipe: 5, Refs: 1}
	return h
}

// least are the least numbers below n of what is free in m, as many as are asked for, or none.
func least[T any](m map[int]T, n, count int) []int {
	var l []int
	for i := range n {
		if _, there := m[i]; !there && len(l) < count {
			l = append(l, i)
		}
	}
	if len(l) < count {
		return nil
	}
	return l
}

// fds are the first free Fds of a process, as many as are asked for, or none.
func (h honest) fds(i, count int) []int {
	taken := map[int]int{}
	for at, fd := range h.procs[i].Fds {
		if fd > 0 {
			taken[at] = fd
		}
	}
	return least(taken, 8, count)
}

func (h honest) name(i, at, fd int) {
	p := h.procs[i]
	p.Fds[at] = fd
	h.procs[i] = p
}

func (h honest) refer(file, more int) {
	f := h.files[file]
	f.Refs += more
	h.files[file] = f
}

func (h honest) fork(i int) {
	free := least(h.procs, 8, 1)
	if free == nil {
		return
	}
	child := h.procs[i]
	for _, fd := range child.Fds {
		if fd > 0 {
			h.refer(fd-1, 1)
		}
	}
	child.Parent, child.Pending = i+1, 0
	h.procs[free[0]] = child
}

func (h honest) shut(i, at int) {
	file := h.procs[i].Fds[at] - 1
	if file < 0 {
		return
	}
	h.name(i, at, 0)
	h.refer(file, -1)
	f := h.files[file]
	if f.Refs > 0 {
		return
	}
	delete(h.files, file)
	p, there := h.pipes[f.Pipe]
	if f.Kind == 3 || !there {
		return
	}
	if f.Kind == 1 {
		p.Readers--
	} else {
		p.Writers--
	}
	h.pipes[f.Pipe] = p
	if p.Readers == 0 && p.Writers == 0 {
		delete(h.pipes, f.Pipe)
	}
}

func (h honest) exit(i, code int) {
	for at := range 8 {
		h.shut(i, at)
	}
	for j := range 8 {
		child, there := h.procs[j]
		if !there || child.Parent != i+1 {
			continue
		}
		child.Parent = 0
		h.procs[j] = child
		if child.State == 2 {
			delete(h.procs, j)
		}
	}
	p := h.procs[i]
	if parent, there := h.procs[p.Parent-1]; !there || parent.State == 2 {
		delete(h.procs, i)
		return
	}
	p.State, p.Code, p.Pending = 2, code, 0
	h.procs[i] = p
}

func (h honest) wait(i int) {
	for j := range 8 {
		if child, there := h.procs[j]; there && child.Parent == i+1 && child.State == 2 {
			delete(h.procs, j)
			return
		}
	}
}

func (h honest) pipe(i int) {
	fds, files, pipes := h.fds(i, 2), least(h.files, 12, 2), least(h.pipes, 4, 1)
	if fds == nil || files == nil || pipes == nil {
		return
	}
	h.pipes[pipes[0]] = api.Pipe{Readers: 1, Writers: 1}
	for k, file := range files {
		h.files[file] = api.File{Kind: 1 + k, Pipe: pipes[0], Refs: 1}
		h.name(i, fds[k], file+1)
	}
}

func (h honest) dup(i, at int) {
	fds, fd := h.fds(i, 1), h.procs[i].Fds[at]
	if fd > 0 && fds != nil {
		h.refer(fd-1, 1)
		h.name(i, fds[0], fd)
	}
}

func (h honest) dup2(i, at, to int) {
	if fd := h.procs[i].Fds[at]; fd > 0 && at != to {
		h.refer(fd-1, 1)
		h.shut(i, to)
		h.name(i, to, fd)
	}
}

// flow has bytes come and go in a pipe, and the rest of what is told of processes and files be another.
func (h honest) flow(r *rand.Rand, i int) {
	k := r.Intn(4)
	if p, there := h.pipes[k]; there {
		p.Head, p.Count = r.Intn(32), r.Intn(33)
		h.pipes[k] = p
	}
	p := h.procs[i]
	p.State, p.Pending, p.Group = 1+2*r.Intn(2), r.Intn(1<<15)<<1, r.Intn(8)
	h.procs[i] = p
}

// act has some process do something, if there is one that may.
func (h honest) act(r *rand.Rand) {
	i := r.Intn(8)
	if p, there := h.procs[i]; !there || p.State == 2 {
		return
	}
	switch r.Intn(12) {
	case 0, 1, 2:
		h.fork(i)
	case 3:
		if i > 0 || r.Intn(6) == 0 {
			h.exit(i, r.Intn(256))
		}
	case 4:
		h.wait(i)
	case 5, 6:
		h.pipe(i)
	case 7, 8:
		h.shut(i, r.Intn(8))
	case 9:
		h.dup(i, r.Intn(8))
	case 10:
		h.dup2(i, r.Intn(8), r.Intn(8))
	default:
		h.flow(r, i)
	}
}

// Promise 16.3 (W3, W1): honest ones alone keep all sound, whatever they do.
func TestHonest(t *testing.T) {
	r := rand.New(rand.NewSource(5))
	zombies, orphans, dead, halves := 0, 0, 0, 0
	for range 100 {
		h := started()
		for range 100 {
			h.act(r)
			found(t, h.sess)
			if t.Failed() {
				t.FailNow()
			}
			for i, p := range h.procs {
				if p.State == 2 {
					zombies++
				}
				if i > 0 && p.Parent == 0 {
					orphans++
				}
			}
			for _, p := range h.pipes {
				if p.Readers == 0 || p.Writers == 0 {
					halves++
				}
			}
			if len(h.procs) == 0 {
				dead++
			}
		}
	}
	if zombies < 100 || orphans < 100 || dead < 1 || halves < 100 {
		t.Error(zombies, orphans, dead, halves)
	}
}

// Promise 16.3 (W3, W1): one thing that an honest one does not do, among all that they do, is told.
func TestOneWrong(t *testing.T) {
	r := rand.New(rand.NewSource(6))
	told := map[string]int{}
	for range 400 {
		h := started()
		for range 150 {
			h.act(r)
		}
		found(t, h.sess)
		for _, x := range wrongs(r, h.sess) {
			found(t, x.s, x.fault)
			told[x.fault]++
		}
		if t.Failed() {
			t.FailNow()
		}
	}
	for _, fault := range []string{"parent", "fd", "refs", "pipe", "ends"} {
		if told[fault] < 200 {
			t.Error(told)
		}
	}
}

// turned is a session with one fault.
type turned struct {
	s     sess
	fault string
}

// wrongs are sessions that differ in one record from a sound one.
func wrongs(r *rand.Rand, s sess) []turned {
	var l []turned
	wrong := func(fault string, turn func(u sess)) {
		u := s.copy()
		turn(u)
		l = append(l, turned{u, fault})
	}
	for i := range 8 {
		p, there := s.procs[i]
		if !there {
			continue
		}
		p.Parent = i + 1
		wrong("parent", func(u sess) { u.procs[i] = p })
		if free := least(s.procs, 8, 1); free != nil {
			p.Parent = free[0] + 1
			wrong("parent", func(u sess) { u.procs[i] = p })
		}
		p = s.procs[i]
		free, fds := least(s.files, 12, 1), honest{s}.fds(i, 1)
		if free == nil || fds == nil || p.State == 2 {
			continue
		}
		p.Fds[fds[0]] = free[0] + 1
		wrong("fd", func(u sess) { u.procs[i] = p })
	}
	for i, f := range s.files {
		f.Refs = 1 + f.Refs%64
		wrong("refs", func(u sess) { u.files[i] = f })
	}
	for i, p := range s.pipes {
		wrong("pipe", func(u sess) { delete(u.pipes, i) })
		p.Readers = (p.Readers + 1 + r.Intn(8)) % 9
		wrong("ends", func(u sess) { u.pipes[i] = p })
		p = s.pipes[i]
		p.Writers = (p.Writers + 1 + r.Intn(8)) % 9
		wrong("ends", func(u sess) { u.pipes[i] = p })
	}
	if free := least(s.pipes, 4, 1); free != nil {
		wrong("ends", func(u sess) { u.pipes[free[0]] = api.Pipe{} })
	}
	return l
}

// Promise 16.4: no call panics, of any length and any bytes.
func TestNoPanic(t *testing.T) {
	r := rand.New(rand.NewSource(7))
	for _, n := range []int{0, 1, 4, 8, 24, 40, 487, 488, 491, 492, 493, 512, 513, 1024, 16384, 16385, 1 << 20} {
		for _, x := range []byte{0, 1, 3, 127, 128, 255} {
			asTold(t, bytes.Repeat([]byte{x}, n))
		}
	}
	for range 2000 {
		b := make([]byte, 492)
		r.Read(b)
		asTold(t, b)
	}
}
