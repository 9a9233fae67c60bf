// Package mem: frames of bytes. See chapter 1 of the document.
package mem

import (
	"commonage/api"
)

const (
	frameSize = 64
	maxFrames = 256
	wordSize  = 4
)

// Mem is frames of bytes, one behind the other.
type Mem struct {
	bytes []byte
}

// New makes a Mem of so many frames, all 0.
func New(frames int) *Mem {
	frames = min(max(frames, 0), maxFrames)
	return &Mem{bytes: make([]byte, frames*frameSize)}
}

// Load answers n bytes from at on.
func (m *Mem) Load(at, n int) ([]byte, api.Errno) {
	if !m.has(at, n) {
		return nil, api.ErrArg
	}
	b := make([]byte, n)
	copy(b, m.bytes[at:])
	return b, api.OK
}

// Store puts b at at.
func (m *Mem) Store(at int, b []byte) api.Errno {
	if !m.has(at, len(b)) {
		return api.ErrArg
	}
	copy(m.bytes[at:], b)
	return api.OK
}

// Word answers the four bytes from at on as a number.
func (m *Mem) Word(at int) (uint32, api.Errno) {
	if !m.has(at, wordSize) {
		return 0, api.ErrArg
	}
	var w [wordSize]byte
	copy(w[:], m.bytes[at:])
	return join(w), api.OK
}

// SetWord puts n as four bytes at at.
func (m *Mem) SetWord(at int, n uint32) api.Errno {
	w := split(n)
	return m.Store(at, w[:])
}

// Zero makes all bytes of a frame 0.
func (m *Mem) Zero(frame int) api.Errno {
	if frame < 0 || frame >= len(m.bytes)/frameSize {
		return api.ErrArg
	}
	lo := frame * frameSize
	clear(m.bytes[lo : lo+frameSize])
	return api.OK
}

// Size tells how many bytes there are.
func (m *Mem) Size() int {
	return len(m.bytes)
}

// Copy answers another Mem with the same bytes.
func (m *Mem) Copy() *Mem {
	c := &Mem{bytes: make([]byte, len(m.bytes))}
	copy(c.bytes, m.bytes)
	return c
}

// has subtracts where a sum would be plainer, since at and n together may wrap round.
func (m *Mem) has(at, n int) bool {
	return at >= 0 && n >= 0 && at <= len(m.bytes) && n <= len(m.bytes)-at
}

func split(n uint32) [wordSize]byte {
	return [wordSize]byte{byte(n >> 24), byte(n >> 16), byte(n >> 8), byte(n)}
}

func join(w [wordSize]byte) uint32 {
	return uint32(w[0])<<24 | uint32(w[1])<<16 | uint32(w[2])<<8 | uint32(w[3])
}
