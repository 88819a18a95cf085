// Package sum makes checksums, and lays numbers into bytes: see DOC.md, chapter 1.
package sum

import (
	"slices"

	"muniment/api"
)

// poly is the polynomial of the sum, its lowest power in the highest bit.
const poly = 0xEDB88320

// mostJoined is how many bytes Join takes at most behind the first part.
const mostJoined = 1 << 30

// steps holds what four shifts make of a register of 4 bits: two steps a byte in place of eight.
var steps = [16]uint32{
	0x00000000, 0x1DB71064, 0x3B6E20C8, 0x26D930AC,
	0x76DC4190, 0x6B6B51F4, 0x4DB26158, 0x5005713C,
	0xEDB88320, 0xF00F9344, 0xD6D6A3E8, 0xCB61B38C,
	0x9B64C2B0, 0x86D3D2D4, 0xA00AE278, 0xBDBDF21C,
}

// Of tells the sum of b.
func Of(b []byte) uint32 { return More(0, b) }

// More tells the sum of bytes whose sum is s, and b behind them.
func More(s uint32, b []byte) uint32 {
	r := ^s
	for _, c := range b {
		r ^= uint32(c)
		r = r>>4 ^ steps[r&15]
		r = r>>4 ^ steps[r&15]
	}
	return ^r
}

// matrix tells what each bit of a register becomes.
type matrix [32]uint32

// apply tells what m makes of the register r.
func (m *matrix) apply(r uint32) uint32 {
	var out uint32
	for i := range m {
		if r>>i&1 == 1 {
			out ^= m[i]
		}
	}
	return out
}

// squared tells the matrix that does twice what m does.
func (m *matrix) squared() matrix {
	var out matrix
	for i, r := range m {
		out[i] = m.apply(r)
	}
	return out
}

// oneByte tells the matrix of one byte 0.
func oneByte() matrix {
	m := matrix{poly}
	for i := 1; i < 32; i++ {
		m[i] = 1 << (i - 1)
	}
	for range 3 {
		m = m.squared()
	}
	return m
}

// Join tells the sum of bytes with the sum a and n bytes with the sum b behind them.
func Join(a, b uint32, n int) (uint32, api.Errno) {
	if n < 0 || n > mostJoined {
		return 0, api.ErrArg
	}
	for m := oneByte(); n > 0; n >>= 1 {
		if n&1 == 1 {
			a = m.apply(a)
		}
		m = m.squared()
	}
	return a ^ b, api.OK
}

// within tells whether size is a number's, and the size bytes from at on lie in b.
func within(b []byte, at, size int) bool {
	if size != 1 && size != 2 && size != 4 && size != 8 {
		return false
	}
	return at >= 0 && at <= len(b)-size
}

// Put tells b with the number n in the size bytes from at on, the lowest byte first.
func Put(b []byte, at, size int, n uint64) ([]byte, api.Errno) {
	if !within(b, at, size) {
		return nil, api.ErrArg
	}
	if size < 8 && n>>(8*size) != 0 {
		return nil, api.ErrBig
	}
	out := slices.Clone(b)
	for i := range size {
		out[at+i] = byte(n >> (8 * i))
	}
	return slices.Clip(out), api.OK
}

// Get tells the number in the size bytes from at on.
func Get(b []byte, at, size int) (uint64, api.Errno) {
	if !within(b, at, size) {
		return 0, api.ErrArg
	}
	var n uint64
	for i := range size {
		n |= uint64(b[at+i]) << (8 * i)
	}
	return n, api.OK
}
