package sum

import (
	"bytes"
	"testing"

	"muniment/api"
)

// plainSum goes bit by bit, as the chapter says.
func plainSum(b []byte) uint32 {
	r := uint32(1<<32 - 1)
	for _, c := range b {
		r ^= uint32(c)
		for range 8 {
			if r&1 == 1 {
				r = r>>1 ^ poly
			} else {
				r >>= 1
			}
		}
	}
	return r ^ (1<<32 - 1)
}

func some(n int, seed uint32) []byte {
	b := make([]byte, n)
	for i := range b {
		seed = seed*1664525 + 1013904223
		b[i] = byte(seed >> 24)
	}
	return b
}

// P1.1: the sum, its going on, its joining.
func TestSum(t *testing.T) {
	if Of(nil) != 0 || Of([]byte("a")) != 3904355907 || Of([]byte("123456789")) != 3421780262 {
		t.Error("Of: the chapter's examples")
	}
	for n := range 70 {
		b := some(n, uint32(n))
		if Of(b) != plainSum(b) {
			t.Errorf("Of %d bytes", n)
		}
		for cut := 0; cut <= n; cut++ {
			if More(Of(b[:cut]), b[cut:]) != Of(b) {
				t.Errorf("More of %d, %d", cut, n)
			}
			if s, e := Join(Of(b[:cut]), Of(b[cut:]), n-cut); s != Of(b) || e != api.OK {
				t.Errorf("Join of %d, %d: %d", cut, n, e)
			}
		}
	}
}

func TestJoinEdges(t *testing.T) {
	for _, n := range []int{-1, -1 << 62, 1<<30 + 1, 1 << 62} {
		if s, e := Join(5, 6, n); s != 0 || e != api.ErrArg {
			t.Errorf("Join of %d bytes: %d %d", n, s, e)
		}
	}
	if _, e := Join(5, 6, 1<<30); e != api.OK {
		t.Error("Join of 2^30 bytes")
	}
	if s, e := Join(5, 6, 0); s != 3 || e != api.OK {
		t.Error("Join of none")
	}
}

// P1.2: numbers in bytes.
func TestPutGet(t *testing.T) {
	for _, c := range []struct {
		b        []byte
		at, size int
		n        uint64
		want     []byte
		e        api.Errno
	}{
		{[]byte{0, 0, 0}, 1, 2, 258, []byte{0, 2, 1}, api.OK},
		{[]byte{0}, 0, 1, 255, []byte{255}, api.OK},
		{[]byte{0}, 0, 1, 256, nil, api.ErrBig},
		{[]byte{0}, 0, 3, 1, nil, api.ErrArg},
		{[]byte{0}, 1, 1, 1, nil, api.ErrArg},
		{[]byte{0}, -1, 1, 1 << 40, nil, api.ErrArg},
		{[]byte{0}, 1<<63 - 1, 8, 1, nil, api.ErrArg},
		{make([]byte, 4), 0, 4, 1 << 32, nil, api.ErrBig},
		{make([]byte, 8), 0, 8, 1<<64 - 1, bytes.Repeat([]byte{255}, 8), api.OK},
	} {
		got, e := Put(c.b, c.at, c.size, c.n)
		if !bytes.Equal(got, c.want) || e != c.e {
			t.Errorf("Put %v %d %d %d: %v %d", c.b, c.at, c.size, c.n, got, e)
		}
		if e == api.OK {
			if n, e := Get(got, c.at, c.size); n != c.n || e != api.OK {
				t.Errorf("P1.3: Get of Put %d: %d %d", c.n, n, e)
			}
		}
	}
	if n, e := Get([]byte{2, 1}, 0, 2); n != 258 || e != api.OK {
		t.Error("Get")
	}
	if n, e := Get([]byte{2, 1}, 1, 2); n != 0 || e != api.ErrArg {
		t.Error("Get beyond the end")
	}
}

func TestPutKeepsNothing(t *testing.T) {
	b := make([]byte, 2, 9)
	got, _ := Put(b, 0, 1, 7)
	got[1] = 3
	if b[0] != 0 || b[1] != 0 {
		t.Error("R4: Put shares memory with its argument")
	}
}

// P1.3: strings that differ in a row of at most 32 bits have other sums.
func TestBursts(t *testing.T) {
	b := some(64, 9)
	for at := 0; at < 64*8-32; at += 7 {
		for _, burst := range []uint32{1, 3, 1 << 31, 0x80000001, 0xFFFFFFFF, 0xDEADBEEF} {
			c := bytes.Clone(b)
			for i := range 32 {
				if burst>>i&1 == 1 {
					c[(at+i)/8] ^= 1 << ((at + i) % 8)
				}
			}
			if Of(c) == Of(b) {
				t.Errorf("burst %x at %d", burst, at)
			}
		}
	}
}
