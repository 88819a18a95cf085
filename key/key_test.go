package key

import (
	"bytes"
	"math"
	"slices"
	"strings"
	"testing"

	"muniment/api"
	"muniment/sample"
	"muniment/val"
)

func whole(n int64) api.Val { return api.Val{Kind: api.Int, N: uint64(n)} }
func float(f float64) api.Val {
	return api.Val{Kind: api.Float, N: math.Float64bits(f)}
}
func text(s string) api.Val { return api.Val{Kind: api.Text, B: []byte(s)} }

// P4.1: the keys' bytes.
func TestOf(t *testing.T) {
	for _, c := range []struct {
		v    api.Val
		want []byte
		e    api.Errno
	}{
		{api.Val{Kind: api.Null}, []byte{16}, 0}, {api.Val{Kind: api.Bool, N: 1}, []byte{32, 1}, 0}, {text("a"), []byte{64, 97, 0, 0}, 0},
		{api.Val{Kind: api.Bytes, B: []byte{0}}, []byte{80, 0, 255, 0, 0}, 0},
		{whole(1), []byte{48, 1, 191, 240, 0, 0, 0, 0, 0, 0, 0, 0, 0}, 0}, {float(1), []byte{48, 1, 191, 240, 0, 0, 0, 0, 0, 0, 0, 0, 1}, 0},
		{whole(1<<53 + 1), []byte{48, 1, 195, 64, 0, 0, 0, 0, 0, 0, 0, 1, 0}, 0}, {whole(math.MaxInt64), []byte{48, 1, 195, 223, 255, 255, 255, 255, 255, 255, 3, 255, 0}, 0},
		{whole(-1<<53 - 1), []byte{48, 1, 60, 191, 255, 255, 255, 255, 255, 254, 0, 1, 0}, 0}, {whole(math.MinInt64), []byte{48, 1, 60, 31, 255, 255, 255, 255, 255, 255, 0, 0, 0}, 0},
		{api.Val{Kind: api.Float, N: 0xFFF8000000000001}, []byte{48, 0, 255, 248, 0, 0, 0, 0, 0, 1}, 0},
		{api.Val{Kind: api.List, L: []api.Val{whole(0)}}, []byte{96, 1, 48, 1, 128, 0, 0, 0, 0, 0, 0, 0, 0, 0, 0, 0}, 0},
		{api.Val{Kind: api.Doc, F: []api.Field{{Name: "a", V: api.Val{Kind: api.Null}}}}, []byte{112, 1, 97, 0, 0, 16, 0}, 0},
		{text(strings.Repeat("a", 94)), nil, api.ErrKey}, {api.Val{}, nil, api.ErrForm}, {text(strings.Repeat("a", 5000)), nil, api.ErrBig},
	} {
		got, e := Of(c.v)
		if !bytes.Equal(got, c.want) || e != c.e {
			t.Errorf("Of %v: %v %d, want %v %d", c.v, got, e, c.want, c.e)
		}
	}
	if k, e := Of(text(strings.Repeat("a", 93))); len(k) != 96 || e != api.OK {
		t.Error("a key of 96 bytes")
	}
}

// P4.1: Back refuses whatever is no key.
func TestBackRefuses(t *testing.T) {
	one, _ := Of(whole(1))
	wrongRest, wrongKind := slices.Clone(one), slices.Clone(one)
	wrongRest[11], wrongKind[12] = 1, 2
	bigInt, _ := Of(float(1 << 63))
	bigInt[12] = 0
	half, _ := Of(float(1.5))
	half[12] = 0
	minus, _ := Of(float(math.Copysign(0, -1)))
	minus[12] = 0
	for _, b := range [][]byte{
		nil, {0}, {16, 0}, {32, 2}, {32}, {64, 97}, {64, 97, 0}, {64, 0, 1, 0, 0}, {64, 255, 0, 0}, {96}, {96, 1}, {96, 2}, {112, 1, 0, 0, 16, 0}, wrongRest, wrongKind, bigInt, half, minus,
		{112, 1, 97, 0, 0, 16, 1, 97, 0, 0, 16, 0}, append([]byte{64}, append(bytes.Repeat([]byte{97}, 94), 0, 0)...), {48, 0, 0, 0, 0, 0, 0, 0, 0, 0}, {48, 2, 191, 240, 0, 0, 0, 0, 0, 0, 0, 0, 0},
		bytes.Repeat([]byte{96, 1}, 48),
	} {
		if v, e := Back(b); e != api.ErrKey || v.Kind != 0 {
			t.Errorf("Back %v: %v %d", b, v, e)
		}
	}
}

// P4.2: several keys one behind the other.
func TestAll(t *testing.T) {
	got, e := All([]api.Val{whole(1), text("a")}, []bool{false, true})
	one, _ := Of(whole(1))
	if want := append(one, 191, 158, 255, 255); !bytes.Equal(got, want) || e != api.OK {
		t.Errorf("All: %v %d", got, e)
	}
	long := text(strings.Repeat("a", 60))
	for i, c := range []struct {
		l []api.Val
		f []bool
		e api.Errno
	}{
		{nil, nil, 0}, {nil, []bool{true}, 1}, {[]api.Val{{}}, nil, 1}, {[]api.Val{long, long}, []bool{false, false}, 14}, {[]api.Val{long, long, {}}, []bool{false, false, true}, 4},
		{[]api.Val{{}, text(strings.Repeat("a", 94))}, []bool{false, false}, 4}, {[]api.Val{text(strings.Repeat("a", 94)), {}}, []bool{false, false}, 14},
		{[]api.Val{long, text(strings.Repeat("a", 30))}, []bool{true, false}, 0}, {[]api.Val{long, text(strings.Repeat("a", 31))}, []bool{true, false}, 14},
	} {
		if b, e := All(c.l, c.f); e != c.e || e != api.OK && b != nil {
			t.Errorf("All case %d: %d, want %d", i, e, c.e)
		}
	}
	for i, c := range []struct {
		b []byte
		f []bool
		e api.Errno
	}{
		{nil, nil, 0}, {nil, []bool{false}, 14}, {[]byte{16}, nil, 14}, {[]byte{16, 239}, []bool{false, true}, 0}, {[]byte{16, 239}, []bool{false, false}, 14}, {[]byte{16}, make([]bool, 1<<20), 14},
	} {
		if l, e := Parts(c.b, c.f); e != c.e || e != api.OK && l != nil {
			t.Errorf("Parts case %d: %d, want %d", i, e, c.e)
		}
	}
}

// P4.3: Compare and After.
func TestCompareAfter(t *testing.T) {
	if Compare([]byte{1}, []byte{1, 0}) != -1 || Compare(nil, nil) != 0 || Compare([]byte{2}, []byte{1, 255}) != 1 {
		t.Error("Compare")
	}
	for _, c := range []struct{ b, want []byte }{{[]byte{1, 255}, []byte{2}}, {[]byte{255}, nil}, {nil, nil}, {[]byte{1, 2}, []byte{1, 3}}, {[]byte{255, 0, 255, 255}, []byte{255, 1}}} {
		in := slices.Clone(c.b)
		if got, ok := After(in); !bytes.Equal(got, c.want) || ok != (c.want != nil) || !bytes.Equal(in, c.b) {
			t.Errorf("After %v: %v %v", c.b, got, ok)
		}
	}
}

// P4.4: keys' order is the values', falling turns it, no key begins another, and all come back.
func TestOrder(t *testing.T) {
	s := sample.New(4)
	for range 20000 {
		a, b, c := s.Value(2), s.Value(2), s.Value(0)
		x, ex := Of(a)
		y, ey := Of(b)
		want, _ := val.Compare(a, b)
		if ex != api.OK || ey != api.OK {
			continue
		}
		if Compare(x, y) != want {
			t.Fatalf("order of %v, %v: %d, want %d", a, b, Compare(x, y), want)
		}
		if want != 0 && (bytes.HasPrefix(x, y) || bytes.HasPrefix(y, x)) {
			t.Fatalf("a key begins another: %v %v", a, b)
		}
		if w, e := Back(x); e != api.OK {
			t.Fatalf("Back of %v: %d", a, e)
		} else if z, _ := val.Compare(a, w); z != 0 {
			t.Fatalf("Back of %v: %v", a, w)
		}
		checkLists(t, a, b, c, want)
	}
}

func checkLists(t *testing.T, a, b, c api.Val, want int) {
	x, ex := All([]api.Val{a, c}, []bool{true, false})
	y, ey := All([]api.Val{b, c}, []bool{true, false})
	if ex != api.OK || ey != api.OK {
		return
	}
	if Compare(x, y) != -want {
		t.Fatalf("falling order of %v, %v", a, b)
	}
	l, e := Parts(x, []bool{true, false})
	if e != api.OK || len(l) != 2 {
		t.Fatalf("Parts of %v, %v: %d", a, c, e)
	}
	if z, _ := val.Compare(l[1], c); z != 0 {
		t.Fatalf("Parts of %v, %v: %v", a, c, l)
	}
}
