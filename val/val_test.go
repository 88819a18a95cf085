package val

import (
	"bytes"
	"fmt"
	"math"
	"math/big"
	"reflect"
	"strings"
	"testing"

	"muniment/api"
	"muniment/sample"
)

func null() api.Val              { return api.Val{Kind: api.Null} }
func truth(n uint64) api.Val     { return api.Val{Kind: api.Bool, N: n} }
func whole(n int64) api.Val      { return api.Val{Kind: api.Int, N: uint64(n)} }
func float(f float64) api.Val    { return api.Val{Kind: api.Float, N: math.Float64bits(f)} }
func text(s string) api.Val      { return api.Val{Kind: api.Text, B: []byte(s)} }
func raw(b ...byte) api.Val      { return api.Val{Kind: api.Bytes, B: b} }
func list(l ...api.Val) api.Val  { return api.Val{Kind: api.List, L: l} }
func doc(f ...api.Field) api.Val { return api.Val{Kind: api.Doc, F: f} }

func field(name string, v api.Val) api.Field { return api.Field{Name: name, V: v} }

// deep tells n Lists within one another.
func deep(n int) api.Val {
	v := list()
	for range n - 1 {
		v = list(v)
	}
	return v
}

func many(n int) (l []api.Val, f []api.Field) {
	for i := range n {
		l = append(l, null())
		f = append(f, field(fmt.Sprint("n", i), null()))
	}
	return l, f
}

// P2.1: which values are good, and the first fault of those that are not.
func TestGood(t *testing.T) {
	l64, f64 := many(64)
	l65, f65 := many(65)
	long := strings.Repeat("x", 32)
	bad := api.Val{Kind: 9}
	for i, c := range []struct {
		v api.Val
		e api.Errno
	}{
		{null(), 0}, {truth(1), 0}, {truth(2), 4}, {api.Val{}, 4}, {bad, 4}, {api.Val{Kind: -1}, 4},
		{api.Val{Kind: api.Null, N: 1}, 4}, {api.Val{Kind: api.Null, B: []byte{1}}, 4}, {api.Val{Kind: api.Text, N: 1}, 4},
		{api.Val{Kind: api.Int, B: []byte{1}}, 4}, {api.Val{Kind: api.Doc, L: l64}, 4}, {api.Val{Kind: api.List, F: f64}, 4},
		{api.Val{Kind: api.Bytes, N: 1}, 4}, {api.Val{Kind: api.List, N: 1}, 4}, {api.Val{Kind: api.Doc, N: 1}, 4},
		{text("\xff"), 4}, {text("\xc0\x80"), 4}, {text("\xed\xa0\x80"), 4}, {text("\xf4\x90\x80\x80"), 4}, {raw(255), 0},
		{list(l64...), 0}, {list(l65...), 19}, {doc(f64...), 0}, {doc(f65...), 19},
		{deep(16), 0}, {deep(17), 3}, {list(deep(17), list(l65...)), 19}, {list(list(l65...), bad), 4},
		{text(strings.Repeat("x", 4093)), 0}, {text(strings.Repeat("x", 4094)), 2}, {list(deep(17), text(strings.Repeat("x", 5000))), 3},
		{doc(field("", null())), 4}, {doc(field(long, null())), 0}, {doc(field(long+"x", null())), 4}, {doc(field("a.b", null())), 4},
		{doc(field("a\x1f", null())), 4}, {doc(field("\x7f ", null())), 0}, {doc(field("\xff", null())), 4},
		{doc(field("a", null()), field("a", null())), 4}, {doc(field("a", bad)), 4},
	} {
		size, se := Size(c.v)
		b, pe := Put(c.v)
		if e := Good(c.v); e != c.e || se != c.e || pe != c.e || size != len(b) || e != api.OK && b != nil {
			t.Errorf("case %d: %d %d %d, want %d; %d bytes of %d", i, e, se, pe, c.e, len(b), size)
		}
	}
	if Good(deep(1<<16)) != api.ErrDeep {
		t.Error("2^16 parts within one another")
	}
}

// P2.1: the bytes.
func TestPut(t *testing.T) {
	for _, c := range []struct {
		v    api.Val
		want []byte
	}{
		{null(), []byte{1}}, {whole(-1), []byte{3, 255, 255, 255, 255, 255, 255, 255, 255}},
		{doc(field("a", truth(1))), []byte{8, 1, 1, 97, 2, 1}},
		{text("ab"), []byte{5, 2, 0, 97, 98}}, {raw(), []byte{6, 0, 0}}, {list(null(), truth(0)), []byte{7, 2, 1, 2, 0}},
		{float(1), []byte{4, 0, 0, 0, 0, 0, 0, 240, 63}},
	} {
		if got, e := Put(c.v); e != api.OK || !bytes.Equal(got, c.want) {
			t.Errorf("Put: %v %d, want %v", got, e, c.want)
		}
	}
}

// P2.2: the first fault in the order of bytes.
func TestGet(t *testing.T) {
	nest := func(n int) []byte { return append(bytes.Repeat([]byte{7, 1}, n), 1) }
	for _, c := range []struct {
		b []byte
		e api.Errno
	}{
		{nil, 4}, {[]byte{2, 2}, 4}, {[]byte{5, 1, 0, 255}, 4}, {[]byte{1, 1}, 4}, {[]byte{7, 65}, 19}, {[]byte{8, 65}, 19}, {[]byte{3}, 4},
		{[]byte{0}, 4}, {[]byte{9}, 4}, {[]byte{7, 2, 1}, 4}, {[]byte{5, 2, 0, 97}, 4}, {[]byte{8, 1, 0, 1}, 4}, {[]byte{8, 1, 1, 46, 1}, 4},
		{[]byte{8, 2, 1, 97, 1, 1, 97, 1}, 4}, {nest(16), 0}, {nest(17), 3}, {append(nest(16)[:32], 7), 3}, {append(nest(16)[:32], 8), 3},
		{[]byte{7, 2, 9, 7, 65}, 4}, {[]byte{7, 2, 7, 65, 9}, 19}, {make([]byte, 4097), 2}, {append([]byte{5, 253, 15}, make([]byte, 4093)...), 0},
		{append([]byte{8, 1, 33}, append(bytes.Repeat([]byte{97}, 33), 1)...), 4},
	} {
		v, e := Get(c.b)
		if e != c.e {
			t.Errorf("Get %v: %d, want %d", c.b[:min(9, len(c.b))], e, c.e)
		}
		if e != api.OK && !reflect.DeepEqual(v, api.Val{}) {
			t.Errorf("R2: Get %v tells a value beside an error", c.b[:min(9, len(c.b))])
		}
	}
}

// P2.5: Get of Put is the value, Put of what Get tells are the bytes, whatever they are.
func TestRoundTrip(t *testing.T) {
	s := sample.New(1)
	for range 3000 {
		v := s.Value(3)
		b, e := Put(v)
		if e != api.OK {
			t.Fatal("a sample is not good", e)
		}
		w, e := Get(b)
		if e != api.OK || !bytes.Equal(mustPut(w), b) || !reflect.DeepEqual(v, w) && len(v.B)+len(v.L)+len(v.F) > 0 && fmt.Sprint(v) != fmt.Sprint(w) {
			t.Fatalf("%v became %v (%d)", v, w, e)
		}
		if len(b) > 0 {
			b[s.Below(len(b))] = byte(s.Below(12))
		}
		if w, e := Get(b); e == api.OK && !bytes.Equal(mustPut(w), b) {
			t.Fatalf("two ways to write %v", w)
		}
	}
}

func mustPut(v api.Val) []byte {
	b, _ := Put(v)
	return b
}

// exactOf tells a number's exact value; nil, if it is none or infinite.
func exactOf(v api.Val) *big.Float {
	f := math.Float64frombits(v.N)
	if v.Kind == api.Int {
		return new(big.Float).SetPrec(64).SetInt64(int64(v.N))
	}
	if math.IsNaN(f) || math.IsInf(f, 0) {
		return nil
	}
	return new(big.Float).SetPrec(64).SetFloat64(f)
}

// P2.3: the order.
func TestCompare(t *testing.T) {
	rising := []api.Val{
		null(), truth(0), truth(1), {Kind: api.Float, N: 0x7FF0000000000001}, {Kind: api.Float, N: 0x7FF8000000000000}, {Kind: api.Float, N: 0xFFF8000000000000},
		float(math.Inf(-1)), float(-1 << 63 * 1.5), whole(math.MinInt64), float(-1 << 63), float(-1.5), whole(-1), float(-1), float(math.Copysign(0, -1)), whole(0), float(0),
		float(0.5), whole(1), float(1), whole(1 << 53), float(1 << 53), whole(1<<53 + 1), whole(1<<53 + 2), float(1<<53 + 2), whole(math.MaxInt64), float(1 << 63), float(math.Inf(1)),
		text(""), text("a"), text("aa"), text("b"), raw(), raw(0), raw(0, 0), raw(1), list(), list(null()), list(whole(1)), list(whole(1), whole(2)), list(whole(2)),
		doc(), doc(field("a", whole(1))), doc(field("a", whole(1)), field("b", null())), doc(field("a", whole(2))), doc(field("b", whole(0))),
	}
	for i, a := range rising {
		for j, b := range rising {
			want := 0
			if i < j {
				want = -1
			} else if i > j {
				want = 1
			}
			if c, e := Compare(a, b); c != want || e != api.OK {
				t.Errorf("Compare %v %v: %d %d", a, b, c, e)
			}
		}
	}
	bad := api.Val{Kind: 9}
	if c, e := Compare(bad, deep(17)); c != 0 || e != api.ErrForm {
		t.Error("Compare of a bad first one")
	}
	if c, e := Compare(null(), deep(17)); c != 0 || e != api.ErrDeep {
		t.Error("Compare of a bad second one")
	}
}

func TestCompareNumbers(t *testing.T) {
	s := sample.New(2)
	for range 20000 {
		a, b := s.Value(0), s.Value(0)
		x, y := exactOf(a), exactOf(b)
		if class(a.Kind) != api.Int || class(b.Kind) != api.Int || x == nil || y == nil || x.Cmp(y) == 0 {
			continue
		}
		if c, _ := Compare(a, b); c != x.Cmp(y) {
			t.Fatalf("Compare %v %v: %d", a, b, c)
		}
	}
}

// P2.4: paths.
func TestPath(t *testing.T) {
	v := doc(field("a", list(whole(5), doc(field("b", whole(6))))), field("1", null()))
	for path, want := range map[string]string{
		"a.1.b": "6", "b": "-", "a.0": "5", "a.00": "-", "a.2": "-", "a.00001": "-", "a.": "-", ".a": "-", "a..b": "-", "1": "null", "a.1.b.c": "-", "a.-1": "-", "a.b": "-", ".": "-",
	} {
		got := "-"
		if x, ok := Path(v, path); ok {
			got = map[int]string{api.Int: fmt.Sprint(x.N), api.Null: "null"}[x.Kind]
		}
		if got != want {
			t.Errorf("Path %q: %s, want %s", path, got, want)
		}
	}
	if x, ok := Path(v, ""); !ok || !reflect.DeepEqual(x, v) {
		t.Error("an empty path")
	}
	if _, ok := Path(deep(17), ""); ok {
		t.Error("Path of a bad value")
	}
}

func TestPathIsNew(t *testing.T) {
	v := doc(field("a", list(raw(1))))
	x, _ := Path(v, "a")
	x.L[0].B[0] = 9
	if v.F[0].V.L[0].B[0] != 1 {
		t.Error("R4: Path shares memory with its argument")
	}
}

// P2.4: With.
func TestWith(t *testing.T) {
	v := doc(field("a", whole(1)), field("c", whole(3)))
	w, e := With(v, "b", whole(2))
	if e != api.OK || len(w.F) != 3 || w.F[2].Name != "b" {
		t.Errorf("With a new field: %v %d", w, e)
	}
	w, e = With(v, "a", null())
	if x, ok := Path(w, "a"); e != api.OK || len(w.F) != 2 || w.F[0].Name != "a" || !ok || x.Kind != api.Null || v.F[0].V.Kind != api.Int {
		t.Errorf("With in a field's place: %v %d", w, e)
	}
	_, f64 := many(64)
	for i, c := range []struct {
		v    api.Val
		name string
		x    api.Val
		e    api.Errno
	}{
		{null(), "a", null(), 4}, {deep(17), "a", null(), 4}, {v, "", null(), 4}, {v, "a.b", null(), 4}, {v, "b", api.Val{}, 4}, {doc(f64...), "x", null(), 19},
		{doc(f64...), "n5", whole(1), 0}, {v, "b", deep(16), 3}, {v, "b", deep(15), 0}, {v, "b", text(strings.Repeat("x", 4090)), 2},
	} {
		if w, e := With(c.v, c.name, c.x); e != c.e || e != api.OK && !reflect.DeepEqual(w, api.Val{}) {
			t.Errorf("With case %d: %d, want %d", i, e, c.e)
		}
	}
}
