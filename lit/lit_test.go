package lit

import (
	"math"
	"reflect"
	"strings"
	"testing"

	"muniment/api"
	"muniment/sample"
	"muniment/val"
)

func doc(name string, v api.Val) api.Val {
	return api.Val{Kind: api.Doc, F: []api.Field{{Name: name, V: v}}}
}

func whole(n int64) api.Val { return api.Val{Kind: api.Int, N: uint64(n)} }

// P3.1: the text of each kind.
func TestText(t *testing.T) {
	text := func(s string) api.Val { return api.Val{Kind: api.Text, B: []byte(s)} }
	list := func(l ...api.Val) api.Val { return api.Val{Kind: api.List, L: l} }
	for _, c := range []struct {
		v    api.Val
		want string
		e    api.Errno
	}{
		{api.Val{Kind: api.Doc, F: []api.Field{{Name: "a", V: list(whole(1), api.Val{Kind: api.Null})}, {Name: "b", V: text("x\n")}}}, `{"a": [1, null], "b": "x\n"}`, 0},
		{api.Val{Kind: api.Bytes, B: []byte{0, 255}}, `x"00ff"`, 0}, {api.Val{Kind: api.Bool}, "false", 0}, {api.Val{Kind: api.Bool, N: 1}, "true", 0},
		{whole(math.MinInt64), "-9223372036854775808", 0}, {api.Val{Kind: api.Float, N: math.Float64bits(-1)}, "fbff0000000000000", 0},
		{text("\"\\\t\r\x00\x7fé"), "\"\\\"\\\\\\t\\x0d\\x00\\x7fé\"", 0}, {list(), "[]", 0}, {api.Val{Kind: api.Doc}, "{}", 0},
		{api.Val{}, "", 4}, {doc(strings.Repeat("n", 33), whole(1)), "", 4}, {text(strings.Repeat("a", 5000)), "", 2},
	} {
		if got, e := Text(c.v); got != c.want || e != c.e {
			t.Errorf("Text: %s %d, want %s %d", got, e, c.want, c.e)
		}
	}
}

// P3.1: what is a value's text, and what is none.
func TestParse(t *testing.T) {
	for s, want := range map[string]string{
		" [ 1,2 ]\t": "[1, 2]", "f3ff0000000000000": "f3ff0000000000000", "f3FF000000000000A": "f3ff000000000000a", "-0": "0", "007": "7", "-007": "-7",
		"9223372036854775807": "9223372036854775807", "-9223372036854775808": "-9223372036854775808", strings.Repeat("0", 99) + "5": "5",
		"{ \"a\" :1 , \"b\":x\"FF\"}": `{"a": 1, "b": x"ff"}`, `"\x41\xC3\xa9\n\""`: `"Aé\n\""`, `" a b "`: `" a b "`, "[]": "[]", "[ ]": "[]", "{\t}": "{}", "false": "false", `x""`: `x""`,
	} {
		v, e := Parse(s)
		if got, _ := Text(v); e != api.OK || got != want {
			t.Errorf("Parse %s: %s %d, want %s", s, got, e, want)
		}
	}
	for _, s := range []string{
		"", " ", "[1,]", "[,1]", "[1 2]", "9223372036854775808", "-9223372036854775809", "99999999999999999999999999", "- 1", "--1", "+1", "1.0", "-", "nul", "nulll", "True", "fals", "f3ff", "f3ff00000000000001",
		"f3ff000000000000g", "F3ff0000000000000", `x "00"`, `x"0"`, `x"0 0"`, `"a`, "\"\n\"", "\"\x7f\"", `"\q"`, `"\x4"`, `"\xff"`, "{1: 2}", `{"a" 1}`, `{"a": 1,}`, `{"a.b": 1}`, `{"a": 1, "a": 2}`, "1 2", "[1", "\n1", "1\r", "]", "\x001",
	} {
		if v, e := Parse(s); e != api.ErrForm || !reflect.DeepEqual(v, api.Val{}) {
			t.Errorf("Parse %q: %d", s, e)
		}
	}
}

func TestParseLimits(t *testing.T) {
	nest := func(n int) string { return strings.Repeat("[", n) + strings.Repeat("]", n) }
	for _, c := range []struct {
		s string
		e api.Errno
	}{
		{nest(16), 0}, {nest(17), 3}, {nest(32768), 3}, {strings.Repeat("[", 65536), 4}, {strings.Repeat(" ", 65537), 2}, {strings.Repeat(" ", 65535) + "1", 0},
		{"[" + strings.Repeat("1,", 64) + "1]", 19}, {"[" + strings.Repeat("1,", 63) + "1]", 0}, {`"` + strings.Repeat("a", 4094) + `"`, 2}, {`"` + strings.Repeat("a", 4093) + `"`, 0},
	} {
		if _, e := Parse(c.s); e != c.e {
			t.Errorf("Parse of %d bytes: %d, want %d", len(c.s), e, c.e)
		}
		if _, _, e := Take(c.s, 0); e != c.e {
			t.Errorf("Take of %d bytes: %d, want %d", len(c.s), e, c.e)
		}
	}
}

// P3.1: Take.
func TestTake(t *testing.T) {
	for _, c := range []struct {
		s    string
		at   int
		want string
		next int
		e    api.Errno
	}{
		{"12 x", 0, "12", 2, 0}, {"12x", 0, "12", 2, 0}, {"", 0, "", 0, 4}, {"12", 1, "2", 2, 0}, {"12", 2, "", 0, 4}, {"12", 3, "", 0, 1}, {"12", -1, "", 0, 1},
		{" \t[1] ]", 0, "[1]", 5, 0}, {"nullnull", 0, "null", 4, 0}, {"f3ff00000000000001", 0, "f3ff0000000000000", 17, 0}, {"99999999999999999999", 0, "", 0, 4},
		{"-0-", 0, "0", 2, 0}, {`"a"b`, 0, `"a"`, 3, 0}, {"[1", 0, "", 0, 4}, {"[1]", 1, "1", 2, 0},
	} {
		v, next, e := Take(c.s, c.at)
		got, _ := Text(v)
		if got != c.want || next != c.next || e != c.e {
			t.Errorf("Take %q %d: %s %d %d", c.s, c.at, got, next, e)
		}
	}
}

// P3.2: Parse of Text is the value, and so is Take, whatever stands behind a blank.
func TestRoundTrip(t *testing.T) {
	s := sample.New(3)
	for range 3000 {
		v := s.Value(3)
		text, e := Text(v)
		if e != api.OK {
			t.Fatal(e)
		}
		w, e := Parse(text)
		if c, _ := val.Compare(v, w); e != api.OK || c != 0 {
			t.Fatalf("Parse of %s: %v %d", text, w, e)
		}
		w, next, e := Take(text+" "+string(s.Bytes(3)), 0)
		if c, _ := val.Compare(v, w); e != api.OK || c != 0 || next != len(text) {
			t.Fatalf("Take of %s: %v %d", text, w, e)
		}
	}
}
