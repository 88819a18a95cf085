package plain

import (
	"bytes"
	"fmt"
	"slices"
	"strings"
	"testing"

	"muniment/api"
	"muniment/lit"
	"muniment/sample"
)

func parse(t *testing.T, s string) api.Val {
	t.Helper()
	v, e := lit.Parse(s)
	if e != api.OK {
		t.Fatal("a text that is none", s)
	}
	return v
}

// told tells a reply as a text.
func told(r api.Reply) string {
	out := fmt.Sprint(int(r.E), " n", r.N)
	for _, d := range r.Docs {
		s, _ := lit.Text(d)
		out += " " + s
	}
	return out
}

func doc(t *testing.T, s string) api.Val { return parse(t, s) }

// P15.1: the chapter's examples, and each error in its place.
func TestDo(t *testing.T) {
	var s State
	v := func(text string) api.Val { return parse(t, text) }
	long := strings.Repeat("a", 94)
	for i, c := range []struct {
		r    api.Request
		want string
	}{
		{api.Request{Do: 0, Coll: "a"}, "1 n0"}, {api.Request{Do: 11, Coll: "a"}, "1 n0"}, {api.Request{Do: -1}, "1 n0"},
		{api.Request{Do: Make, Coll: "a"}, "0 n0"}, {api.Request{Do: Put, Coll: "a", Doc: v(`{"_id": 1, "x": 5}`)}, "0 n0"}, {api.Request{Do: Put, Coll: "a", Doc: v(`{"_id": 1, "x": 6}`)}, "0 n1"},
		{api.Request{Do: Get, Coll: "a", Key: v("1")}, `0 n0 {"_id": 1, "x": 6}`}, {api.Request{Do: Count, Coll: "a"}, "0 n1"},
		{api.Request{Do: Index, Coll: "a", Index: "i", Path: "x", Unique: true}, "0 n0"}, {api.Request{Do: Add, Coll: "a", Doc: v(`{"_id": 2, "x": 6}`)}, "13 n0"},
		{api.Request{Do: Add, Coll: "a", Doc: v(`{"_id": 1}`)}, "6 n0"}, {api.Request{Do: Add, Coll: "a", Doc: v(`{"_id": 2}`)}, "0 n0"},
		{api.Request{Do: Find, Coll: "a", Index: "i", Low: v("0"), High: v("9"), N: 5}, `0 n1 {"_id": 1, "x": 6}`},
		{api.Request{Do: Take, Coll: "a", Key: v("7")}, "17 n0"}, {api.Request{Do: Take, Coll: "b", Key: v("1")}, "5 n0"}, {api.Request{Do: Put, Coll: "a", Doc: v(`{"x": 1}`)}, "14 n0"},
		{api.Request{Do: Find, Coll: "a", Index: "j"}, "5 n0"}, {api.Request{Do: Make, Coll: "a"}, "6 n0"}, {api.Request{Do: Make, Coll: "a.b"}, "4 n0"}, {api.Request{Do: Make}, "4 n0"},
		{api.Request{Do: Index, Coll: "z", Index: "", Path: strings.Repeat("p", 201)}, "4 n0"}, {api.Request{Do: Index, Coll: "z", Index: "k", Path: strings.Repeat("p", 201)}, "2 n0"},
		{api.Request{Do: Index, Coll: "z", Index: "k"}, "5 n0"}, {api.Request{Do: Index, Coll: "a", Index: "i"}, "6 n0"}, {api.Request{Do: Unindex, Coll: "a", Index: "j"}, "5 n0"},
		{api.Request{Do: Drop, Coll: "z"}, "5 n0"}, {api.Request{Do: Count, Coll: "z"}, "5 n0"}, {api.Request{Do: Put, Coll: "z"}, "5 n0"},
		{api.Request{Do: Put, Coll: "a"}, "4 n0"}, {api.Request{Do: Put, Coll: "a", Doc: v("5")}, "4 n0"}, {api.Request{Do: Put, Coll: "a", Doc: v(`{"_id": "` + long + `"}`)}, "14 n0"},
		{api.Request{Do: Add, Coll: "a", Doc: v(`{"_id": 1, "x": "` + long[:81] + `"}`)}, "14 n0"}, {api.Request{Do: Put, Coll: "a", Doc: v(`{"_id": 2, "x": 6}`)}, "13 n0"}, {api.Request{Do: Put, Coll: "a", Doc: v(`{"_id": 1, "x": 6}`)}, "0 n1"},
		{api.Request{Do: Put, Coll: "a", Doc: v(`{"_id": 2, "x": f4018000000000000}`)}, "0 n1"},
		{api.Request{Do: Take, Coll: "a"}, "4 n0"}, {api.Request{Do: Get, Coll: "a", Key: v(`"` + long + `"`)}, "14 n0"}, {api.Request{Do: Get, Coll: "a", Key: v("9")}, "17 n0"},
		{api.Request{Do: Find, Coll: "a", N: 0, Low: api.Val{Kind: 9}}, "1 n0"}, {api.Request{Do: Find, Coll: "a", N: 65}, "1 n0"}, {api.Request{Do: Find, Coll: "a", N: 64, Low: api.Val{Kind: 9}}, "4 n0"},
		{api.Request{Do: Find, Coll: "a", N: 1, High: api.Val{Kind: api.Text, B: make([]byte, 5000)}}, "2 n0"}, {api.Request{Do: Find, Coll: "a", N: 64}, `0 n2 {"_id": 1, "x": 6} {"_id": 2, "x": f4018000000000000}`},
		{api.Request{Do: Find, Coll: "a", N: 1, Low: v("1")}, `0 n1 {"_id": 1, "x": 6}`}, {api.Request{Do: Find, Coll: "a", N: 9, Low: v("2"), High: v("1")}, "0 n0"}, {api.Request{Do: Find, Coll: "a", N: 9, Low: v("1"), High: v("1")}, `0 n1 {"_id": 1, "x": 6}`},
		{api.Request{Do: Find, Coll: "a", N: 9, High: v(`"` + strings.Repeat("z", 500) + `"`)}, `0 n2 {"_id": 1, "x": 6} {"_id": 2, "x": f4018000000000000}`},
		{api.Request{Do: Index, Coll: "a", Index: "u", Path: "none", Unique: true}, "0 n0"}, {api.Request{Do: Unindex, Coll: "a", Index: "i"}, "0 n0"}, {api.Request{Do: Put, Coll: "a", Doc: v(`{"_id": 2, "x": 6}`)}, "0 n1"},
		{api.Request{Do: Index, Coll: "a", Index: "i", Path: "x", Unique: true}, "13 n0"}, {api.Request{Do: Index, Coll: "a", Index: "i", Path: "x"}, "0 n0"},
		{api.Request{Do: Put, Coll: "a", Doc: v(`{"_id": 3, "y": "` + long[:81] + `"}`)}, "0 n0"}, {api.Request{Do: Index, Coll: "a", Index: "y", Path: "y", Unique: true}, "14 n0"},
		{api.Request{Do: Take, Coll: "a", Key: v("1")}, `0 n0 {"_id": 1, "x": 6}`}, {api.Request{Do: Drop, Coll: "a"}, "0 n0"}, {api.Request{Do: Count, Coll: "a"}, "5 n0"},
	} {
		before := copied(s)
		next, reply := Do(s, c.r)
		if told(reply) != c.want {
			t.Errorf("request %d: %s, want %s", i, told(reply), c.want)
		}
		if !Equal(s, before) || reply.E != api.OK && !Equal(next, s) {
			t.Errorf("request %d changes the state that was handed in, or a state with an error", i)
		}
		s = next
	}
}

func TestLimits(t *testing.T) {
	var s State
	var r api.Reply
	for i := range 17 {
		s, r = Do(s, api.Request{Do: Make, Coll: fmt.Sprint("c", i)})
	}
	if r.E != api.ErrLimit || len(s.Colls) != 16 {
		t.Error("17 collections", r.E)
	}
	if _, r := Do(s, api.Request{Do: Make, Coll: "c3"}); r.E != api.ErrThere {
		t.Error("ErrThere comes ahead", r.E)
	}
	for i := range 9 {
		s, r = Do(s, api.Request{Do: Index, Coll: "c1", Index: fmt.Sprint("i", i)})
	}
	if r.E != api.ErrLimit || len(s.Colls[1].Indexes)+len(s.Colls[2].Indexes) != 8 {
		t.Error("9 indexes", r.E)
	}
}

// P15.2: keys and entries.
func TestEntries(t *testing.T) {
	x := IndexDef{Name: "i", Path: "a.0"}
	for text, want := range map[string]string{
		`{"_id": null}`: "[] false 0", `{"_id": null, "a": [true]}`: "[32 1 16] true 0", `{"a": 1}`: "[] false 14", "5": "[] false 4", `{"_id": null, "a": ["` + strings.Repeat("x", 92) + `"]}`: "[] false 0",
	} {
		k, ok, e := Entry(x, doc(t, text))
		if len(k) > 50 {
			k = nil
			ok = false
		}
		if got := fmt.Sprint(k, ok, int(e)); got != want && strings.ReplaceAll(got, " ", "") != strings.ReplaceAll(want, " ", "") {
			t.Errorf("Entry of %.30s: %s, want %s", text, got, want)
		}
	}
	if _, ok, e := Entry(x, doc(t, `{"_id": null, "a": ["`+strings.Repeat("x", 93)+`"]}`)); ok || e != api.ErrKey {
		t.Error("an entry of 97 bytes", e)
	}
	if k, e := Key(doc(t, `{"x": 1, "_id": true}`)); !bytes.Equal(k, []byte{32, 1}) || e != api.OK {
		t.Error("Key", k, e)
	}
	c := Coll{Docs: []api.Val{doc(t, `{"_id": false, "a": [true]}`), doc(t, `{"_id": true, "a": [null]}`)}}
	if l, e := Entries(c, x); fmt.Sprint(l) != "[[16 32 1] [32 1 32 0]]" || e != api.OK {
		t.Error("Entries", l, e)
	}
	c.Docs = append(c.Docs, doc(t, "5"))
	if l, e := Entries(c, x); l != nil || e != api.ErrForm {
		t.Error("Entries with a fault", e)
	}
}

func TestEqual(t *testing.T) {
	a := State{Colls: []Coll{{Name: "a", Docs: []api.Val{doc(t, `{"_id": 1, "x": [x"01", {}]}`)}, Indexes: []IndexDef{{Name: "i"}}}}}
	b := copied(a)
	if !Equal(a, b) || !Equal(State{}, State{Colls: []Coll{}}) {
		t.Error("the same")
	}
	b.Colls[0].Docs[0].F[1].V.L[0].B[0] = 2
	c := copied(a)
	c.Colls[0].Indexes[0].Unique = true
	if Equal(a, b) || Equal(a, c) || Equal(a, State{}) {
		t.Error("not the same")
	}
}

// P15.3: documents rise, unique values stand alone, Find tells the documents of Entries.
func TestWhatever(t *testing.T) {
	for seed := range uint64(20) {
		src := sample.New(seed)
		var s State
		s, _ = Do(s, api.Request{Do: Make, Coll: "a"})
		s, _ = Do(s, api.Request{Do: Index, Coll: "a", Index: "u", Path: "x", Unique: true})
		s, _ = Do(s, api.Request{Do: Index, Coll: "a", Index: "y", Path: "y"})
		for range 150 {
			id, x := src.Value(1), src.Value(1)
			d := api.Val{Kind: api.Doc, F: []api.Field{{Name: "_id", V: id}, {Name: "x", V: x}, {Name: "y", V: src.Value(0)}}}
			if src.Below(3) == 0 {
				d.F = d.F[:1]
			}
			r := api.Request{Do: Put + src.Below(3), Coll: "a", Doc: d, Key: id}
			next, reply := Do(s, r)
			_, got := Do(next, api.Request{Do: Get, Coll: "a", Key: id})
			if reply.E == api.OK && (r.Do == Take) != (got.E == api.ErrEnd) || r.Do != Take && reply.E == api.OK && !equalVal(got.Docs[0], d) {
				t.Fatal("what is put is got", reply.E, got.E)
			}
			s = next
			inOrder(t, s.Colls[0])
		}
	}
}

func inOrder(t *testing.T, c Coll) {
	t.Helper()
	var keys [][]byte
	for _, d := range c.Docs {
		k, _ := Key(d)
		keys = append(keys, k)
	}
	if !slices.IsSortedFunc(keys, bytes.Compare) || len(slices.CompactFunc(keys, bytes.Equal)) != len(c.Docs) {
		t.Fatal("documents do not rise")
	}
	for i, d := range c.Docs {
		if clashes(c.Docs[:i], c.Indexes[0], d) {
			t.Fatal("a unique value stands twice")
		}
	}
	if len(c.Docs) > 64 {
		return
	}
	l, _ := Entries(c, c.Indexes[1])
	_, r := Do(State{Colls: []Coll{c}}, api.Request{Do: Find, Coll: c.Name, Index: "y", N: 64})
	for i, d := range r.Docs {
		if k, _, _ := Entry(c.Indexes[1], d); !bytes.Equal(k, l[i]) || len(l) != len(r.Docs) {
			t.Fatal("Find tells others than Entries")
		}
	}
}
