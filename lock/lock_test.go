package lock

import (
	"fmt"
	"slices"
	"testing"

	"muniment/api"
	"muniment/sample"
)

// P14.1: modes.
func TestModes(t *testing.T) {
	together := map[[2]int]bool{{IS, IS}: true, {IS, IX}: true, {IS, S}: true, {IX, IS}: true, {IX, IX}: true, {S, IS}: true, {S, S}: true}
	joins := map[[2]int]int{{IS, IS}: IS, {IX, IX}: IX, {S, S}: S, {IS, IX}: IX, {IS, S}: S, {IX, S}: X}
	for a := -1; a < 7; a++ {
		for b := -1; b < 7; b++ {
			want := joins[[2]int{min(a, b), max(a, b)}]
			if a >= 1 && b >= 1 && max(a, b) == X {
				want = X
			}
			if Together(a, b) != together[[2]int{a, b}] || Join(a, b) != want {
				t.Error("modes", a, b, Together(a, b), Join(a, b))
			}
		}
	}
}

// The chapter's examples.
func TestExamples(t *testing.T) {
	l := New()
	ask := func(id uint64, name string, mode int, want api.Errno) {
		t.Helper()
		if e := l.Ask(id, name, mode); e != want {
			t.Errorf("Ask %d %s %d: %d, want %d", id, name, mode, e, want)
		}
	}
	ask(0, "a", S, api.ErrArg)
	ask(1, "a", 0, api.ErrArg)
	ask(1, "a", 5, api.ErrArg)
	ask(1, "a", S, api.OK)
	ask(2, "a", S, api.OK)
	ask(1, "a", X, api.ErrWait)
	ask(3, "a", IS, api.ErrWait)
	ask(3, "b", IS, api.ErrState)
	ask(3, "b", 9, api.ErrArg)
	if fmt.Sprint(l.Queue("a")) != "[1 3]" {
		t.Error("Queue", l.Queue("a"))
	}
	if g, ok := l.Waits(1); !ok || g != (Grant{"a", X}) {
		t.Error("Waits", g, ok)
	}
	if got := l.Free(2); fmt.Sprint(got) != "[1]" || fmt.Sprint(l.Held(1)) != "[{a 4}]" {
		t.Error("Free", got, l.Held(1))
	}
	if _, ok := l.Waits(1); ok || fmt.Sprint(l.Queue("a")) != "[3]" {
		t.Error("behind Free")
	}
	l = New()
	ask(1, "b", X, api.OK)
	ask(2, "c", X, api.OK)
	ask(2, "b", S, api.ErrWait)
	if v, ok := l.Victim(2); ok || v != 0 {
		t.Error("no ring")
	}
	ask(1, "c", S, api.ErrWait)
	for _, id := range []uint64{1, 2} {
		if v, ok := l.Victim(id); !ok || v != 2 {
			t.Error("Victim", v, ok)
		}
	}
	if v, ok := l.Victim(3); ok || v != 0 {
		t.Error("Victim of none")
	}
}

// P14.1: who holds a name goes ahead in its queue, behind others that hold it too.
func TestQueue(t *testing.T) {
	l := New()
	for id := uint64(1); id < 4; id++ {
		l.Ask(id, "a", IS)
	}
	l.Ask(4, "a", X)
	l.Ask(2, "a", X)
	l.Ask(5, "a", IS) // goes together with all holders, but some wait
	l.Ask(1, "a", X)
	if fmt.Sprint(l.Queue("a")) != "[2 1 4 5]" {
		t.Error("Queue", l.Queue("a"))
	}
	if e := l.Ask(3, "a", S); e != api.OK {
		t.Error("a holder passes those who wait", e)
	}
	l.Free(3)
	if got := fmt.Sprint(l.Held(2)); got != "[{a 1}]" {
		t.Error("2 and 1 hold IS still", got)
	}
	if v, ok := l.Victim(4); ok || v != 0 {
		t.Error("4 waits for a ring, but lies on none")
	}
	if v, ok := l.Victim(1); !ok || v != 2 {
		t.Error("two that go up wait for one another", v, ok)
	}
	if got := l.Free(2); fmt.Sprint(got) != "[1]" {
		t.Error("Free", got)
	}
	if got := l.Free(1); fmt.Sprint(got) != "[4]" {
		t.Error("Free", got)
	}
	if got := l.Free(4); fmt.Sprint(got) != "[5]" || len(l.Held(4)) != 0 || l.Free(9) != nil {
		t.Error("Free", got)
	}
}

// P14.2: names by their order, and who waits is freed, too.
func TestFree(t *testing.T) {
	l := New()
	for i, name := range []string{"c", "a", "b"} {
		l.Ask(1, name, X)
		l.Ask(uint64(10+i), name, IS)
		l.Ask(uint64(20+i), name, IX)
		l.Ask(uint64(30+i), name, X)
	}
	if got := fmt.Sprint(l.Free(1)); got != "[11 21 12 22 10 20]" {
		t.Error("Free", got)
	}
	l.Ask(40, "a", IS)
	if got := fmt.Sprint(l.Free(31)); got != "[40]" {
		t.Error("one who waited goes", got)
	}
	var none *Table
	if none.Ask(1, "a", S) == api.OK || none.Free(1) != nil || none.Held(1) != nil || none.Queue("a") != nil {
		t.Error("no table")
	}
}

// ringOf tells the greatest owner on a ring through id, by the chapter's words.
func ringOf(l *Table, owners int, id uint64) (uint64, bool) {
	edge := map[[2]uint64]bool{}
	for w := uint64(1); w <= uint64(owners); w++ {
		g, ok := l.Waits(w)
		if !ok {
			continue
		}
		q := l.Queue(g.Name)
		for u := uint64(1); u <= uint64(owners); u++ {
			for _, h := range l.Held(u) {
				if u != w && h.Name == g.Name && !Together(g.Mode, h.Mode) {
					edge[[2]uint64{w, u}] = true
				}
			}
			if i := slices.Index(q, u); i >= 0 && i < slices.Index(q, w) {
				edge[[2]uint64{w, u}] = true
			}
		}
	}
	for k := uint64(1); k <= uint64(owners); k++ {
		for i := uint64(1); i <= uint64(owners); i++ {
			for j := uint64(1); j <= uint64(owners); j++ {
				if edge[[2]uint64{i, k}] && edge[[2]uint64{k, j}] {
					edge[[2]uint64{i, j}] = true
				}
			}
		}
	}
	for u := uint64(owners); u > 0; u-- {
		if edge[[2]uint64{id, u}] && edge[[2]uint64{u, id}] && edge[[2]uint64{id, id}] {
			return u, true
		}
	}
	return 0, false
}

// P14.3 and P14.4: holders go together, victims are as said, and nobody is left waiting.
func TestWhatever(t *testing.T) {
	const owners = 7
	for seed := range uint64(150) {
		src := sample.New(seed)
		l := New()
		for range 120 {
			id := uint64(1 + src.Below(owners))
			if src.Below(6) == 0 {
				l.Free(id)
			} else if e := l.Ask(id, string(rune('a'+src.Below(3))), 1+src.Below(4)); e == api.ErrWait {
				for u := uint64(1); u <= owners; u++ {
					v, ok := l.Victim(u)
					if want, there := ringOf(l, owners, u); v != want || ok != there {
						t.Fatal("Victim", u, v, want)
					}
				}
				for v, ok := l.Victim(id); ok; v, ok = l.Victim(id) {
					l.Free(v)
				}
			}
			consistent(t, l, owners)
		}
		drain(t, l, owners)
	}
}

func consistent(t *testing.T, l *Table, owners uint64) {
	t.Helper()
	modes := map[string][]int{}
	for u := uint64(1); u <= owners; u++ {
		for _, h := range l.Held(u) {
			for _, m := range modes[h.Name] {
				if !Together(m, h.Mode) {
					t.Fatal("two holders that do not go together")
				}
			}
			modes[h.Name] = append(modes[h.Name], h.Mode)
		}
		if _, ok := l.Victim(u); ok {
			t.Fatal("a ring is left")
		}
	}
}

func drain(t *testing.T, l *Table, owners uint64) {
	t.Helper()
	for range owners {
		for u := uint64(1); u <= owners; u++ {
			if _, ok := l.Waits(u); !ok {
				l.Free(u)
			}
		}
	}
	for u := uint64(1); u <= owners; u++ {
		if _, ok := l.Waits(u); ok || len(l.Held(u)) > 0 {
			t.Fatal("somebody is left", u)
		}
	}
	if len(l.locks) > 0 || len(l.owners) > 0 {
		t.Fatal("locks that nobody holds are kept")
	}
}
