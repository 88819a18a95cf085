package script

import (
	"fmt"
	"strings"
	"testing"

	"muniment/api"
	"muniment/sample"
)

// play holds a script's answers, by lines, against those wanted; both are shown by " / ".
func play(t *testing.T, text, want string) {
	t.Helper()
	got, e := Run(strings.ReplaceAll(text, " / ", "\n"))
	if got = strings.ReplaceAll(strings.TrimSuffix(got, "\n"), "\n", " / "); got != want || e != api.OK {
		t.Errorf("%s\n got %s\nwant %s (%d)", text, got, want, e)
	}
}

// DOC.md's ten examples of the whole, and the chapter's.
func TestExamples(t *testing.T) {
	for _, c := range [][2]string{
		{`1 make a / 1 put a {"_id": 1} / 1 get a 1 / state`, `1: 0 / 1: 0 / 1: 0 {"_id": 1} / a {"_id": 1}`},
		{`1 make a / 1 make a / 1 get b 1 / 1 get a 1`, `1: 0 / 1: 6 / 1: 5 / 1: 17`},
		{`1 make a / 1 begin / 1 add a {"_id": 2} / 2 get a 2 / 1 commit / step 2`, `1: 0 / 1: 0 / 1: 0 / - / 1: 0 / 2: 0 {"_id": 2}`},
		{`1 make a / 1 begin / 1 add a {"_id": 2} / crash 0 / state / audit`, `1: 0 / 1: 0 / 1: 0 / 0 / a / 0`},
		{`1 make a / 1 put a {"_id": 1, "x": 5} / 1 unique a i x / run / 1 add a {"_id": 2, "x": 5}`, `1: 0 / 1: 0 / - / 2 1: 0 / 1: 13`},
		{`1 make a / 1 begin / 2 begin / 1 add a {"_id": 1} / 2 add a {"_id": 5} / 1 commit / step 2`, `1: 0 / 1: 0 / 2: 0 / 1: 0 / - / 1: 0 / 2: 0`},
		{`1 make a / 1 put a {"_id": 1} / 1 begin / 2 begin / 1 get a 1 / 2 get a 1 / 1 take a 1 / 2 take a 1`, `1: 0 / 1: 0 / 1: 0 / 2: 0 / 1: 0 {"_id": 1} / 2: 0 {"_id": 1} / - / 2: 11`},
		{`1 make a / 1 put a {"_id": 1} / 1 find a 5 / 1 count a`, `1: 0 / 1: 0 / 1: 0 n 1 {"_id": 1} / 1: 0 n 1`},
		{`1 make a / 1 begin / 1 mark 0 / 1 add a {"_id": 1} / 1 back 0 / 1 commit / 1 count a`, `1: 0 / 1: 0 / 1: 0 / 1: 0 / 1: 0 / 1: 0 / 1: 0`},
		{`1 raw 0102 / 1 begin / 9 begin / state`, `1: 4 / - / ? / -`},
		{`9 begin / foo / 1 raw 0102 / 1 begin / state`, `? / ? / 1: 4 / - / -`},
	} {
		play(t, c[0], c[1])
	}
}

// P23.1: forms of lines.
func TestForms(t *testing.T) {
	for _, line := range []string{
		"0 begin", "5 begin", "1", "1 ", "begin", "1 begin 2", "1 mark", "1 mark x", "1 mark 1234567890", "1 mark -1", "1 make", "1 make a b", "1 unindex a", "1 index a i", "1 index a i p q", "1 put a", "1 put a {", "1 put a 1 2", "1 take a",
		"1 find a", "1 find a x", "1 find a i", "1 find a i x", "1 find a i 5 1", "1 find a i 5 1 2 3", "1 find a i 5 1 [", "1 open a 5", "1 open a i 5 1", "1 next 1", "1 next x 1", "1 close", "1 close -1", "1 raw", "1 raw 0", "1 raw 0g", "1 raw 00 00", "1 rawr 00",
		"step", "step 0", "step 5", "step 1 1", "run 1", "checkpoint 1", "clean x", "tidy 0", "crash", "crash x", "crash 1 2", "crash 1234567890", "state a", "audit 1", "State", "1 BEGIN", "1 make " + strings.Repeat("a", 201), "0000000001 begin",
	} {
		play(t, line, "?")
	}
	play(t, "# 1 begin /   / \t#x /  01  begin \t / 000000001\rcommit / 1 find a 007 / 1 raw 4D44ff / 4 commit / 4 raw 09AFaf / step 4", "1: 0 / 1: 0 / 1: 5 / - / 4: 12 / 4: 4 / -")
	if got, e := Run("1 begin\n\n"); got != "1: 0\n" || e != api.OK {
		t.Error("a text that ends with the byte 10", got, e)
	}
	if got, e := Run(""); got != "" || e != api.OK {
		t.Error("no text", got, e)
	}
}

func TestRequests(t *testing.T) {
	play(t, `1 make a / 1 index a i x / run / 1 put a {"_id": 1, "x": [1, 2]} / 1 put a {"_id": 2, "x": 7} / 1 find a i 9 / 1 find a - 9 2 9 / 1 find a i 9 [1] [2] / 1 find a i 1 null  [9] `,
		`1: 0 / - / 2 1: 0 / 1: 0 / 1: 0 / 1: 0 n 2 {"_id": 2, "x": 7} {"_id": 1, "x": [1, 2]} / 1: 0 n 1 {"_id": 2, "x": 7} / 1: 0 n 1 {"_id": 1, "x": [1, 2]} / 1: 0 n 1 {"_id": 2, "x": 7}`)
	play(t, `1 make a / 1 put a {"_id": 1} / 1 put a {"_id": 2} / 1 begin / 1 open a - 1 / 1 next 1 1 / 1 next 1 1 / 1 next 1 1 / 1 open a - 1 / 1 close 2 / 1 close 2 / 1 abort / 1 take a 1 / 1 unindex a i / 1 drop a / state`,
		`1: 0 / 1: 0 / 1: 0 / 1: 0 / 1: 0 n 1 c 1 {"_id": 1} / 1: 0 n 1 c 1 {"_id": 2} / 1: 0 / 1: 15 / 1: 0 n 1 c 2 {"_id": 1} / 1: 0 / 1: 15 / 1: 0 / 1: 0 {"_id": 1} / 1: 5 / 1: 0 / -`)
	play(t, `1 make b / 1 make a / 1 put b {"_id": 1} / 1 begin / 1 put a {"_id": 2} / state / checkpoint / clean / tidy / audit / crash 999999999 / state / 1 commit`,
		`1: 0 / 1: 0 / 1: 0 / 1: 0 / 1: 0 / a {"_id": 2}; b {"_id": 1} / 0 / 0 / 0 / 0 / 0 / a; b {"_id": 1} / 1: 12`)
	play(t, `run / 1 make a / 1 begin / 2 begin / 1 put a {"_id": 1} / 2 get a 1 / 3 get a 1 / 1 commit / run`, `0 - / 1: 0 / 1: 0 / 2: 0 / 1: 0 / - / - / 1: 0 / 2 2: 0 {"_id": 1}; 3: 0 {"_id": 1}`)
}

func TestLimits(t *testing.T) {
	if _, e := Run(strings.Repeat("#", 65537)); e != api.ErrBig {
		t.Error("too many bytes", e)
	}
	if _, e := Run(strings.Repeat("#", 65536)); e != api.OK {
		t.Error("65536 bytes", e)
	}
	if _, e := Run(strings.Repeat("\n", 1024)); e != api.OK {
		t.Error("1024 lines", e)
	}
	for _, s := range []string{strings.Repeat("\n", 1025), strings.Repeat("\n", 1024) + "1 begin"} {
		if got, e := Run(s); e != api.ErrLimit || got != "" {
			t.Error("1025 lines", e)
		}
	}
}

// some tells a line of a script.
func some(s *sample.Source) string {
	n, who := s.Below(6), 1+s.Below(4)
	verbs := []string{
		"begin", "commit", "commit", "abort", "mark 1", "back 1", "make a", "make b", "unique a i x", "index b i x", "count a", "find a 3", "find a i 4", "open a - 2", "next 1 2", "get a %d", "take a %d", "take b %d", "drop b",
		`put a {"_id": %d, "x": %d}`, `put b {"_id": %d, "x": %d}`, `add a {"_id": %d, "x": %d}`, `put a {"_id": %d, "x": %d}`, `put a {"_id": %d, "y": "` + strings.Repeat("z", s.Below(200)) + `"}`,
	}
	v := verbs[s.Below(len(verbs))]
	switch strings.Count(v, "%") {
	case 1:
		v = fmt.Sprintf(v, n)
	case 2:
		v = fmt.Sprintf(v, n, s.Below(9))
	}
	return fmt.Sprint(who, " ", v)
}

// P23.2: lines that tend to what lies below change no other; audit tells 0; behind a crash is what was committed.
func TestWhatever(t *testing.T) {
	for seed := range uint64(40) {
		s := sample.New(seed)
		var with, without []string
		for range 150 {
			switch k := s.Below(14); {
			case k < 3:
				with = append(with, []string{"checkpoint", "clean", "tidy"}[k])
				continue
			case k == 3:
				with = append(with, "run", "audit")
				without = append(without, "run", "audit")
			case k == 4 && s.Below(4) == 0:
				// what of the last writes is left hangs on what lies below: with all forced it does not
				with = append(with, "clean", "crash 0", "state", "audit")
				without = append(without, "clean", "crash 0", "state", "audit")
			default:
				line := some(s)
				with, without = append(with, line), append(without, line)
			}
		}
		a, _ := Run(strings.Join(with, "\n"))
		b, _ := Run(strings.Join(without, "\n"))
		var left []string
		for i, line := range strings.Split(strings.TrimSuffix(a, "\n"), "\n") {
			switch with[i] {
			case "audit", "checkpoint", "clean", "tidy", "crash 0":
				if line != "0" {
					t.Fatal(with[i], line)
				}
			}
			if with[i] != "checkpoint" && with[i] != "clean" && with[i] != "tidy" {
				left = append(left, line)
			}
		}
		var want []string
		for i, line := range strings.Split(strings.TrimSuffix(b, "\n"), "\n") {
			if without[i] != "clean" {
				want = append(want, line)
			}
		}
		if strings.Join(left, "\n") != strings.Join(want, "\n") {
			t.Fatal("checkpoint, clean, tidy are seen, seed", seed)
		}
	}
}
