package base

import "testing"

// P16.2, P16.5: with too little of everything ErrFull is told, but nothing else is lost: commits, aborts and Back have what they need.
func TestTiny(t *testing.T) {
	refused := 0
	for seed := range uint64(30) {
		d := device(t, 30+int(seed%4)*12, 3000+int(seed%7)*2500)
		r := newRun(t, d, seed)
		for i := range 200 {
			r.step()
			if i%20 == 0 {
				if got, want := state(t, r.b), told(r.now()); got != want {
					t.Fatalf("seed %d step %d: %s, want %s", seed, i, got, want)
				}
				exact(t, r.b)
			}
		}
		refused += r.refused
	}
	if refused == 0 {
		t.Error("a test that does not come to ErrFull")
	}
}
