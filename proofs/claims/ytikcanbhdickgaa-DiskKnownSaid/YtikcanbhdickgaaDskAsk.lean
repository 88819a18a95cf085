/- An operation, by its number: a contract. -/
import Derived.Test.YtikcanbhdickgaaDskAwake
namespace Go.Proofs.Ytikcanbhdickgaa
open Go.ChangeShapes Go.WideShapes Go.ChangeAt Go.RowKit

def ask (S : Dsk) (op n : Int) (l : List Nat) : Dsk × Int :=
  if op = 0 then doWrite S n l else if op = 1 then doSync S else if op = 2 then doAppend S l else if op = 3 then doForce S else if op = 4 then doCut S n l else if op = 5 then doTrim S n else doMark S l
section
variable {w0 w : World} {S' : Dsk} {g : Nat} {A : Nat → Prop} {r : Int}
theorem ask_write (n : Int) (a : Option Addr) (m cap : Nat) (HC : Hid (Calls Try.prog 12 #[.pointer (some ⟨g, 0, none⟩), .int .i64 n, .slice a m cap] w (Goes w0 w S' g A r))) :
    Calls Try.prog 24 #[.pointer (some ⟨g, 0, none⟩), .int .i64 0, .int .i64 n, .slice a m cap] w (Goes w0 w S' g A r) := by
  go_enter Try.func24, Try.ntmps24
  go_wp2_with (go_at_call 12; refine HC.out.mono ?_; rintro e w1 ⟨rfl, hl, hk⟩; have HL := Lib.hid hl; have HK := Lib.hid hk; clear hl hk)
  go_ret
  exact ⟨rfl, HL.out, HK.out⟩
theorem ask_sync (n : Int) (a : Option Addr) (m cap : Nat) (HC : Hid (Calls Try.prog 29 #[.pointer (some ⟨g, 0, none⟩)] w (Goes w0 w S' g A r))) :
    Calls Try.prog 24 #[.pointer (some ⟨g, 0, none⟩), .int .i64 1, .int .i64 n, .slice a m cap] w (Goes w0 w S' g A r) := by
  go_enter Try.func24, Try.ntmps24
  go_wp2_with (go_at_call 29; refine HC.out.mono ?_; rintro e w1 ⟨rfl, hl, hk⟩; have HL := Lib.hid hl; have HK := Lib.hid hk; clear hl hk)
  go_ret
  exact ⟨rfl, HL.out, HK.out⟩
theorem ask_append (n : Int) (a : Option Addr) (m cap : Nat) (HC : Hid (Calls Try.prog 16 #[.pointer (some ⟨g, 0, none⟩), .slice a m cap] w (Goes w0 w S' g A r))) :
    Calls Try.prog 24 #[.pointer (some ⟨g, 0, none⟩), .int .i64 2, .int .i64 n, .slice a m cap] w (Goes w0 w S' g A r) := by
  go_enter Try.func24, Try.ntmps24
  go_wp2_with (go_at_call 16; refine HC.out.mono ?_; rintro e w1 ⟨rfl, hl, hk⟩; have HL := Lib.hid hl; have HK := Lib.hid hk; clear hl hk)
  go_ret
  exact ⟨rfl, HL.out, HK.out⟩
theorem ask_force (n : Int) (a : Option Addr) (m cap : Nat) (HC : Hid (Calls Try.prog 17 #[.pointer (some ⟨g, 0, none⟩)] w (Goes w0 w S' g A r))) :
    Calls Try.prog 24 #[.pointer (some ⟨g, 0, none⟩), .int .i64 3, .int .i64 n, .slice a m cap] w (Goes w0 w S' g A r) := by
  go_enter Try.func24, Try.ntmps24
  go_wp2_with (go_at_call 17; refine HC.out.mono ?_; rintro e w1 ⟨rfl, hl, hk⟩; have HL := Lib.hid hl; have HK := Lib.hid hk; clear hl hk)
  go_ret
  exact ⟨rfl, HL.out, HK.out⟩
theorem ask_cut (n : Int) (a : Option Addr) (m cap : Nat) (HC : Hid (Calls Try.prog 34 #[.pointer (some ⟨g, 0, none⟩), .int .i64 n, .slice a m cap] w (Goes w0 w S' g A r))) :
    Calls Try.prog 24 #[.pointer (some ⟨g, 0, none⟩), .int .i64 4, .int .i64 n, .slice a m cap] w (Goes w0 w S' g A r) := by
  go_enter Try.func24, Try.ntmps24
  go_wp2_with (go_at_call 34; refine HC.out.mono ?_; rintro e w1 ⟨rfl, hl, hk⟩; have HL := Lib.hid hl; have HK := Lib.hid hk; clear hl hk)
  go_ret
  exact ⟨rfl, HL.out, HK.out⟩
theorem ask_trim (n : Int) (a : Option Addr) (m cap : Nat) (HC : Hid (Calls Try.prog 35 #[.pointer (some ⟨g, 0, none⟩), .int .i64 n] w (Goes w0 w S' g A r))) :
    Calls Try.prog 24 #[.pointer (some ⟨g, 0, none⟩), .int .i64 5, .int .i64 n, .slice a m cap] w (Goes w0 w S' g A r) := by
  go_enter Try.func24, Try.ntmps24
  go_wp2_with (go_at_call 35; refine HC.out.mono ?_; rintro e w1 ⟨rfl, hl, hk⟩; have HL := Lib.hid hl; have HK := Lib.hid hk; clear hl hk)
  go_ret
  exact ⟨rfl, HL.out, HK.out⟩
theorem ask_mark (op n : Int) (a : Option Addr) (m cap : Nat) (h0 : op ≠ 0) (h1 : op ≠ 1) (h2 : op ≠ 2) (h3 : op ≠ 3) (h4 : op ≠ 4) (h5 : op ≠ 5) (HC : Hid (Calls Try.prog 31 #[.pointer (some ⟨g, 0, none⟩), .slice a m cap] w (Goes w0 w S' g A r))) :
    Calls Try.prog 24 #[.pointer (some ⟨g, 0, none⟩), .int .i64 op, .int .i64 n, .slice a m cap] w (Goes w0 w S' g A r) := by
  have d0 : (op == 0) = false := beq_eq_false_iff_ne.2 h0
  have d1 : (op == 1) = false := beq_eq_false_iff_ne.2 h1
  have d2 : (op == 2) = false := beq_eq_false_iff_ne.2 h2
  have d3 : (op == 3) = false := beq_eq_false_iff_ne.2 h3
  have d4 : (op == 4) = false := beq_eq_false_iff_ne.2 h4
  have d5 : (op == 5) = false := beq_eq_false_iff_ne.2 h5
  clear h0 h1 h2 h3 h4 h5
  go_enter Try.func24, Try.ntmps24
  go_wp2_with (go_at_call 31; refine HC.out.mono ?_; rintro e w1 ⟨rfl, hl, hk⟩; have HL := Lib.hid hl; have HK := Lib.hid hk; clear hl hk)
  go_ret
  exact ⟨rfl, HL.out, HK.out⟩
end
theorem ask_any {w0 w : World} {S : Dsk} {g : Nat} {A : Nat → Prop} (h : Live w0 w S g A) (op n : Int) {a : Option Addr} {m cap : Nat} {l : List Nat} (hb : BytesAt w a l) (hl : l.length = m) (hm : Mine w0 A a l) (hn : m ≤ 9223372036854775807) (ho : S.ops < 4398046511104) :
    Calls Try.prog 24 #[.pointer (some ⟨g, 0, none⟩), .int .i64 op, .int .i64 n, .slice a m cap] w (Goes w0 w (ask S op n l).1 g A (ask S op n l).2) := by
  unfold ask
  by_cases h0 : op = 0
  · rw [if_pos h0]; subst h0; exact ask_write n a m cap (Lib.hid (live_write (cap := cap) h n hb hl ho))
  rw [if_neg h0]
  by_cases h1 : op = 1
  · rw [if_pos h1]; subst h1; exact ask_sync n a m cap (Lib.hid (live_sync h ho))
  rw [if_neg h1]
  by_cases h2 : op = 2
  · rw [if_pos h2]; subst h2; exact ask_append n a m cap (Lib.hid (live_append (cap := cap) h hb hl hm hn ho))
  rw [if_neg h2]
  by_cases h3 : op = 3
  · rw [if_pos h3]; subst h3; exact ask_force n a m cap (Lib.hid (live_force h ho))
  rw [if_neg h3]
  by_cases h4 : op = 4
  · rw [if_pos h4]; subst h4; exact ask_cut n a m cap (Lib.hid (live_cut (cap := cap) h n hb hl hm hn ho))
  rw [if_neg h4]
  by_cases h5 : op = 5
  · rw [if_pos h5]; subst h5; exact ask_trim n a m cap (Lib.hid (live_trim h n ho))
  rw [if_neg h5]
  exact ask_mark op n a m cap h0 h1 h2 h3 h4 h5 (Lib.hid (live_mark (cap := cap) h hb hl hm hn ho))
end Go.Proofs.Ytikcanbhdickgaa
