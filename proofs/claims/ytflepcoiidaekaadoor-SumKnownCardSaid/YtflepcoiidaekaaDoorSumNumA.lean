/- SumNumbers where the place or the size is none, or the number is too big: walks. -/
import Derived.Test.YtflepcoiidaekaaDoorSumText
namespace Go.Proofs.YtflepcoiidaekaaDoor
open Go.ChangeShapes Go.WideShapes Go.ChangeAt Go.RowKit

/-- What a law leaves. -/
def True' (w : World) (e : Ending) (w' : World) : Prop := e = .returned (.bool true) ∧ Below w.heap.size w w'

set_option maxHeartbeats 1000000 in
theorem num_none (a : Option Addr) (len cap : Nat) (p size : Int) (n : Nat) (w : World) (hm : len ≤ maxLen) (hT : TabAt w) (h1 : size ≠ 1) (h2 : size ≠ 2) (h4 : size ≠ 4) (h8 : size ≠ 8) :
    Calls Tryd.prog 4 #[.slice a len cap, .int .i64 p, .int .i64 size, .int .u64 (n : Int)] w (True' w) := by
  have HP := Lib.hid (put_no a len cap p size n w hm (by omega))
  have HG := Lib.hid (get_no a len cap p size w hm (by omega))
  have HA := Lib.hid (awake_any w hT)
  have m1 : (size != 1) = true := by simpa using h1
  have m2 : (size != 2) = true := by simpa using h2
  have m4 : (size != 4) = true := by simpa using h4
  have m8 : (size != 8) = true := by simpa using h8
  clear h1 h2 h4 h8 hm hT
  go_enter Tryd.func4, Tryd.ntmps4
  go_wp2_with (first | (go_at_call 9; refine HP.out.mono ?_; rintro e w' ⟨rfl, rfl⟩) | (go_at_call 12; refine HG.out.mono ?_; rintro e w' ⟨rfl, rfl⟩) | (go_at_call 10; refine HA.out.mono ?_; rintro e w1 ⟨rfl, hb⟩; have HB := Lib.hid hb; clear hb))
  go_ret
  exact ⟨rfl, HB.out⟩
set_option maxHeartbeats 1000000 in
theorem num_out (a : Option Addr) (len cap : Nat) (p size : Int) (n : Nat) (w : World) (hm : len ≤ maxLen) (hT : TabAt w) (hs : size = 1 ∨ size = 2 ∨ size = 4 ∨ size = 8) (h : p < 0 ∨ (len : Int) < p ∨ 0 ≤ p ∧ p ≤ (len : Int) ∧ (len : Int) - p < size) :
    Calls Tryd.prog 4 #[.slice a len cap, .int .i64 p, .int .i64 size, .int .u64 (n : Int)] w (True' w) := by
  have HP := Lib.hid (put_no a len cap p size n w hm (by omega))
  have HG := Lib.hid (get_no a len cap p size w hm (by omega))
  have HA := Lib.hid (awake_any w hT)
  clear hT
  unfold maxLen at hm
  rcases hs with rfl | rfl | rfl | rfl
  all_goals
    rcases h with h | h | ⟨h0, h1, h2⟩
    all_goals
      go_enter Tryd.func4, Tryd.ntmps4
      go_wp2_with (first | (go_at_call 9; refine HP.out.mono ?_; rintro e w' ⟨rfl, rfl⟩) | (go_at_call 12; refine HG.out.mono ?_; rintro e w' ⟨rfl, rfl⟩) | (go_at_call 10; refine HA.out.mono ?_; rintro e w1 ⟨rfl, hb⟩; have HB := Lib.hid hb; clear hb))
      go_ret
      exact ⟨rfl, HB.out⟩
end Go.Proofs.YtflepcoiidaekaaDoor
