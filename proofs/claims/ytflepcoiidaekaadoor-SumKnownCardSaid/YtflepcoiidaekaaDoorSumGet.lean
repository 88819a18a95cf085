/- Whether a number lies within bytes; the number that is read there: contracts. -/
import Derived.Test.YtflepcoiidaekaaDoorSumMore
namespace Go.Proofs.YtflepcoiidaekaaDoor
open Go.ChangeShapes Go.WideShapes Go.ChangeAt Go.RowKit

theorem ret_bool {a b : Bool} (h : a = b) : Ending.returned (.bool a) = .returned (.bool b) := by rw [h]
theorem of_any (a : Option Addr) (cap : Nat) (zs : List Nat) (w : World) (hb : BytesAt w a zs) (hT : TabAt w) :
    Calls Tryd.prog 8 #[.slice a zs.length cap] w fun e w' => e = .returned (.int .u32 (more 0 zs : Int)) ∧ w = w' := by
  go_enter Tryd.func8, Tryd.ntmps8
  go_wp2_with (go_at_call 11; refine (more_any 0 (by decide) a cap zs _ hb hT).mono ?_; rintro e w' ⟨rfl, rfl⟩)
  go_ret
  exact ⟨rfl, rfl⟩

theorem within_yes (a : Option Addr) (len cap : Nat) (p size : Int) (w : World) (hm : len ≤ maxLen) (hs : size = 1 ∨ size = 2 ∨ size = 4 ∨ size = 8) (h0 : 0 ≤ p) (h1 : p + size ≤ len) :
    Calls Tryd.prog 18 #[.slice a len cap, .int .i64 p, .int .i64 size] w fun e w' => e = .returned (.bool true) ∧ w = w' := by
  unfold maxLen at hm
  rcases hs with rfl | rfl | rfl | rfl
  all_goals
    go_enter Tryd.func18, Tryd.ntmps18
    go_wp2
    go_ret
    exact ⟨ret_bool (decide_eq_true (by omega)), rfl⟩
theorem within_no (a : Option Addr) (len cap : Nat) (p size : Int) (w : World) (hm : len ≤ maxLen) (hs : size = 1 ∨ size = 2 ∨ size = 4 ∨ size = 8) (h1 : ¬ (0 ≤ p ∧ p + size ≤ len)) :
    Calls Tryd.prog 18 #[.slice a len cap, .int .i64 p, .int .i64 size] w fun e w' => e = .returned (.bool false) ∧ w = w' := by
  unfold maxLen at hm
  by_cases h0 : 0 ≤ p
  all_goals
    rcases hs with rfl | rfl | rfl | rfl
    all_goals
      go_enter Tryd.func18, Tryd.ntmps18
      go_wp2
      go_ret
      exact ⟨by first | exact rfl | exact ret_bool (decide_eq_false (by omega)), rfl⟩
theorem within_none (a : Option Addr) (len cap : Nat) (p size : Int) (w : World) (n1 : size ≠ 1) (n2 : size ≠ 2) (n4 : size ≠ 4) (n8 : size ≠ 8) :
    Calls Tryd.prog 18 #[.slice a len cap, .int .i64 p, .int .i64 size] w fun e w' => e = .returned (.bool false) ∧ w = w' := by
  have m1 : (size != 1) = true := by simpa using n1
  have m2 : (size != 2) = true := by simpa using n2
  have m4 : (size != 4) = true := by simpa using n4
  have m8 : (size != 8) = true := by simpa using n8
  clear n1 n2 n4 n8
  go_enter Tryd.func18, Tryd.ntmps18
  go_wp2
  go_ret
  exact ⟨rfl, rfl⟩

theorem ret_u64 {a b : Int} (h : a = b) : Ending.returned (.tuple #[.int .u64 a, .int .i64 0]) = .returned (.tuple #[.int .u64 b, .int .i64 0]) := by rw [h]
set_option maxHeartbeats 400000 in
theorem get_yes (a : Option Addr) (cap : Nat) (zs : List Nat) (q : Nat) (size : Int) (w : World) (hb : BytesAt w a zs)  (hs : size = 1 ∨ size = 2 ∨ size = 4 ∨ size = 8) (h1 : q + size ≤ zs.length) :
    Calls Tryd.prog 12 #[.slice a zs.length cap, .int .i64 (q : Int), .int .i64 size] w fun e w' => e = .returned (.tuple #[.int .u64 (num ((zs.drop q).take size.toNat) : Int), .int .i64 0]) ∧ w = w' := by
  obtain ⟨hz, hm, hc⟩ := hb
  have hm' := hm
  unfold maxLen at hm
  have HC := Lib.hid hc; clear hc
  have HZ := Lib.hid hz; clear hz
  go_enter Tryd.func12, Tryd.ntmps12
  go_wp2_with (go_at_call 18; refine (within_yes _ _ _ _ _ _ hm' hs (by omega) h1).mono ?_; rintro e w' ⟨rfl, rfl⟩)
  go_loop [8, 9, 16] (fun n _ i => ∃ (r k : Nat), (k : Int) ≤ size ∧ i = .int .i64 k ∧ n = .int .u64 r ∧ Hid (r = num ((zs.drop q).take k))) (fun _ _ i => (size - (intOf i)).toNat)
  case atStart => exact ⟨0, 0, by omega, rfl, rfl, Lib.hid rfl⟩
  case round =>
    obtain ⟨r, k, hk, rfl, rfl, hr⟩ := hrel
    by_cases hlt : (k : Int) < size
    · have hk8 : k < 8 := by omega
      obtain ⟨b, off, rfl, hcell⟩ := HC.out (q + k) (by omega)
      obtain ⟨c, hcd⟩ : ∃ c, c = zs[q + k]'(by omega) := ⟨_, rfl⟩
      rw [← hcd] at hcell
      have hc0 : c < 256 := by rw [hcd]; exact HZ.out _ (List.getElem_mem _)
      have hr0 : r < 2 ^ (8 * k) := by
        rw [hr.out]
        have := num_lt ((zs.drop q).take k) (fun c hc => HZ.out c (List.mem_of_mem_drop (List.mem_of_mem_take hc)))
        rwa [List.length_take, Nat.min_eq_left (by simp; omega)] at this
      have HO := Lib.hid (orshl hr0 hc0 hk8)
      have HN : Hid (r + c * 2 ^ (8 * k) = num ((zs.drop q).take (k + 1))) := by
        refine Lib.hid ?_
        rw [num_take_succ _ _ (by simp; omega), ← hr.out, List.getElem_drop, ← hcd]
      clear hcd hs hr0
      go_wp2
      go_round
      case rel => exact ⟨_, k + 1, by omega, by go_num, by rw [HO.out], HN⟩
      case measure => simp [intOf]; omega
    · have HK : Hid (k = size.toNat) := Lib.hid (by omega)
      clear hs
      go_wp2
      go_ret2
      exact ⟨ret_u64 (by rw [hr.out, HK.out]), rfl⟩
theorem get_no (a : Option Addr) (len cap : Nat) (p size : Int) (w : World) (hm : len ≤ maxLen) (h : ¬ ((size = 1 ∨ size = 2 ∨ size = 4 ∨ size = 8) ∧ 0 ≤ p ∧ p + size ≤ len)) :
    Calls Tryd.prog 12 #[.slice a len cap, .int .i64 p, .int .i64 size] w fun e w' => e = .returned (.tuple #[.int .u64 0, .int .i64 1]) ∧ w = w' := by
  have H : Calls Tryd.prog 18 #[.slice a len cap, .int .i64 p, .int .i64 size] w fun e w' => e = .returned (.bool false) ∧ w = w' := by
    by_cases hs : size = 1 ∨ size = 2 ∨ size = 4 ∨ size = 8
    · exact within_no a len cap p size w hm hs (fun h' => h ⟨hs, h'⟩)
    · exact within_none a len cap p size w (by omega) (by omega) (by omega) (by omega)
  clear h
  go_enter Tryd.func12, Tryd.ntmps12
  go_wp2_with (go_at_call 18; refine H.mono ?_; rintro e w' ⟨rfl, rfl⟩)
  go_ret2
  exact ⟨rfl, rfl⟩
end Go.Proofs.YtflepcoiidaekaaDoor
