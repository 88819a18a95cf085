/- A number out of a page, a cell's place, a page's head: contracts. -/
import Derived.Test.YtaadeoobmclpcaaPagPlain
import Derived.Test.YtaadeoobmclpcaaSumMore
import Derived.Laws.OwnMore
namespace Go.Proofs.Ytaadeoobmclpcaa
open Go.ChangeShapes Go.WideShapes Go.ChangeAt Go.RowKit

theorem ret_int {k : IntKind} {a b : Int} (h : a = b) : Ending.returned (.int k a) = .returned (.int k b) := by rw [h]
set_option maxHeartbeats 400000 in
theorem number_any (a : Option Addr) (cap : Nat) (zs : List Nat) (q n : Nat) (w : World) (hb : BytesAt w a zs) (hn : n ≤ 8) (h1 : q + n ≤ zs.length) :
    Calls Try.prog 26 #[.slice a zs.length cap, .int .i64 (q : Int), .int .i64 (n : Int)] w fun e w' => e = .returned (.int .u64 (rd zs q n : Int)) ∧ w = w' := by
  obtain ⟨hz, hm, hc⟩ := hb
  unfold maxLen at hm
  have HC := Lib.hid hc; clear hc
  have HZ := Lib.hid hz; clear hz
  go_enter Try.func26, Try.ntmps26
  go_wp2
  go_loop [7, 8, 10] (fun x _ i => ∃ (r k : Nat), k ≤ n ∧ i = .int .i64 k ∧ x = .int .u64 r ∧ Hid (r = num ((zs.drop q).take k))) (fun _ _ i => (n - (intOf i)).toNat)
  case atStart => exact ⟨0, 0, by omega, rfl, rfl, Lib.hid rfl⟩
  case round =>
    obtain ⟨r, k, hk, rfl, rfl, hr⟩ := hrel
    by_cases hlt : k < n
    · have hk8 : k < 8 := by omega
      obtain ⟨b, off, rfl, hcell⟩ := HC.out (q + k) (by omega)
      obtain ⟨c, hcd⟩ : ∃ c, c = zs[q + k]'(by omega) := ⟨_, rfl⟩
      rw [← hcd] at hcell
      have hc0 : c < 256 := by rw [hcd]; exact HZ.out _ (List.getElem_mem _)
      have hr0 : r < 2 ^ (8 * k) := by
        rw [hr.out]
        have := num_lt ((zs.drop q).take k) (fun c hc => HZ.out c (List.mem_of_mem_drop (List.mem_of_mem_take hc)))
        rwa [List.length_take, Nat.min_eq_left (by simp; omega)] at this
      have HO := Lib.hid (orshl hr0 hc0 hk8)
      have HN : Hid (r + c * 2 ^ (8 * k) = num ((zs.drop q).take (k + 1))) := by
        refine Lib.hid ?_
        rw [num_take_succ _ _ (by simp; omega), ← hr.out, List.getElem_drop, ← hcd]
      clear hcd hr0
      go_wp2
      go_round
      case rel => exact ⟨_, k + 1, by omega, by go_num, by rw [HO.out], HN⟩
      case measure => simp [intOf]; omega
    · obtain rfl : k = n := by omega
      go_wp2
      go_ret
      exact ⟨ret_int (by rw [hr.out]; rfl), rfl⟩

theorem rd2 {p : List Nat} (hz : ∀ c ∈ p, c < 256) (q : Nat) (h : q + 2 ≤ p.length) : rd p q 2 < 65536 := rd_lt hz q 2 h
theorem rd4 {p : List Nat} (hz : ∀ c ∈ p, c < 256) (q : Nat) (h : q + 4 ≤ p.length) : rd p q 4 < 4294967296 := rd_lt hz q 4 h
theorem rd8 {p : List Nat} (hz : ∀ c ∈ p, c < 256) (q : Nat) (h : q + 8 ≤ p.length) : rd p q 8 < 18446744073709551616 := rd_lt hz q 8 h

set_option maxHeartbeats 400000 in
theorem cellAt_any (a : Option Addr) (cap : Nat) (zs : List Nat) (i : Nat) (w : World) (hb : BytesAt w a zs) (h1 : 30 + 4 * i ≤ zs.length) (hlen : zs.length ≤ 1048576) :
    Calls Try.prog 21 #[.slice a zs.length cap, .int .i64 (i : Int)] w fun e w' => e = .returned (.tuple #[.int .i64 (rd zs (26 + 4 * i) 2 : Int), .int .i64 (rd zs (28 + 4 * i) 2 : Int)]) ∧ w = w' := by
  have H1 : Hid (Calls Try.prog 26 #[.slice a zs.length cap, .int .i64 (26 + 4 * (i : Int)), .int .i64 2] w fun e w' => e = .returned (.int .u64 (rd zs (26 + 4 * i) 2 : Int)) ∧ w = w') := by
    have := number_any a cap zs (26 + 4 * i) 2 w hb (by omega) (by omega)
    rw [show ((26 + 4 * i : Nat) : Int) = 26 + 4 * (i : Int) from by omega] at this
    exact Lib.hid this
  have H2 : Hid (Calls Try.prog 26 #[.slice a zs.length cap, .int .i64 (28 + 4 * (i : Int)), .int .i64 2] w fun e w' => e = .returned (.int .u64 (rd zs (28 + 4 * i) 2 : Int)) ∧ w = w') := by
    have := number_any a cap zs (28 + 4 * i) 2 w hb (by omega) (by omega)
    rw [show ((28 + 4 * i : Nat) : Int) = 28 + 4 * (i : Int) from by omega] at this
    exact Lib.hid this
  have b1 := rd2 hb.1 (26 + 4 * i) (by omega)
  have b2 := rd2 hb.1 (28 + 4 * i) (by omega)
  obtain ⟨x, hx⟩ : ∃ x, x = rd zs (26 + 4 * i) 2 := ⟨_, rfl⟩
  obtain ⟨y, hy⟩ : ∃ y, y = rd zs (28 + 4 * i) 2 := ⟨_, rfl⟩
  rw [← hx] at H1 b1 ⊢
  rw [← hy] at H2 b2 ⊢
  clear hb hx hy
  go_enter Try.func21, Try.ntmps21
  go_wp2_with fail
  refine H1.out.mono ?_
  rintro e w' ⟨rfl, rfl⟩
  go_wp2_with fail
  have e28 : (26 + 4 * (i : Int) + 2) = 28 + 4 * (i : Int) := by omega
  try rw [e28]
  clear e28
  refine H2.out.mono ?_
  rintro e w' ⟨rfl, rfl⟩
  go_wp2
  go_ret2
  exact ⟨rfl, rfl⟩
end Go.Proofs.Ytaadeoobmclpcaa
