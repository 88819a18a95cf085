/- The document's own number out of bytes: a contract. -/
import Derived.Test.YtmojfhleelhghaaDoorPagFit
namespace Go.Proofs.YtmojfhleelhghaaDoor
open Go.ChangeShapes Go.WideShapes Go.ChangeAt Go.RowKit

theorem num_drop (l : List Nat) (k : Nat) (h : k < l.length) : num (l.drop k) = l[k] + 256 * num (l.drop (k + 1)) := by
  rw [List.drop_eq_getElem_cons h]; rfl
theorem orshl8 {r c : Nat} (hr : r < 2 ^ 56) (hc : c < 256) : bits .or .u64 ((r * 256 : Nat) : Int) (c : Int) = ((c + 256 * r : Nat) : Int) := by
  rw [u64_or_nat _ _ (by omega) (by omega)]
  congr 1
  have := Nat.shiftLeft_add_eq_or_of_lt (b := c) (i := 8) (by omega) r
  rw [Nat.shiftLeft_eq, show (2 : Nat) ^ 8 = 256 from rfl] at this
  omega
set_option maxHeartbeats 400000 in
theorem refget_any (a : Option Addr) (cap : Nat) (zs : List Nat) (q S : Nat) (w : World) (hb : BytesAt w a zs) (hs : 1 ≤ S ∧ S ≤ 8) (h1 : q + S ≤ zs.length) :
    Calls Tryd.prog 34 #[.slice a zs.length cap, .int .i64 (q : Int), .int .i64 (S : Int)] w fun e w' => e = .returned (.int .u64 (num ((zs.drop q).take S) : Int)) ∧ w = w' := by
  obtain ⟨hz, hm, hc⟩ := hb
  unfold maxLen at hm
  have HC := Lib.hid hc; clear hc
  have HZ := Lib.hid hz; clear hz
  obtain ⟨l, hl⟩ : ∃ l, l = (zs.drop q).take S := ⟨_, rfl⟩
  have hll : l.length = S := by rw [hl, List.length_take, List.length_drop]; omega
  have HL := Lib.hid hl
  have HLL := Lib.hid hll; clear hll
  have HN : Hid (num ((zs.drop q).take S) = num l) := Lib.hid (by rw [hl])
  clear hl
  go_enter Tryd.func34, Tryd.ntmps34
  go_wp2
  go_loop [7, 8] (fun n i => ∃ (r k : Nat), k ≤ S ∧ i = .int .i64 ((k : Int) - 1) ∧ n = .int .u64 (r : Int) ∧ Hid (r = num (l.drop k))) (fun _ i => ((intOf i) + 1).toNat)
  case atStart => exact ⟨0, S, by omega, rfl, rfl, Lib.hid (by rw [List.drop_of_length_le (by rw [HLL.out]; omega)]; rfl)⟩
  case round =>
    obtain ⟨r, k, hk, rfl, rfl, hr⟩ := hrel
    by_cases hlt : 1 ≤ k
    · obtain ⟨j, rfl⟩ : ∃ j, k = j + 1 := ⟨k - 1, by omega⟩
      obtain ⟨b, off, rfl, hcell⟩ := HC.out (q + j) (by omega)
      obtain ⟨c, hcd⟩ : ∃ c, c = zs[q + j]'(by omega) := ⟨_, rfl⟩
      rw [← hcd] at hcell
      have hc0 : c < 256 := by rw [hcd]; exact HZ.out _ (List.getElem_mem _)
      have hlj : j < l.length := by rw [HLL.out]; omega
      have hcl : l[j] = c := by
        have := HL.out
        subst this
        rw [hcd]; simp
      have hr0 : r < 72057594037927936 := by
        rw [hr.out]
        have h0 := num_lt (l.drop (j + 1)) (fun c hc => HZ.out c (by
          have := List.mem_of_mem_drop hc
          rw [HL.out] at this
          exact List.mem_of_mem_drop (List.mem_of_mem_take this)))
        have h2 : 2 ^ (8 * (l.drop (j + 1)).length) ≤ 2 ^ 56 := Nat.pow_le_pow_right (by omega) (by rw [List.length_drop, HLL.out]; omega)
        omega
      have e1 := orshl8 hr0 hc0
      have HX : Hid (c + 256 * r = num (l.drop j)) := Lib.hid (by rw [num_drop l j hlj, hcl, hr.out])
      have HE := Lib.hid e1
      clear hcl hlj hcd e1
      have e2 : (((j + 1 : Nat) : Int) - 1) = (j : Int) := by omega
      rw [e2]
      clear e2
      go_wp2
      go_round
      case rel => 
        refine ⟨c + 256 * r, j, by omega, rfl, ?_, HX⟩
        rw [← HE.out, Int.natCast_mul]; rfl
      case measure => simp [intOf]
    · obtain rfl : k = 0 := by omega
      have HK : Hid (r = num l) := Lib.hid (by have := hr.out; rwa [List.drop_zero] at this)
      go_wp2
      go_ret
      exact ⟨ret_int (by rw [HN.out, ← HK.out]), rfl⟩

end Go.Proofs.YtmojfhleelhghaaDoor
