/- A page of ones; a device that is written and read: contracts. -/
import Derived.Test.YtikcanbhdickgaaDskCrashA
namespace Go.Proofs.Ytikcanbhdickgaa
open Go.ChangeShapes Go.WideShapes Go.ChangeAt Go.RowKit

def onesL : List Nat := List.replicate 512 1
/-- Ones up to here, noughts behind. -/
def onesTo (k : Nat) : List Nat := List.replicate k 1 ++ List.replicate (512 - k) 0
theorem onesTo_len {k : Nat} (h : k ≤ 512) : (onesTo k).length = 512 := by unfold onesTo; rw [List.length_append, List.length_replicate, List.length_replicate]; omega
theorem onesTo_all : onesTo 512 = onesL := by unfold onesTo onesL; rw [Nat.sub_self, List.replicate_zero, List.append_nil]
theorem onesTo_get {k : Nat} (h : k < 512) : ∃ c : Nat, (onesTo k)[k]? = some c := ⟨0, by unfold onesTo; rw [List.getElem?_append_right (by rw [List.length_replicate]; exact Nat.le_refl _), List.length_replicate, List.getElem?_replicate, if_pos (by omega)]⟩
theorem onesTo_next {k : Nat} (h : k < 512) : (u8c (onesTo k)).setIfInBounds k (.int .u8 1) = u8c (onesTo (k + 1)) := by
  have e : onesTo (k + 1) = (onesTo k).set k 1 := by
    unfold onesTo
    apply List.ext_getElem?
    intro i
    rw [List.getElem?_set]
    simp only [List.getElem?_append, List.getElem?_replicate, List.length_append, List.length_replicate]
    by_cases h1 : k = i
    · subst h1
      rw [if_pos (Nat.lt_succ_self k), if_pos (Nat.lt_succ_self k), if_pos rfl, if_pos (by omega)]
    · rw [if_neg h1]
      by_cases h2 : i < k
      · rw [if_pos (by omega), if_pos (by omega), if_pos h2, if_pos h2]
      · rw [if_neg (by omega), if_neg h2]
        by_cases h3 : i < 512
        · rw [if_pos (by omega), if_pos (by omega)]
        · rw [if_neg (by omega), if_neg (by omega)]
  rw [e]
  unfold u8c
  simp [List.map_set]
theorem onesL_len : onesL.length = 512 := by rw [onesL, List.length_replicate]
theorem onesL_byte : ∀ c ∈ onesL, c < 256 := by intro c hc; rw [onesL, List.mem_replicate] at hc; omega
attribute [local irreducible] onesTo onesL
theorem u8c_size (l : List Nat) : (u8c l).size = l.length := by simp [u8c]
theorem made_ones : madeCells (Value.cells (.int .u8 0)) (512 * 1) = u8c (onesTo 0) := by
  apply Array.toList_inj.1
  rw [made_noughts]
  unfold onesTo noughts u8s u8c
  rw [List.replicate_zero, List.nil_append, Nat.sub_zero]
/-- A page of ones in new memory. -/
def OnesOut (w : World) (e : Ending) (w' : World) : Prop := ∃ g, e = .returned (.slice (some ⟨g, 0, none⟩) 512 512) ∧ Cells w' g 5 (u8c onesL) ∧ w.heap.size ≤ g ∧ Below w.heap.size w w'
set_option maxHeartbeats 1000000 in
set_option maxRecDepth 100000 in
theorem ones_any (w : World) : Calls Try.prog 13 #[] w (OnesOut w) := by
  have HA : Hid (Cells (w.alloc (.cells (u8c (onesTo 0)) 5)) w.heap.size 5 (u8c (onesTo 0))) := Lib.hid (cells_new w _ _)
  have HB : Hid (Below w.heap.size w (w.alloc (.cells (u8c (onesTo 0)) 5))) := Lib.hid (below_alloc w _)
  have hm : (Instr.makeSlice 28 (.int .i64 512) (.int .i64 512)).run Try.prog w = .ok (.slice (some ⟨w.heap.size, 0, none⟩) 512 512) (w.alloc (.cells (u8c (onesTo 0)) 5)) := by
    rw [← made_ones]; kernel_rfl
  generalize hg : w.heap.size = g at HA HB hm
  have HG : Hid (w.heap.size ≤ g) := Lib.hid (Nat.le_of_eq hg)
  have HE : Hid (w.heap.size = g) := Lib.hid hg
  generalize w.alloc (.cells (u8c (onesTo 0)) 5) = W at HA HB hm
  clear hg
  go_enter Try.func13, Try.ntmps13
  go_wp2
  go_loopw [2] (fun i wr => ∃ k : Nat, k ≤ 512 ∧ i = .int .i64 k ∧ Hid (Cells wr g 5 (u8c (onesTo k))) ∧ Hid (Below w.heap.size w wr)) (fun i _ => (512 - (intOf i)).toNat)
  case atStart => exact ⟨0, Nat.zero_le _, rfl, HA, Lib.hid (by rw [HE.out]; exact HB.out)⟩
  case round =>
    obtain ⟨k, hk, rfl, HC, HB'⟩ := hrel
    by_cases hlt : k < 512
    · obtain ⟨c0, hold⟩ : ∃ c0 : Nat, wr.cell? ⟨g, k, none⟩ = some (.int .u8 (c0 : Int)) := by
        obtain ⟨c, hc⟩ := onesTo_get hlt
        exact ⟨c, by rw [cell_of_row wr g k _ _ _ HC.out]; unfold u8c; simp [hc]⟩
      have hfz := frozen_of_row wr g k _ _ HC.out
      have HNX : Hid (Cells (wr.setCell ⟨g, k, none⟩ (.int .u8 1)) g 5 (u8c (onesTo (k + 1)))) := Lib.hid (by
        rw [← onesTo_next hlt]; exact cells_setCell HC.out)
      have HBX : Hid (Below w.heap.size w (wr.setCell ⟨g, k, none⟩ (.int .u8 1))) := Lib.hid (HB'.out.setCell HG.out _)
      go_wp2
      go_roundw
      case rel => exact ⟨k + 1, by omega, by go_num, HNX, HBX⟩
      case measure => simp [intOf]; omega
    · have HC2 : Hid (Cells wr g 5 (u8c onesL)) := Lib.hid (by
        have e : k = 512 := by omega
        have h := HC.out
        rw [e, onesTo_all] at h
        exact h)
      clear HC
      have d : decide ((k : Int) < 512) = false := decide_eq_false (by omega)
      go_wp2
      go_ret
      exact ⟨g, rfl, HC2.out, HG.out, HB'.out⟩
end Go.Proofs.Ytikcanbhdickgaa
