/- An empty reply's frame: contracts. -/
import Derived.Test.YteplapigkofgaaaDoorWirFrm
import Derived.Deep.RegionHeld3
import Derived.Deep.RegionHeldLaw
import Derived.LoopN
namespace Go.Proofs.YteplapigkofgaaaDoor
open Go.ChangeShapes Go.WideShapes Go.ChangeAt Go.RowKit

/-- An empty reply. -/
def reply0 : Value := .agg #[.int .i64 0, .int .i64 0, .slice none 0 0, .int .i64 0]
def body0 : List Nat := [0, 0, 0, 0, 0, 0, 0, 0, 0, 0]
def frame0 : List Nat := frameOf body0
theorem frame0_is : frame0 = [77, 68, 10, 0, 0, 0, 0, 0, 0, 0, 0, 0, 0, 0] ++ bytesOf (more 0 [77, 68, 10, 0, 0, 0, 0, 0, 0, 0, 0, 0, 0, 0]) 4 := by decide +kernel
theorem own_const {W V : World} (hB : Below W.heap.size W V) (c : Nat) (hc : c < 256) : Own W (V.alloc (.cells #[.int .u8 (c : Int)] 5)) (some ⟨V.heap.size, 0, none⟩) 1 1 [c] :=
  ⟨rfl, fun x hx => by rw [List.mem_singleton] at hx; rw [hx]; exact hc, some V.heap.size, by
    refine ⟨rfl, fun u hu => by simp only [u8s, List.map_cons, List.map_nil, List.mem_singleton] at hu; subst hu; rfl, .inr ⟨V.heap.size, 0, 1, rfl, rfl, by simp, Nat.le_refl _, by unfold maxLen; decide, fun j u hu => ?_, fun j hj => ?_⟩⟩
    · rw [Nat.zero_add, World.cell?_alloc_mark]
      simpa [u8s] using hu
    · obtain rfl : j = 0 := by omega
      exact ⟨by rw [Nat.zero_add, World.cell?_alloc_mark]; rfl, frozen_of_row _ _ _ _ _ (heap_alloc_new V _)⟩, fun b e => by cases e; exact hB.size⟩
theorem own_mono {W W' w : World} {a : Option Addr} {n c : Nat} {l : List Nat} (h : Own W' w a n c l) (hs : W.heap.size ≤ W'.heap.size) : Own W w a n c l := by
  obtain ⟨h1, h2, bo, h3, h4⟩ := h
  exact ⟨h1, h2, bo, h3, fun b e => Nat.le_trans hs (h4 b e)⟩
theorem below_alloc' {a w : World} (h : Below a.heap.size a w) (o : Obj) : Below a.heap.size a (w.alloc o) := h.alloc h.size o
theorem own_drew {W w : World} {a : Option Addr} {n c : Nat} {l : List Nat} (h : Own W w a n c l) : Own W w.drew a n c l := own_under h (Below.drew (Below.refl _ _))
set_option maxHeartbeats 1000000 in
set_option maxRecDepth 20000 in
theorem put_empty (w : World) (hT : TabAt w) : Calls Tryd.prog 5 #[.agg #[.int .i64 0, .int .i64 0, .slice none 0 0, .int .i64 0]] w (Told w 18 frame0) := by
  have HR := Lib.hid rowyU
  have HT := Lib.hid hT
  have HMX : Hid (∀ k, k ≤ 1048600 → k ≤ maxLen) := Lib.hid (fun k h => by unfold maxLen; omega)
  generalize hQ : Told w 18 frame0 = Q
  have HQ := Lib.hid hQ
  clear hT hQ
  go_enter Tryd.func5, Tryd.ntmps5
  go_wp2
  have HBW : Hid (Below w.heap.size w (w.alloc (.cells #[.int .i64 0, .int .i64 0, .slice none 0 0, .int .i64 0] 28))) := Lib.hid (below_alloc _ _)
  have hc0 : (w.alloc (.cells #[.int .i64 0, .int .i64 0, .slice none 0 0, .int .i64 0] 28)).cell? ⟨w.heap.size, 0, none⟩ = some (.int .i64 0) := by rw [World.cell?_alloc_mark]; rfl
  have hc1 : (w.alloc (.cells #[.int .i64 0, .int .i64 0, .slice none 0 0, .int .i64 0] 28)).cell? ⟨w.heap.size, 1, none⟩ = some (.int .i64 0) := by rw [World.cell?_alloc_mark]; rfl
  have hc2 : (w.alloc (.cells #[.int .i64 0, .int .i64 0, .slice none 0 0, .int .i64 0] 28)).cell? ⟨w.heap.size, 2, none⟩ = some (.slice none 0 0) := by rw [World.cell?_alloc_mark]; rfl
  have hc3 : (w.alloc (.cells #[.int .i64 0, .int .i64 0, .slice none 0 0, .int .i64 0] 28)).cell? ⟨w.heap.size, 3, none⟩ = some (.int .i64 0) := by rw [World.cell?_alloc_mark]; rfl
  generalize w.alloc (.cells #[.int .i64 0, .int .i64 0, .slice none 0 0, .int .i64 0] 28) = wb at hc0 hc1 hc2 hc3 HBW ⊢
  have HK : Hid (∀ V, Below wb.heap.size wb V → V.cell? ⟨w.heap.size, 0, none⟩ = some (.int .i64 0) ∧ V.cell? ⟨w.heap.size, 1, none⟩ = some (.int .i64 0) ∧ V.cell? ⟨w.heap.size, 3, none⟩ = some (.int .i64 0)) := Lib.hid (fun V hb => ⟨(hb.cell (World.block_lt_of_cell? wb _ hc0)).trans hc0, (hb.cell (World.block_lt_of_cell? wb _ hc1)).trans hc1, (hb.cell (World.block_lt_of_cell? wb _ hc3)).trans hc3⟩)
  have HN1 : Hid (Calls Tryd.prog 10 #[.slice (some ⟨wb.heap.size, 0, none⟩) 1 1, .int .i64 4, .int .u64 (IntKind.u64.wrap 0)] (wb.alloc (.cells #[.int .u8 (IntKind.u8.wrap 0)] 5)).drew (Grew wb 5 ([0] ++ bytesOf 0 4))) := Lib.hid (number_own 4 0 1 (own_drew (own_const (Below.refl _ _) 0 (by decide))) (Below.drew (below_alloc _ _)) (by decide) (by decide) (rfl : 1 + 4 = 5))
  have HN2 : Hid (∀ V a c l, Own wb V a 5 c l → Below wb.heap.size wb V → Calls Tryd.prog 10 #[.slice a 5 c, .int .i64 4, .int .u64 (IntKind.u64.wrap 0)] V (Grew wb 9 (l ++ bytesOf 0 4))) := Lib.hid (fun V a c l ho hb => number_own 4 0 5 ho hb (by decide) (by decide) (rfl : 5 + 4 = 9))
  go_region_held (fun V => V.cell? ⟨w.heap.size, 0, none⟩ = some (.int .i64 0) ∧ V.cell? ⟨w.heap.size, 1, none⟩ = some (.int .i64 0) ∧ V.cell? ⟨w.heap.size, 3, none⟩ = some (.int .i64 0)) (exact HK.out _ (by repeat (first | exact HBZ.out | exact HB5.out | exact HB4.out | exact Below.refl _ _ | refine Below.drew ?_ | refine below_alloc' ?_ _)))
    (first
      | ((go_at_call 10; (refine (HN2.out _ a4 c4 _ (by repeat (first | exact HO4.out | refine own_drew ?_)) (by repeat (first | exact HB4.out | refine Below.drew ?_))).mono ?_); rintro e w5 ⟨a5, c5, rfl, ho5, hb5⟩; have HO5 := Lib.hid ho5; have HB5 := Lib.hid hb5; clear ho5 hb5))
      | ((go_at_call 10; (refine HN1.out.mono ?_); rintro e w4 ⟨a4, c4, rfl, ho4, hb4⟩; have HO4 := Lib.hid ho4; have HB4 := Lib.hid hb4; have k4 := HK.out _ hb4; clear ho4 hb4)))
  have hd2 : w5.cell? ⟨w.heap.size, 2, none⟩ = some (.slice none 0 0) := (HB5.out.cell (World.block_lt_of_cell? wb _ hc2)).trans hc2
  have HBA : Hid (Below wb.heap.size wb (w5.alloc (.cells #[.int .u8 0] 5))) := Lib.hid (below_alloc' HB5.out _)
  have HS5 := Lib.hid (slc_below HO5.out.2.2.choose_spec.1 (below_alloc w5 (.cells #[.int .u8 0] 5)))
  go_wp2_with (at_builtin; (refine wpList_slc HR.out rfl (.tmp 54) (.tmp 59) 22 rfl rfl rfl HS5.out (bytes_src Tryd.underlying22 (const_one w5 0 (by decide)) rfl) (rfl : 9 + 1 = 10) (HMX.out _ (by decide)) (by decide) ?_); intro a6 c6 b6 w6 h1 h2 h3; obtain ⟨ho6, hb6⟩ := own_more (n' := 10) (m := [0]) HO5.out.1 rfl HO5.out.2.1 (by decide) HBA.out HO5.out.2.2.choose_spec.2 h1 h2 h3; have HO6 := Lib.hid ho6; have HB6 := Lib.hid hb6; have hd6 : w6.cell? ⟨w.heap.size, 2, none⟩ = some (.slice none 0 0) := (hb6.cell (World.block_lt_of_cell? wb _ hc2)).trans hc2; clear h1 h2 h3 ho6 hb6)
  have HB7 : Hid (Below w.heap.size w w6) := Lib.hid (HBW.out.trans (HB6.out.mono HBW.out.size))
  have HFR : Hid (Calls Tryd.prog 12 #[.slice a6 10 c6] w6 (Told w6 18 frame0)) := Lib.hid (framed_any (l := body0) (own_bytes HO6.out) rfl (by decide) (tab_below HT.out HB7.out))
  refine wp_loop_rounds 1 ?_
  rw [rounds_succ]
  go_wp2_with (go_at_call 12; (with_reducible refine HFR.out.mono ?_); rintro e w7 ⟨a7, c7, rfl, ho7, hb7⟩; have HO7 := Lib.hid ho7; have HB8 := Lib.hid hb7; clear ho7 hb7)
  rw [← HQ.out]
  exact ⟨a7, c7, rfl, own_mono HO7.out HB7.out.size, HB7.out.trans (HB8.out.mono HB7.out.size)⟩
end Go.Proofs.YteplapigkofgaaaDoor
