/- A value of bytes, of any length: it is measured, or found too big: contracts of package val. -/
import Derived.Test.YtpbdchcocadnkaaDoorKeyIs
import Derived.WalkLawsBesides
namespace Go.Proofs.YtpbdchcocadnkaaDoor
open Go.ChangeShapes Go.WideShapes Go.ChangeAt Go.RowKit

/-- What demand throws. -/
def faultOf (k : Int) : Value := .iface 75 (.agg #[.int .i64 k])
set_option maxHeartbeats 1000000 in
theorem vdemand_no (k : Int) (w : World) : Calls Tryd.prog 37 #[.bool false, .int .i64 k] w fun e w' => e = .panicked [{ v := faultOf k, recovered := false }] ∧ Below w.heap.size w w' := by
  go_enter Tryd.func37, Tryd.ntmps37
  go_wp2
  exact ⟨rfl, rfl, Below.refl _ _⟩
theorem fault_is (k : Int) (w : World) : (Instr.typeAssert (.iface 75 (.agg #[.int .i64 k])) 20 75 true).run Tryd.prog w = .ok (.tuple #[.agg #[.int .i64 k], .bool true]) w := by
  simp [Instr.typeAssert, go_sem]
set_option maxHeartbeats 1000000 in
theorem caught_any (k : Int) (w : World) : Calls Tryd.prog 35 #[.iface 75 (.agg #[.int .i64 k])] w fun e w' => e = .returned (.int .i64 k) ∧ Below w.heap.size w w' := by
  have hf := fault_is k w
  go_enter Tryd.func35, Tryd.ntmps35
  go_wp2
  go_ret
  exact ⟨rfl, below_alloc _ _⟩
set_option maxHeartbeats 1000000 in
theorem mcatch_panics (g : Nat) (x y k : Int) (w : World) (older : List PanicEntry) (hA : Cells w (g + 1) 3 #[.int .i64 x]) (hE : Cells w (g + 1 + 1) 28 #[.int .i64 y]) :
    CallsD Tryd.prog 34 #[.pointer (some ⟨g + 1, 0, none⟩), .pointer (some ⟨g + 1 + 1, 0, none⟩)] (.panicking ({ v := faultOf k, recovered := false } :: older)) w fun e u' w' => e = .returned (.tuple #[]) ∧ u' = .panicking ({ v := faultOf k, recovered := true } :: older) ∧ Cells w' (g + 1) 3 #[.int .i64 0] ∧ Cells w' (g + 1 + 1) 28 #[.int .i64 k] ∧ Turned (fun i => i = g + 1 ∨ i = g + 1 + 1) w w' := by
  unfold faultOf
  refine callsD_of_wpS Tryd.func34 rfl fun c₀ cs hu => ?_
  apply wpS_seq
  apply wpS_region
  simp [wpOpsS, go_sem, recoverD, hu, Tryd.ntmps34, Exit.thenS]
  apply wpS_seq
  apply wpS_region
  simp [wpOpsS, go_sem, Exit.thenS]
  refine wpS_cond (t := true) (by simp [Act.eval, Array.replicate]) ?_
  simp only [if_true]
  refine wpS_of_wp ?_
  generalize hK : (fun (e : Exit) (a' : Act) (w' : World) => bodyPostS Tryd.prog _ c₀ cs _ e a' _ w') = K
  change Code.wp Tryd.prog _ K { tmps := #[.pointer (some ⟨g + 1, 0, none⟩), .pointer (some ⟨g + 1 + 1, 0, none⟩), .iface 75 (.agg #[.int .i64 k]), .iface 75 (.agg #[.int .i64 k]), .iface 75 (.agg #[.int .i64 k]), .bool true, undef, undef], defers := [] } w
  have HK := Lib.hid hK
  clear hK
  go_wp2_with (go_at_call 35; refine (caught_any k w).mono ?_; rintro e w2 ⟨rfl, hb2⟩; have hA2 := cells_below hA hb2; have hE2 := cells_below hE hb2; have HA := Lib.hid hA2; have HE := Lib.hid hE2; have HB := Lib.hid hb2; have s0 : w2.cell? ⟨g + 1, 0, none⟩ = some (.int .i64 x) := (by rw [cell_of_row w2 (g + 1) 0 _ _ _ hA2]; rfl); have s1 : w2.cell? ⟨g + 1 + 1, 0, none⟩ = some (.int .i64 y) := (by rw [cell_of_row w2 (g + 1 + 1) 0 _ _ _ hE2]; rfl); have f0 : w2.frozen? ⟨g + 1, 0, none⟩ = false := frozen_of_row _ _ _ _ _ hA2; have f1 : w2.frozen? ⟨g + 1 + 1, 0, none⟩ = false := frozen_of_row _ _ _ _ _ hE2; clear hA2 hE2 hb2 hA hE)
  rw [← HK.out]
  have hA3 := cells_setOther (b := g + 1 + 1) (o := 0) (v := .int .i64 k) (cells_setCell (o := 0) (v := .int .i64 0) HA.out) (by omega)
  have hE3 := cells_setCell (o := 0) (v := .int .i64 k) (cells_setOther (b := g + 1) (o := 0) (v := .int .i64 0) HE.out (by omega))
  have hT3 := ((Turned.of_below (E := fun i => i = g + 1 ∨ i = g + 1 + 1) HB.out).setCell (p := ⟨g + 1, 0, none⟩) (.inl (.inl rfl)) (.int .i64 0)).setCell (p := ⟨g + 1 + 1, 0, none⟩) (.inl (.inr rfl)) (.int .i64 k)
  simp [bodyPostS, results, Tryd.results34, hT3]
  exact ⟨hA3, hE3⟩
set_option maxHeartbeats 1000000 in
set_option maxRecDepth 20000 in
theorem unused_bytes (m xc : Nat) (x : Option Addr) (w : World) :
    Calls Tryd.prog 48 #[.agg #[.int .i64 6, .int .u64 0, .slice x m xc, .slice none 0 0, .slice none 0 0]] w fun e w' => e = .returned (.bool true) ∧ Below w.heap.size w w' := by
  go_enter Tryd.func48, Tryd.ntmps48
  go_wp2
  go_region
  go_wp2
  go_ret
  exact ⟨rfl, Below.drew (below_alloc _ _)⟩
set_option maxHeartbeats 1000000 in
set_option maxRecDepth 20000 in
theorem walk_bytes {w : World} {m xc kb : Nat} {x : Option Addr} (hm : m ≤ 140737488351232) (hk : Look w kb 0) :
    Calls Tryd.prog 36 #[.pointer (some ⟨kb, 0, none⟩), .agg #[.int .i64 6, .int .u64 0, .slice x m xc, .slice none 0 0, .slice none 0 0], .int .i64 0] w fun e w' => e = .returned (.tuple #[]) ∧ Look w' kb (3 + m) ∧ Turned (fun k => k = kb) w w' := by
  have HU : Hid (∀ V, Below w.heap.size w V → Calls Tryd.prog 48 #[.agg #[.int .i64 6, .int .u64 0, .slice x m xc, .slice none 0 0, .slice none 0 0]] V fun e w' => e = .returned (.bool true) ∧ Below V.heap.size V w') := Lib.hid (fun V _ => unused_bytes m xc x V)
  have HK := Lib.hid hk
  have hkb : kb < w.heap.size := (Array.getElem?_eq_some_iff.1 hk).1
  clear hk
  go_enter Tryd.func36, Tryd.ntmps36
  go_wp2_with fail
  have HB1 : Hid (Below w.heap.size w (w.alloc (.cells #[.int .i64 6, .int .u64 0, .slice x m xc, .slice none 0 0, .slice none 0 0] 35))) := Lib.hid (below_alloc _ _)
  have HV1 : Hid (Cells (w.alloc (.cells #[.int .i64 6, .int .u64 0, .slice x m xc, .slice none 0 0, .slice none 0 0] 35)) w.heap.size 35 #[.int .i64 6, .int .u64 0, .slice x m xc, .slice none 0 0, .slice none 0 0]) := Lib.hid (cells_new _ _ _)
  generalize w.alloc (.cells #[.int .i64 6, .int .u64 0, .slice x m xc, .slice none 0 0, .slice none 0 0] 35) = w1 at HB1 HV1 ⊢
  refine (HU.out w1 HB1.out).mono ?_
  rintro e w2 ⟨rfl, hb2⟩
  have HV2 := Lib.hid (cells_below HV1.out hb2)
  have HB2 := Lib.hid (HB1.out.trans (hb2.mono HB1.out.size))
  have HK2 : Hid (Look w2 kb 0) := Lib.hid (cells_below HK.out HB2.out)
  have v0 : w2.cell? ⟨w.heap.size, 0, none⟩ = some (.int .i64 6) := by rw [cell_of_row w2 w.heap.size 0 _ _ _ HV2.out]; rfl
  have v2 : w2.cell? ⟨w.heap.size, 2, none⟩ = some (.slice x m xc) := by rw [cell_of_row w2 w.heap.size 2 _ _ _ HV2.out]; rfl
  have v3 : w2.cell? ⟨w.heap.size, 3, none⟩ = some (.slice none 0 0) := by rw [cell_of_row w2 w.heap.size 3 _ _ _ HV2.out]; rfl
  have v4 : w2.cell? ⟨w.heap.size, 4, none⟩ = some (.slice none 0 0) := by rw [cell_of_row w2 w.heap.size 4 _ _ _ HV2.out]; rfl
  obtain ⟨a0, a1, a2, z2⟩ := looks_of HK2.out
  rw [show ((0 : Nat) : Int) = 0 from rfl] at a2
  have hne : ¬ kb = w.heap.size := by omega
  have hne' : ¬ w.heap.size = kb := by omega
  clear hb2
  go_wp2_with (go_at_call 37; refine (vdemand_yes _ _).mono ?_; rintro e w' ⟨rfl, rfl⟩)
  have HT2 : Hid (Turned (fun k => k = kb) w w2) := Lib.hid (Turned.of_below HB2.out)
  have HK3 : Hid (Look (w2.setCell ⟨kb, 2, none⟩ (.int .i64 1)) kb 1) := Lib.hid (look_set HK2.out 1)
  have HV3 : Hid (Cells (w2.setCell ⟨kb, 2, none⟩ (.int .i64 1)) w.heap.size 35 #[.int .i64 6, .int .u64 0, .slice x m xc, .slice none 0 0, .slice none 0 0]) := Lib.hid (cells_setOther HV2.out hne')
  have HT3 : Hid (Turned (fun k => k = kb) w (w2.setCell ⟨kb, 2, none⟩ (.int .i64 1))) := Lib.hid (HT2.out.setCell (.inl rfl) _)
  clear a0 a1 a2 z2 v0 v2 v3 v4
  generalize w2.setCell ⟨kb, 2, none⟩ (.int .i64 1) = w3 at HK3 HV3 HT3 ⊢
  have v2 : w3.cell? ⟨w.heap.size, 2, none⟩ = some (.slice x m xc) := by rw [cell_of_row w3 w.heap.size 2 _ _ _ HV3.out]; rfl
  obtain ⟨a0, a1, a2, z2⟩ := looks_of HK3.out
  rw [show ((1 : Nat) : Int) = 1 from rfl] at a2
  have hw1 : IntKind.i64.wrap (2 + (m : Int)) = 2 + (m : Int) := IntWalk.i64_in _ (by omega)
  have hw2 : IntKind.i64.wrap (1 + (2 + (m : Int))) = ((3 + m : Nat) : Int) := (IntWalk.i64_in _ (by omega)).trans (by omega)
  go_region
  have HK4 : Hid (Look ((w3.setCell ⟨kb, 2, none⟩ (.int .i64 (3 + (m : Int)))).drew) kb (3 + m)) := Lib.hid (by
    have h := cells_drew (look_set HK3.out (3 + m))
    rw [show ((3 + m : Nat) : Int) = 3 + (m : Int) by omega] at h
    unfold Look
    rw [show ((3 + m : Nat) : Int) = 3 + (m : Int) by omega]
    exact h)
  have HV4 : Hid (Cells ((w3.setCell ⟨kb, 2, none⟩ (.int .i64 (3 + (m : Int)))).drew) w.heap.size 35 #[.int .i64 6, .int .u64 0, .slice x m xc, .slice none 0 0, .slice none 0 0]) := Lib.hid (cells_drew (cells_setOther HV3.out hne'))
  have HT4 : Hid (Turned (fun k => k = kb) w ((w3.setCell ⟨kb, 2, none⟩ (.int .i64 (3 + (m : Int)))).drew)) := Lib.hid (HT3.out.setCell (.inl rfl) _).drew
  clear a0 a1 a2 z2 v2 hw1 hw2
  generalize (w3.setCell ⟨kb, 2, none⟩ (.int .i64 (3 + (m : Int)))).drew = w4 at HK4 HV4 HT4 ⊢
  have v3 : w4.cell? ⟨w.heap.size, 3, none⟩ = some (.slice none 0 0) := by rw [cell_of_row w4 w.heap.size 3 _ _ _ HV4.out]; rfl
  have v4 : w4.cell? ⟨w.heap.size, 4, none⟩ = some (.slice none 0 0) := by rw [cell_of_row w4 w.heap.size 4 _ _ _ HV4.out]; rfl
  go_wp2
  refine wp_loop_rounds 1 ?_
  rw [rounds_succ]
  go_wp2
  go_end0
  exact ⟨rfl, HK4.out, HT4.out⟩
end Go.Proofs.YtpbdchcocadnkaaDoor
