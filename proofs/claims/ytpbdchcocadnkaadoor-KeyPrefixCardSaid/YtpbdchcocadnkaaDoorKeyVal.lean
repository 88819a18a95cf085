/- A text of one plain byte is good: contracts of package val. -/
import Derived.Test.YtpbdchcocadnkaaDoorKeyMath
import Derived.Deep.RegionHeld3
namespace Go.Proofs.YtpbdchcocadnkaaDoor
open Go.ChangeShapes Go.WideShapes Go.ChangeAt Go.RowKit

set_option maxHeartbeats 1000000 in
set_option maxRecDepth 20000 in
theorem valid_one {w : World} {b off x c : Nat} (hx : x < 128) (hc : w.cell? ⟨b, off, none⟩ = some (.int .u8 (x : Int))) (h1 : 1 ≤ c) :
    Calls Tryd.prog 55 #[.slice (some ⟨b, off, none⟩) 1 c] w fun e w' => e = .returned (.bool true) ∧ w = w' := by
  go_enter Tryd.func55, Tryd.ntmps55
  go_wp2
  refine wp_loop_rounds 2 ?_
  rw [rounds_succ]
  go_wp2
  rw [rounds_succ]
  go_wp2
  go_ret
  exact ⟨rfl, rfl⟩
theorem vdemand_yes (k : Int) (w : World) : Calls Tryd.prog 37 #[.bool true, .int .i64 k] w fun e w' => e = .returned (.tuple #[]) ∧ w = w' := by
  go_enter Tryd.func37, Tryd.ntmps37
  go_wp2
  go_end0
  exact ⟨rfl, rfl⟩
/-- A text of the byte at an address. -/
def textAt (b off c : Nat) : Value := .agg #[.int .i64 5, .int .u64 0, .slice (some ⟨b, off, none⟩) 1 c, .slice none 0 0, .slice none 0 0]
set_option maxHeartbeats 1000000 in
set_option maxRecDepth 20000 in
theorem unused_text {w : World} {b off x c : Nat} (hx : x < 128) (hc : w.cell? ⟨b, off, none⟩ = some (.int .u8 (x : Int))) (h1 : 1 ≤ c) :
    Calls Tryd.prog 48 #[.agg #[.int .i64 5, .int .u64 0, .slice (some ⟨b, off, none⟩) 1 c, .slice none 0 0, .slice none 0 0]] w fun e w' => e = .returned (.bool true) ∧ Below w.heap.size w w' := by
  have HV : Hid (∀ V, Below w.heap.size w V → Calls Tryd.prog 55 #[.slice (some ⟨b, off, none⟩) 1 c] V fun e w' => e = .returned (.bool true) ∧ V = w') := Lib.hid (fun V hV => valid_one hx ((hV.cell (World.block_lt_of_cell? w _ hc)).trans hc) h1)
  clear hc hx
  go_enter Tryd.func48, Tryd.ntmps48
  go_wp2
  go_region
  go_wp2_with (go_at_call 55; (with_reducible refine (HV.out _ (Below.drew (below_alloc _ _))).mono ?_); rintro e w' ⟨rfl, rfl⟩)
  go_ret
  exact ⟨rfl, Below.drew (below_alloc _ _)⟩
theorem cells_turned {w w' : World} {g p : Nat} {t : TypeId} {cs : Array Value} (h : Cells w g t cs) (ht : Turned (fun k => k = p) w w') (hp : g ≠ p) : Cells w' g t cs := by
  unfold Cells
  rw [ht.block g (Array.getElem?_eq_some_iff.1 h).1 (fun e => hp e)]
  exact h
theorem cells_below {w w' : World} {g : Nat} {t : TypeId} {cs : Array Value} (h : Cells w g t cs) (hb : Below w.heap.size w w') : Cells w' g t cs := by
  unfold Cells
  rw [hb.block g (Array.getElem?_eq_some_iff.1 h).1]
  exact h
/-- What walk counts. -/
def Look (w : World) (kb : Nat) (z : Nat) : Prop := Cells w kb 63 #[.bool false, .bool false, .int .i64 (z : Int)]
structure Looks (w : World) (kb z : Nat) : Prop where
  a0 : w.cell? ⟨kb, 0, none⟩ = some (.bool false)
  a1 : w.cell? ⟨kb, 1, none⟩ = some (.bool false)
  a2 : w.cell? ⟨kb, 2, none⟩ = some (.int .i64 (z : Int))
  z2 : w.frozen? ⟨kb, 2, none⟩ = false
theorem looks_of {w : World} {kb z : Nat} (h : Look w kb z) : Looks w kb z :=
  ⟨by rw [cell_of_row w kb 0 _ _ _ h]; rfl, by rw [cell_of_row w kb 1 _ _ _ h]; rfl, by rw [cell_of_row w kb 2 _ _ _ h]; rfl, frozen_of_row _ _ _ _ _ h⟩
theorem look_set {w : World} {kb z : Nat} (h : Look w kb z) (y : Nat) : Look (w.setCell ⟨kb, 2, none⟩ (.int .i64 (y : Int))) kb y := cells_setCell (o := 2) h
set_option maxHeartbeats 1000000 in
set_option maxRecDepth 20000 in
theorem walk_text {w : World} {b off x c kb : Nat} (hx : x < 128) (hc : w.cell? ⟨b, off, none⟩ = some (.int .u8 (x : Int))) (h1 : 1 ≤ c) (hk : Look w kb 0) :
    Calls Tryd.prog 36 #[.pointer (some ⟨kb, 0, none⟩), .agg #[.int .i64 5, .int .u64 0, .slice (some ⟨b, off, none⟩) 1 c, .slice none 0 0, .slice none 0 0], .int .i64 0] w fun e w' => e = .returned (.tuple #[]) ∧ Look w' kb 4 ∧ Turned (fun k => k = kb) w w' := by
  have HU : Hid (∀ V, Below w.heap.size w V → Calls Tryd.prog 48 #[.agg #[.int .i64 5, .int .u64 0, .slice (some ⟨b, off, none⟩) 1 c, .slice none 0 0, .slice none 0 0]] V fun e w' => e = .returned (.bool true) ∧ Below V.heap.size V w') := Lib.hid (fun V hV => unused_text hx ((hV.cell (World.block_lt_of_cell? w _ hc)).trans hc) h1)
  have HK := Lib.hid hk
  have hkb : kb < w.heap.size := (Array.getElem?_eq_some_iff.1 hk).1
  clear hc hx hk
  go_enter Tryd.func36, Tryd.ntmps36
  go_wp2_with fail
  have HB1 : Hid (Below w.heap.size w (w.alloc (.cells #[.int .i64 5, .int .u64 0, .slice (some ⟨b, off, none⟩) 1 c, .slice none 0 0, .slice none 0 0] 35))) := Lib.hid (below_alloc _ _)
  have HV1 : Hid (Cells (w.alloc (.cells #[.int .i64 5, .int .u64 0, .slice (some ⟨b, off, none⟩) 1 c, .slice none 0 0, .slice none 0 0] 35)) w.heap.size 35 #[.int .i64 5, .int .u64 0, .slice (some ⟨b, off, none⟩) 1 c, .slice none 0 0, .slice none 0 0]) := Lib.hid (cells_new _ _ _)
  generalize w.alloc (.cells #[.int .i64 5, .int .u64 0, .slice (some ⟨b, off, none⟩) 1 c, .slice none 0 0, .slice none 0 0] 35) = w1 at HB1 HV1 ⊢
  refine (HU.out w1 HB1.out).mono ?_
  rintro e w2 ⟨rfl, hb2⟩
  have HV2 := Lib.hid (cells_below HV1.out hb2)
  have HB2 := Lib.hid (HB1.out.trans (hb2.mono HB1.out.size))
  have HK2 : Hid (Look w2 kb 0) := Lib.hid (cells_below HK.out HB2.out)
  have v0 : w2.cell? ⟨w.heap.size, 0, none⟩ = some (.int .i64 5) := by rw [cell_of_row w2 w.heap.size 0 _ _ _ HV2.out]; rfl
  have v2 : w2.cell? ⟨w.heap.size, 2, none⟩ = some (.slice (some ⟨b, off, none⟩) 1 c) := by rw [cell_of_row w2 w.heap.size 2 _ _ _ HV2.out]; rfl
  have v3 : w2.cell? ⟨w.heap.size, 3, none⟩ = some (.slice none 0 0) := by rw [cell_of_row w2 w.heap.size 3 _ _ _ HV2.out]; rfl
  have v4 : w2.cell? ⟨w.heap.size, 4, none⟩ = some (.slice none 0 0) := by rw [cell_of_row w2 w.heap.size 4 _ _ _ HV2.out]; rfl
  obtain ⟨a0, a1, a2, z2⟩ := looks_of HK2.out
  rw [show ((0 : Nat) : Int) = 0 from rfl] at a2
  have hne : ¬ kb = w.heap.size := by omega
  have hne' : ¬ w.heap.size = kb := by omega
  clear hb2
  go_wp2_with (go_at_call 37; refine (vdemand_yes _ _).mono ?_; rintro e w' ⟨rfl, rfl⟩)
  have HT2 : Hid (Turned (fun k => k = kb) w w2) := Lib.hid (Turned.of_below HB2.out)
  have HK3 : Hid (Look (w2.setCell ⟨kb, 2, none⟩ (.int .i64 1)) kb 1) := Lib.hid (look_set HK2.out 1)
  have HV3 : Hid (Cells (w2.setCell ⟨kb, 2, none⟩ (.int .i64 1)) w.heap.size 35 #[.int .i64 5, .int .u64 0, .slice (some ⟨b, off, none⟩) 1 c, .slice none 0 0, .slice none 0 0]) := Lib.hid (cells_setOther HV2.out hne')
  have HT3 : Hid (Turned (fun k => k = kb) w (w2.setCell ⟨kb, 2, none⟩ (.int .i64 1))) := Lib.hid (HT2.out.setCell (.inl rfl) _)
  clear a0 a1 a2 z2 v0 v2 v3 v4
  generalize w2.setCell ⟨kb, 2, none⟩ (.int .i64 1) = w3 at HK3 HV3 HT3 ⊢
  have v2 : w3.cell? ⟨w.heap.size, 2, none⟩ = some (.slice (some ⟨b, off, none⟩) 1 c) := by rw [cell_of_row w3 w.heap.size 2 _ _ _ HV3.out]; rfl
  obtain ⟨a0, a1, a2, z2⟩ := looks_of HK3.out
  rw [show ((1 : Nat) : Int) = 1 from rfl] at a2
  go_region
  have HK4 : Hid (Look ((w3.setCell ⟨kb, 2, none⟩ (.int .i64 4)).drew) kb 4) := Lib.hid (cells_drew (look_set HK3.out 4))
  have HV4 : Hid (Cells ((w3.setCell ⟨kb, 2, none⟩ (.int .i64 4)).drew) w.heap.size 35 #[.int .i64 5, .int .u64 0, .slice (some ⟨b, off, none⟩) 1 c, .slice none 0 0, .slice none 0 0]) := Lib.hid (cells_drew (cells_setOther HV3.out hne'))
  have HT4 : Hid (Turned (fun k => k = kb) w ((w3.setCell ⟨kb, 2, none⟩ (.int .i64 4)).drew)) := Lib.hid (HT3.out.setCell (.inl rfl) _).drew
  clear a0 a1 a2 z2 v2
  generalize (w3.setCell ⟨kb, 2, none⟩ (.int .i64 4)).drew = w4 at HK4 HV4 HT4 ⊢
  have v3 : w4.cell? ⟨w.heap.size, 3, none⟩ = some (.slice none 0 0) := by rw [cell_of_row w4 w.heap.size 3 _ _ _ HV4.out]; rfl
  have v4 : w4.cell? ⟨w.heap.size, 4, none⟩ = some (.slice none 0 0) := by rw [cell_of_row w4 w.heap.size 4 _ _ _ HV4.out]; rfl
  go_wp2
  refine wp_loop_rounds 1 ?_
  rw [rounds_succ]
  go_wp2
  go_end0
  exact ⟨rfl, HK4.out, HT4.out⟩
theorem mcatch_idle (p q : Addr) (w : World) :
    CallsD Tryd.prog 34 #[.pointer (some p), .pointer (some q)] .returning w fun e u' w' => e = .returned (.tuple #[]) ∧ u' = .returning ∧ w' = w := by
  refine callsD_of_wpS Tryd.func34 rfl fun c₀ cs hu => ?_
  apply wpS_seq
  apply wpS_region
  simp [wpOpsS, go_sem, recoverD, hu, Tryd.ntmps34, Exit.thenS]
  apply wpS_seq
  apply wpS_region
  simp [wpOpsS, go_sem, Exit.thenS]
  refine wpS_cond (t := false) (by simp [Act.eval]) ?_
  simp only [Bool.false_eq_true, if_false]
  refine wpS_of_wp (wp_skip ?_)
  cases c₀
  simp_all [bodyPostS, results, Tryd.results34]
theorem load_int {w : World} {g : Nat} {t : TypeId} {z : Int} (ht : t = 3 ∨ t = 28) (h : Cells w g t #[.int .i64 z]) : (loadVar t ⟨g, 0, none⟩).run Tryd.prog w = .ok (.int .i64 z) w := by
  have hc : w.cell? ⟨g, 0, none⟩ = some (.int .i64 z) := by rw [cell_of_row w g 0 _ _ _ h]; rfl
  rcases ht with rfl | rfl <;> simp [go_sem, loadVar, hc]
theorem results_two {fn : Func} {p q : Tmp} (h : fn.results = #[.cell p 3, .cell q 28]) {tmps : Array Value} {w : World} {g g2 : Nat} {x y : Int} (hp : tmps.getD p undef = .pointer (some ⟨g, 0, none⟩)) (hq : tmps.getD q undef = .pointer (some ⟨g2, 0, none⟩))
    (hA : Cells w g 3 #[.int .i64 x]) (hE : Cells w g2 28 #[.int .i64 y]) : (results fn tmps).run Tryd.prog w = .ok (.tuple #[.int .i64 x, .int .i64 y]) w := by
  have hp' : tmps[p]?.getD undef = .pointer (some ⟨g, 0, none⟩) := by simpa using hp
  have hq' : tmps[q]?.getD undef = .pointer (some ⟨g2, 0, none⟩) := by simpa using hq
  simp [results, h, hp', hq', asAddr, load_int (.inl rfl) hA, load_int (.inr rfl) hE]
set_option maxHeartbeats 1000000 in
set_option maxRecDepth 20000 in
theorem measure_text {w : World} {b off x c : Nat} (hx : x < 128) (hc : w.cell? ⟨b, off, none⟩ = some (.int .u8 (x : Int))) (h1 : 1 ≤ c) :
    Calls Tryd.prog 23 #[.agg #[.int .i64 5, .int .u64 0, .slice (some ⟨b, off, none⟩) 1 c, .slice none 0 0, .slice none 0 0]] w fun e w' => e = .returned (.tuple #[.int .i64 4, .int .i64 0]) ∧ Below w.heap.size w w' := by
  have hmf : ∀ (fn : Fn) (first cap : Array Value) (w : World), (Instr.makeFunc fn first cap).run Tryd.prog w = .ok (.func fn first cap) w := fun _ _ _ _ => rfl
  have HW : Hid (∀ V kb, Below w.heap.size w V → Look V kb 0 → Calls Tryd.prog 36 #[.pointer (some ⟨kb, 0, none⟩), .agg #[.int .i64 5, .int .u64 0, .slice (some ⟨b, off, none⟩) 1 c, .slice none 0 0, .slice none 0 0], .int .i64 0] V fun e w' => e = .returned (.tuple #[]) ∧ Look w' kb 4 ∧ Turned (fun k => k = kb) V w') := Lib.hid (fun V kb hV hk => walk_text hx ((hV.cell (World.block_lt_of_cell? w _ hc)).trans hc) h1 hk)
  generalize hQ : (fun (e : Ending) (w' : World) => e = .returned (.tuple #[.int .i64 4, .int .i64 0]) ∧ Below w.heap.size w w') = Q
  have HQ := Lib.hid hQ
  clear hQ hc hx
  go_enter_defers Tryd.func23, Tryd.ntmps23
  go_wp2_with fail
  have hsz : ∀ (V : World) (o : Obj), (V.alloc o).heap.size = V.heap.size + 1 := size_alloc
  have HBS : Hid (Below w.heap.size w ((((w.alloc (.cells #[.int .i64 5, .int .u64 0, .slice (some ⟨b, off, none⟩) 1 c, .slice none 0 0, .slice none 0 0] 35)).alloc (.cells #[.int .i64 0] 3)).alloc (.cells #[.int .i64 0] 28)).alloc (.cells #[.bool false, .bool false, .int .i64 0] 63))) := Lib.hid (below_alloc' (below_alloc' (below_alloc' (below_alloc _ _) _) _) _)
  have HA : Hid (Cells ((((w.alloc (.cells #[.int .i64 5, .int .u64 0, .slice (some ⟨b, off, none⟩) 1 c, .slice none 0 0, .slice none 0 0] 35)).alloc (.cells #[.int .i64 0] 3)).alloc (.cells #[.int .i64 0] 28)).alloc (.cells #[.bool false, .bool false, .int .i64 0] 63)) (w.heap.size + 1) 3 #[.int .i64 0]) := Lib.hid (by
    refine cells_alloc (cells_alloc ?_ _) _
    have h := cells_new (w.alloc (.cells #[.int .i64 5, .int .u64 0, .slice (some ⟨b, off, none⟩) 1 c, .slice none 0 0, .slice none 0 0] 35)) 3 #[.int .i64 0]
    rwa [hsz] at h)
  have HE : Hid (Cells ((((w.alloc (.cells #[.int .i64 5, .int .u64 0, .slice (some ⟨b, off, none⟩) 1 c, .slice none 0 0, .slice none 0 0] 35)).alloc (.cells #[.int .i64 0] 3)).alloc (.cells #[.int .i64 0] 28)).alloc (.cells #[.bool false, .bool false, .int .i64 0] 63)) (w.heap.size + 1 + 1) 28 #[.int .i64 0]) := Lib.hid (by
    refine cells_alloc ?_ _
    have h := cells_new ((w.alloc (.cells #[.int .i64 5, .int .u64 0, .slice (some ⟨b, off, none⟩) 1 c, .slice none 0 0, .slice none 0 0] 35)).alloc (.cells #[.int .i64 0] 3)) 28 #[.int .i64 0]
    rwa [hsz, hsz] at h)
  have HK : Hid (Look ((((w.alloc (.cells #[.int .i64 5, .int .u64 0, .slice (some ⟨b, off, none⟩) 1 c, .slice none 0 0, .slice none 0 0] 35)).alloc (.cells #[.int .i64 0] 3)).alloc (.cells #[.int .i64 0] 28)).alloc (.cells #[.bool false, .bool false, .int .i64 0] 63)) (w.heap.size + 1 + 1 + 1) 0) := Lib.hid (by
    have h := cells_new (((w.alloc (.cells #[.int .i64 5, .int .u64 0, .slice (some ⟨b, off, none⟩) 1 c, .slice none 0 0, .slice none 0 0] 35)).alloc (.cells #[.int .i64 0] 3)).alloc (.cells #[.int .i64 0] 28)) 63 #[.bool false, .bool false, .int .i64 0]
    rwa [hsz, hsz, hsz] at h)
  clear hsz
  generalize (((w.alloc (.cells #[.int .i64 5, .int .u64 0, .slice (some ⟨b, off, none⟩) 1 c, .slice none 0 0, .slice none 0 0] 35)).alloc (.cells #[.int .i64 0] 3)).alloc (.cells #[.int .i64 0] 28)).alloc (.cells #[.bool false, .bool false, .int .i64 0] 63) = w1 at HBS HA HE HK ⊢
  refine (HW.out w1 _ HBS.out HK.out).mono ?_
  rintro e w2 ⟨rfl, hk2, ht2⟩
  have hA2 := cells_turned HA.out ht2 (by omega)
  have hE2 := cells_turned HE.out ht2 (by omega)
  have HA2 := Lib.hid hA2
  have HE2 := Lib.hid hE2
  have HB2 : Hid (Below w.heap.size w w2) := Lib.hid (Turned.to_below HBS.out ht2 (fun k e => by omega) HBS.out.size)
  obtain ⟨a0, a1, a2, -⟩ := looks_of hk2
  rw [show ((4 : Nat) : Int) = 4 from rfl] at a2
  have s0 : w2.cell? ⟨w.heap.size + 1, 0, none⟩ = some (.int .i64 0) := by rw [cell_of_row w2 (w.heap.size + 1) 0 _ _ _ hA2]; rfl
  have s1 : w2.cell? ⟨w.heap.size + 1 + 1, 0, none⟩ = some (.int .i64 0) := by rw [cell_of_row w2 (w.heap.size + 1 + 1) 0 _ _ _ hE2]; rfl
  have f0 : w2.frozen? ⟨w.heap.size + 1, 0, none⟩ = false := frozen_of_row _ _ _ _ _ hA2
  have f1 : w2.frozen? ⟨w.heap.size + 1 + 1, 0, none⟩ = false := frozen_of_row _ _ _ _ _ hE2
  clear hA2 hE2 hk2 ht2
  go_wp2_with (go_at_call 37; refine (vdemand_yes _ _).mono ?_; rintro e w' ⟨rfl, rfl⟩)
  refine leaves_cons (f := 34) (args := #[.pointer (some ⟨w.heap.size + 1, 0, none⟩), .pointer (some ⟨w.heap.size + 1 + 1, 0, none⟩)]) (by simp) (by simp [go_sem]) ?_
  refine (mcatch_idle ⟨w.heap.size + 1, 0, none⟩ ⟨w.heap.size + 1 + 1, 0, none⟩ _).mono ?_
  rintro e u' w'' ⟨rfl, rfl, rfl⟩
  have hAs := cells_setOther (b := w.heap.size + 1 + 1) (o := 0) (v := .int .i64 0) (cells_setCell (o := 0) (v := .int .i64 4) HA2.out) (by omega)
  have hEs := cells_setCell (o := 0) (v := .int .i64 0) (cells_setOther (b := w.heap.size + 1) (o := 0) (v := .int .i64 4) HE2.out (by omega))
  have hBs : Below w.heap.size w ((w2.setCell ⟨w.heap.size + 1, 0, none⟩ (.int .i64 4)).setCell ⟨w.heap.size + 1 + 1, 0, none⟩ (.int .i64 0)) := (HB2.out.setCell (Nat.le_succ _) _).setCell (by show w.heap.size ≤ w.heap.size + 1 + 1; omega) _
  rw [← HQ.out]
  exact ⟨_, results_two rfl rfl rfl hAs hEs, rfl, hBs⟩
set_option maxHeartbeats 1000000 in
set_option maxRecDepth 20000 in
theorem good_text {w : World} {b off x c : Nat} (hx : x < 128) (hc : w.cell? ⟨b, off, none⟩ = some (.int .u8 (x : Int))) (h1 : 1 ≤ c) :
    Calls Tryd.prog 18 #[.agg #[.int .i64 5, .int .u64 0, .slice (some ⟨b, off, none⟩) 1 c, .slice none 0 0, .slice none 0 0]] w fun e w' => e = .returned (.int .i64 0) ∧ Below w.heap.size w w' := by
  have HM : Hid (∀ V, Below w.heap.size w V → Calls Tryd.prog 23 #[.agg #[.int .i64 5, .int .u64 0, .slice (some ⟨b, off, none⟩) 1 c, .slice none 0 0, .slice none 0 0]] V fun e w' => e = .returned (.tuple #[.int .i64 4, .int .i64 0]) ∧ Below V.heap.size V w') := Lib.hid (fun V hV => measure_text hx ((hV.cell (World.block_lt_of_cell? w _ hc)).trans hc) h1)
  have HB : Hid (∀ o : Obj, Below w.heap.size w (w.alloc o)) := Lib.hid (fun o => below_alloc _ _)
  clear hc hx
  go_enter Tryd.func18, Tryd.ntmps18
  go_wp2_with (go_at_call 23; (with_reducible refine (HM.out _ (HB.out _)).mono ?_); rintro e w2 ⟨rfl, hb2⟩; have HB2 := Lib.hid ((HB.out _).trans (hb2.mono (HB.out _).size)); clear hb2)
  go_ret
  exact ⟨rfl, HB2.out⟩
end Go.Proofs.YtpbdchcocadnkaaDoor
