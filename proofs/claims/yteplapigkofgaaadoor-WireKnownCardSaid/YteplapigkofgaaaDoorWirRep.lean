/- An empty reply read: contracts. -/
import Derived.Test.YteplapigkofgaaaDoorWirTake
import Derived.LoopN
import Derived.Laws.Rows
import Derived.Defers
import Derived.Deep.RegionHeld3
import Derived.Recover
import Derived.Laws.Pointers
namespace Go.Proofs.YteplapigkofgaaaDoor
open Go.ChangeShapes Go.WideShapes Go.ChangeAt Go.RowKit

theorem list_none (f : Value) (w : World) : Calls Tryd.prog 26 #[.int .i64 0, f] w fun e w' => e = .returned (.slice none 0 0) ∧ w = w' := by
  go_enter Tryd.func26, Tryd.ntmps26
  go_wp2
  refine wp_loop_rounds 1 ?_
  rw [rounds_succ]
  go_wp2
  go_ret
  exact ⟨rfl, rfl⟩
theorem cells_turned {w w' : World} {g p : Nat} {t : TypeId} {cs : Array Value} (h : Cells w g t cs) (ht : Turned (fun k => k = p) w w') (hp : g ≠ p) : Cells w' g t cs := by
  unfold Cells
  rw [ht.block g (Array.getElem?_eq_some_iff.1 h).1 (fun e => hp e)]
  exact h
theorem cells_below {w w' : World} {g : Nat} {t : TypeId} {cs : Array Value} (h : Cells w g t cs) (hb : Below w.heap.size w w') : Cells w' g t cs := by
  unfold Cells
  rw [hb.block g (Array.getElem?_eq_some_iff.1 h).1]
  exact h
theorem ten_below {w w' : World} {b off : Nat} (h : Ten w b off) (hb : Below w.heap.size w w') : Ten w' b off := fun j hj => (hb.cell (World.block_lt_of_cell? w _ (h j hj))).trans (h j hj)
/-- What reading an empty reply keeps. -/
def Reads (w V : World) (p b off cap q : Nat) : Prop := Cur V p b off cap q ∧ Ten V b off ∧ Cells V w.heap.size 28 #[.int .i64 0, .int .i64 0, .slice none 0 0, .int .i64 0] ∧ Turned (fun k => k = p) w V
theorem reads_turned {w V V' : World} {p b off cap q r : Nat} (h : Reads w V p b off cap q) (hp : b ≠ p) (hw : p < w.heap.size) (hc : Cur V' p b off cap r) (ht : Turned (fun k => k = p) V V') : Reads w V' p b off cap r :=
  ⟨hc, ten_turned h.2.1 ht hp, cells_turned h.2.2.1 ht (by omega), h.2.2.2.trans ht (Grows.refl _ _)⟩
set_option maxHeartbeats 1000000 in
set_option maxRecDepth 20000 in
theorem reply_any {w : World} {p b off cap : Nat} (h : Cur w p b off cap 0) (hcap : 10 ≤ cap) (hz : Ten w b off) (hp : b ≠ p) :
    Calls Tryd.prog 16 #[.pointer (some ⟨p, 0, none⟩)] w fun e w' => e = .returned (.agg #[.int .i64 0, .int .i64 0, .slice none 0 0, .int .i64 0]) ∧ Cur w' p b off cap 10 ∧ Turned (fun k => k = p) w w' := by
  have hmf : ∀ (fn : Fn) (first cap : Array Value) (w : World), (Instr.makeFunc fn first cap).run Tryd.prog w = .ok (.func fn first cap) w := fun _ _ _ _ => rfl
  have HO : Hid (∀ V q, Cur V p b off cap q → q + 1 ≤ 10 → Ten V b off → Calls Tryd.prog 24 #[.pointer (some ⟨p, 0, none⟩)] V (Nought V p b off cap (q + 1))) := Lib.hid (fun V q hc hq hz => octet_any hc hcap hq hz hp)
  have HC : Hid (∀ V q, Cur V p b off cap q → q + 4 ≤ 10 → Ten V b off → Calls Tryd.prog 25 #[.pointer (some ⟨p, 0, none⟩)] V (Nought V p b off cap (q + 4))) := Lib.hid (fun V q hc hq hz => count_any hc hcap hq hz hp)
  have hpw : p < w.heap.size := (Array.getElem?_eq_some_iff.1 h).1
  have HP := Lib.hid hp
  have HPW := Lib.hid hpw
  have HR1 : Hid (Reads w (w.alloc (.cells #[.int .i64 0, .int .i64 0, .slice none 0 0, .int .i64 0] 28)) p b off cap 0) := Lib.hid ⟨cells_alloc h _, ten_below hz (below_alloc _ _), cells_new _ _ _, (Turned.refl _ _).alloc _⟩
  generalize hQ : (fun (e : Ending) (w' : World) => e = .returned (.agg #[.int .i64 0, .int .i64 0, .slice none 0 0, .int .i64 0]) ∧ Cur w' p b off cap 10 ∧ Turned (fun k => k = p) w w') = Q
  have HQ := Lib.hid hQ
  clear hQ h hz hp hpw
  go_enter Tryd.func16, Tryd.ntmps16
  go_wp2_with fail
  generalize w.alloc (.cells #[.int .i64 0, .int .i64 0, .slice none 0 0, .int .i64 0] 28) = w1 at HR1 ⊢
  refine (HO.out _ 0 HR1.out.1 (by decide) HR1.out.2.1).mono ?_
  rintro e w2 ⟨rfl, hc2, ht2⟩
  have HR2 := Lib.hid (reads_turned HR1.out HP.out HPW.out hc2 ht2)
  clear hc2 ht2
  go_wp2_with fail
  refine (HC.out _ 1 HR2.out.1 (by decide) HR2.out.2.1).mono ?_
  rintro e w3 ⟨rfl, hc2, ht2⟩
  have HR3 := Lib.hid (reads_turned HR2.out HP.out HPW.out hc2 ht2)
  clear hc2 ht2
  go_wp2_with fail
  refine (HC.out _ 5 HR3.out.1 (by decide) HR3.out.2.1).mono ?_
  rintro e w4 ⟨rfl, hc2, ht2⟩
  have HR4 := Lib.hid (reads_turned HR3.out HP.out HPW.out hc2 ht2)
  clear hc2 ht2
  go_wp2_with fail
  have HR5 : Hid (Reads w (w4.alloc (.cells #[.int .i64 0, .int .i64 0, .slice none 0 0, .int .i64 0] 28)) p b off cap 9) := Lib.hid ⟨cells_alloc HR4.out.1 _, ten_below HR4.out.2.1 (below_alloc _ _), cells_alloc HR4.out.2.2.1 _, HR4.out.2.2.2.alloc _⟩
  have HN5 : Hid (Cells (w4.alloc (.cells #[.int .i64 0, .int .i64 0, .slice none 0 0, .int .i64 0] 28)) w4.heap.size 28 #[.int .i64 0, .int .i64 0, .slice none 0 0, .int .i64 0]) := Lib.hid (cells_new _ _ _)
  have hw4 : w.heap.size ≤ w4.heap.size := HR4.out.2.2.2.size
  generalize w4.alloc (.cells #[.int .i64 0, .int .i64 0, .slice none 0 0, .int .i64 0] 28) = w5 at HR5 HN5 ⊢
  refine (HO.out _ 9 HR5.out.1 (by decide) HR5.out.2.1).mono ?_
  rintro e w6 ⟨rfl, hc2, ht2⟩
  have HR6 := Lib.hid (reads_turned HR5.out HP.out HPW.out hc2 ht2)
  have hN6 := cells_turned HN5.out ht2 (by have := HPW.out; omega)
  have HN6 := Lib.hid hN6
  clear hc2 ht2
  have r2 : w6.cell? ⟨w4.heap.size, 2, none⟩ = some (.slice none 0 0) := by rw [cell_of_row w6 w4.heap.size 2 _ _ _ hN6]; rfl
  have r0 : w6.cell? ⟨w4.heap.size, 0, none⟩ = some (.int .i64 0) := by rw [cell_of_row w6 w4.heap.size 0 _ _ _ hN6]; rfl
  have r1 : w6.cell? ⟨w4.heap.size, 1, none⟩ = some (.int .i64 0) := by rw [cell_of_row w6 w4.heap.size 1 _ _ _ hN6]; rfl
  have r3 : w6.cell? ⟨w4.heap.size, 3, none⟩ = some (.int .i64 0) := by rw [cell_of_row w6 w4.heap.size 3 _ _ _ hN6]; rfl
  have q0 : w6.cell? ⟨w.heap.size, 0, none⟩ = some (.int .i64 0) := by rw [cell_of_row w6 w.heap.size 0 _ _ _ HR6.out.2.2.1]; rfl
  have q1 : w6.cell? ⟨w.heap.size, 1, none⟩ = some (.int .i64 0) := by rw [cell_of_row w6 w.heap.size 1 _ _ _ HR6.out.2.2.1]; rfl
  have q2 : w6.cell? ⟨w.heap.size, 2, none⟩ = some (.slice none 0 0) := by rw [cell_of_row w6 w.heap.size 2 _ _ _ HR6.out.2.2.1]; rfl
  have q3 : w6.cell? ⟨w.heap.size, 3, none⟩ = some (.int .i64 0) := by rw [cell_of_row w6 w.heap.size 3 _ _ _ HR6.out.2.2.1]; rfl
  have z0 : w6.frozen? ⟨w.heap.size, 0, none⟩ = false := frozen_of_row _ _ _ _ _ HR6.out.2.2.1
  have z1 : w6.frozen? ⟨w.heap.size, 1, none⟩ = false := frozen_of_row _ _ _ _ _ HR6.out.2.2.1
  have z2 : w6.frozen? ⟨w.heap.size, 2, none⟩ = false := frozen_of_row _ _ _ _ _ HR6.out.2.2.1
  have z3 : w6.frozen? ⟨w.heap.size, 3, none⟩ = false := frozen_of_row _ _ _ _ _ HR6.out.2.2.1
  have hlt : w.heap.size < w4.heap.size := (Array.getElem?_eq_some_iff.1 HR4.out.2.2.1).1
  have hne : ¬ w.heap.size = w4.heap.size := by omega
  have hne' : ¬ w4.heap.size = w.heap.size := by omega
  have rz : w6.frozen? ⟨w4.heap.size, 2, none⟩ = false := frozen_of_row _ _ _ _ _ hN6
  clear hN6
  go_wp2_with (first | (go_at_call 23; refine (demand_yes _).mono ?_; rintro e w' ⟨rfl, rfl⟩) | (go_at_call 26; refine (list_none _ _).mono ?_; rintro e w' ⟨rfl, rfl⟩))
  have hp6 : p < w.heap.size := HPW.out
  have hcb := cells_setCell (o := 3) (v := .int .i64 0) (cells_setCell (o := 2) (v := .slice none 0 0) (cells_setCell (o := 1) (v := .int .i64 0) (cells_setCell (o := 0) (v := .int .i64 0) (cells_setOther (o := 2) (v := .slice none 0 0) HR6.out.2.2.1 hne))))
  have hcur := cells_setOther (b := w.heap.size) (o := 3) (v := .int .i64 0) (cells_setOther (b := w.heap.size) (o := 2) (v := .slice none 0 0) (cells_setOther (b := w.heap.size) (o := 1) (v := .int .i64 0) (cells_setOther (b := w.heap.size) (o := 0) (v := .int .i64 0) (cells_setOther (b := w4.heap.size) (o := 2) (v := .slice none 0 0) HR6.out.1 (by omega)) (by omega)) (by omega)) (by omega)) (by omega)
  have htu := ((((HR6.out.2.2.2.setCell (p := ⟨w4.heap.size, 2, none⟩) (.inr hw4) (.slice none 0 0)).setCell (p := ⟨w.heap.size, 0, none⟩) (.inr (Nat.le_refl _)) (.int .i64 0)).setCell (p := ⟨w.heap.size, 1, none⟩) (.inr (Nat.le_refl _)) (.int .i64 0)).setCell (p := ⟨w.heap.size, 2, none⟩) (.inr (Nat.le_refl _)) (.slice none 0 0)).setCell (p := ⟨w.heap.size, 3, none⟩) (.inr (Nat.le_refl _)) (.int .i64 0)
  (try simp only [Exit.inBlock, Exit.then])
  refine bodyPost_ret (results_cell_row rfl _ _ w.heap.size 28 #[.int .i64 0, .int .i64 0, .slice none 0 0, .int .i64 0] (0, 0) _ rfl hcb Tryd.underlying28 rfl (by kernel_rfl)) rfl ?_
  rw [← HQ.out]
  exact ⟨rfl, hcur, htu⟩
theorem load_errno {w : World} {g : Nat} (h : Cells w g 23 #[.int .i64 0]) : (loadVar 23 ⟨g, 0, none⟩).run Tryd.prog w = .ok (.int .i64 0) w := by
  have hc : w.cell? ⟨g, 0, none⟩ = some (.int .i64 0) := by rw [cell_of_row w g 0 _ _ _ h]; rfl
  simp [go_sem, loadVar, hc]
theorem load_reply {w : World} {g : Nat} (h : Cells w g 28 #[.int .i64 0, .int .i64 0, .slice none 0 0, .int .i64 0]) : (loadVar 28 ⟨g, 0, none⟩).run Tryd.prog w = .ok (.agg #[.int .i64 0, .int .i64 0, .slice none 0 0, .int .i64 0]) w :=
  run_loadVar_row w g 28 28 _ (0, 0) _ h Tryd.underlying28 rfl (by kernel_rfl)
theorem results_rep {fn : Func} {p q : Tmp} (h : fn.results = #[.cell p 28, .cell q 23]) {tmps : Array Value} {w : World} {g g2 : Nat} (hp : tmps.getD p undef = .pointer (some ⟨g, 0, none⟩)) (hq : tmps.getD q undef = .pointer (some ⟨g2, 0, none⟩))
    (hA : Cells w g 28 #[.int .i64 0, .int .i64 0, .slice none 0 0, .int .i64 0]) (hE : Cells w g2 23 #[.int .i64 0]) : (results fn tmps).run Tryd.prog w = .ok (.tuple #[.agg #[.int .i64 0, .int .i64 0, .slice none 0 0, .int .i64 0], .int .i64 0]) w := by
  have hp' : tmps[p]?.getD undef = .pointer (some ⟨g, 0, none⟩) := by simpa using hp
  have hq' : tmps[q]?.getD undef = .pointer (some ⟨g2, 0, none⟩) := by simpa using hq
  simp [results, h, hp', hq', asAddr, load_reply hA, load_errno hE]
theorem catch_idle (p q : Addr) (w : World) :
    CallsD Tryd.prog 22 #[.pointer (some p), .pointer (some q)] .returning w fun e u' w' => e = .returned (.tuple #[]) ∧ u' = .returning ∧ w' = w := by
  refine callsD_of_wpS Tryd.func22 rfl fun c₀ cs hu => ?_
  apply wpS_seq
  apply wpS_region
  simp [wpOpsS, go_sem, recoverD, hu, Tryd.ntmps22, Exit.thenS]
  refine wpS_cond (t := false) (by simp [Act.eval, Array.replicate]) ?_
  simp only [Bool.false_eq_true, if_false]
  refine wpS_of_wp (wp_skip ?_)
  cases c₀
  simp_all [bodyPostS, results, Tryd.results22]
set_option maxHeartbeats 1000000 in
set_option maxRecDepth 20000 in
theorem whole_any {w : World} {p b off cap : Nat} (h : Cur w p b off cap 0) (hcap : 10 ≤ cap) (hz : Ten w b off) (hp : b ≠ p) :
    Calls Tryd.prog 15 #[.pointer (some ⟨p, 0, none⟩), .func (.func 16) #[.pointer (some ⟨p, 0, none⟩)] #[]] w fun e w' => e = .returned (.tuple #[.agg #[.int .i64 0, .int .i64 0, .slice none 0 0, .int .i64 0], .int .i64 0]) ∧ Turned (fun k => k = p) w w' := by
  have hmf : ∀ (fn : Fn) (first cap : Array Value) (w : World), (Instr.makeFunc fn first cap).run Tryd.prog w = .ok (.func fn first cap) w := fun _ _ _ _ => rfl
  have hpw : p < w.heap.size := (Array.getElem?_eq_some_iff.1 h).1
  have HR : Hid (∀ V, Cur V p b off cap 0 → Ten V b off → Calls Tryd.prog 16 #[.pointer (some ⟨p, 0, none⟩)] V fun e w' => e = .returned (.agg #[.int .i64 0, .int .i64 0, .slice none 0 0, .int .i64 0]) ∧ Cur w' p b off cap 10 ∧ Turned (fun k => k = p) V w') := Lib.hid (fun V hc hz => reply_any hc hcap hz hp)
  have H0 := Lib.hid h
  have HZ := Lib.hid hz
  have HP := Lib.hid hp
  generalize hQ : (fun (e : Ending) (w' : World) => e = .returned (.tuple #[.agg #[.int .i64 0, .int .i64 0, .slice none 0 0, .int .i64 0], .int .i64 0]) ∧ Turned (fun k => k = p) w w') = Q
  have HQ := Lib.hid hQ
  clear hQ h hz hp
  go_enter_defers Tryd.func15, Tryd.ntmps15
  go_wp2_with fail
  have HC2 : Hid (Cur ((w.alloc (.cells #[.int .i64 0, .int .i64 0, .slice none 0 0, .int .i64 0] 28)).alloc (.cells #[.int .i64 0] 23)) p b off cap 0) := Lib.hid (cells_alloc (cells_alloc H0.out _) _)
  have HZ2 : Hid (Ten ((w.alloc (.cells #[.int .i64 0, .int .i64 0, .slice none 0 0, .int .i64 0] 28)).alloc (.cells #[.int .i64 0] 23)) b off) := Lib.hid (ten_below (ten_below HZ.out (below_alloc _ _)) (below_alloc _ _))
  have HA2 : Hid (Cells ((w.alloc (.cells #[.int .i64 0, .int .i64 0, .slice none 0 0, .int .i64 0] 28)).alloc (.cells #[.int .i64 0] 23)) w.heap.size 28 #[.int .i64 0, .int .i64 0, .slice none 0 0, .int .i64 0]) := Lib.hid (cells_alloc (cells_new _ _ _) _)
  have HE2 : Hid (Cells ((w.alloc (.cells #[.int .i64 0, .int .i64 0, .slice none 0 0, .int .i64 0] 28)).alloc (.cells #[.int .i64 0] 23)) (w.heap.size + 1) 23 #[.int .i64 0]) := Lib.hid (by
    have h := cells_new (w.alloc (.cells #[.int .i64 0, .int .i64 0, .slice none 0 0, .int .i64 0] 28)) 23 #[.int .i64 0]
    rw [size_alloc] at h
    exact h)
  have HT2 : Hid (Turned (fun k => k = p) w ((w.alloc (.cells #[.int .i64 0, .int .i64 0, .slice none 0 0, .int .i64 0] 28)).alloc (.cells #[.int .i64 0] 23))) := Lib.hid (((Turned.refl _ _).alloc _).alloc _)
  generalize (w.alloc (.cells #[.int .i64 0, .int .i64 0, .slice none 0 0, .int .i64 0] 28)).alloc (.cells #[.int .i64 0] 23) = w2 at HC2 HZ2 HA2 HE2 HT2 ⊢
  refine (HR.out w2 HC2.out HZ2.out).mono ?_
  rintro e w3 ⟨rfl, hc3, ht3⟩
  have hA3 := cells_turned HA2.out ht3 (by omega)
  have hE3 := cells_turned HE2.out ht3 (by omega)
  have HA3 := Lib.hid hA3
  have HE3 := Lib.hid hE3
  have HC3 := Lib.hid hc3
  have HT3 := Lib.hid (HT2.out.trans ht3 (Grows.refl _ _))
  have a0 : w3.cell? ⟨w.heap.size, 0, none⟩ = some (.int .i64 0) := by rw [cell_of_row w3 w.heap.size 0 _ _ _ hA3]; rfl
  have a1 : w3.cell? ⟨w.heap.size, 1, none⟩ = some (.int .i64 0) := by rw [cell_of_row w3 w.heap.size 1 _ _ _ hA3]; rfl
  have a2 : w3.cell? ⟨w.heap.size, 2, none⟩ = some (.slice none 0 0) := by rw [cell_of_row w3 w.heap.size 2 _ _ _ hA3]; rfl
  have a3 : w3.cell? ⟨w.heap.size, 3, none⟩ = some (.int .i64 0) := by rw [cell_of_row w3 w.heap.size 3 _ _ _ hA3]; rfl
  have z0 : w3.frozen? ⟨w.heap.size, 0, none⟩ = false := frozen_of_row _ _ _ _ _ hA3
  have z1 : w3.frozen? ⟨w.heap.size, 1, none⟩ = false := frozen_of_row _ _ _ _ _ hA3
  have z2 : w3.frozen? ⟨w.heap.size, 2, none⟩ = false := frozen_of_row _ _ _ _ _ hA3
  have z3 : w3.frozen? ⟨w.heap.size, 3, none⟩ = false := frozen_of_row _ _ _ _ _ hA3
  clear hA3 hE3 hc3 ht3
  go_wp2_with fail
  have hAs := cells_setCell (o := 3) (v := .int .i64 0) (cells_setCell (o := 2) (v := .slice none 0 0) (cells_setCell (o := 1) (v := .int .i64 0) (cells_setCell (o := 0) (v := .int .i64 0) HA3.out)))
  have hEs := cells_setOther (b := w.heap.size) (o := 3) (v := .int .i64 0) (cells_setOther (b := w.heap.size) (o := 2) (v := .slice none 0 0) (cells_setOther (b := w.heap.size) (o := 1) (v := .int .i64 0) (cells_setOther (b := w.heap.size) (o := 0) (v := .int .i64 0) HE3.out (by omega)) (by omega)) (by omega)) (by omega)
  have hCs := cells_setOther (b := w.heap.size) (o := 3) (v := .int .i64 0) (cells_setOther (b := w.heap.size) (o := 2) (v := .slice none 0 0) (cells_setOther (b := w.heap.size) (o := 1) (v := .int .i64 0) (cells_setOther (b := w.heap.size) (o := 0) (v := .int .i64 0) HC3.out (by omega)) (by omega)) (by omega)) (by omega)
  have hTs := (((HT3.out.setCell (p := ⟨w.heap.size, 0, none⟩) (.inr (Nat.le_refl _)) (.int .i64 0)).setCell (p := ⟨w.heap.size, 1, none⟩) (.inr (Nat.le_refl _)) (.int .i64 0)).setCell (p := ⟨w.heap.size, 2, none⟩) (.inr (Nat.le_refl _)) (.slice none 0 0)).setCell (p := ⟨w.heap.size, 3, none⟩) (.inr (Nat.le_refl _)) (.int .i64 0)
  have HA4 : Hid (Cells ((((w3.setCell ⟨w.heap.size, 0, none⟩ (.int .i64 0)).setCell ⟨w.heap.size, 1, none⟩ (.int .i64 0)).setCell ⟨w.heap.size, 2, none⟩ (.slice none 0 0)).setCell ⟨w.heap.size, 3, none⟩ (.int .i64 0)) w.heap.size 28 #[.int .i64 0, .int .i64 0, .slice none 0 0, .int .i64 0]) := Lib.hid hAs
  have HE4 := Lib.hid hEs
  have HC4 := Lib.hid hCs
  have HT4 := Lib.hid hTs
  clear hAs hEs hCs hTs a0 a1 a2 a3 z0 z1 z2 z3
  generalize (((w3.setCell ⟨w.heap.size, 0, none⟩ (.int .i64 0)).setCell ⟨w.heap.size, 1, none⟩ (.int .i64 0)).setCell ⟨w.heap.size, 2, none⟩ (.slice none 0 0)).setCell ⟨w.heap.size, 3, none⟩ (.int .i64 0) = w4 at HA4 HE4 HC4 HT4 ⊢
  have f0 := cur_0 HC4.out
  have f1 := cur_1 HC4.out
  rw [show ((10 : Nat) : Int) = 10 from rfl] at f1
  go_region_held3 (fun V => V.cell? ⟨p, 0, none⟩ = some (.slice (some ⟨b, off, none⟩) 10 cap) ∧ V.cell? ⟨p, 1, none⟩ = some (.int .i64 10)) (exact ⟨f0, f1⟩) ((go_at_call 23; refine (demand_yes _).mono ?_; rintro e w' ⟨rfl, rfl⟩))
  have hA5 := cells_drew HA4.out
  have hE5 := cells_drew HE4.out
  have HA5 := Lib.hid hA5
  have HE5 := Lib.hid hE5
  have HT5 := Lib.hid HT4.out.drew
  generalize w4.drew = w5 at hA5 hE5 HA5 HE5 HT5 ⊢
  have a0 : w5.cell? ⟨w.heap.size, 0, none⟩ = some (.int .i64 0) := by rw [cell_of_row w5 w.heap.size 0 _ _ _ hA5]; rfl
  have a1 : w5.cell? ⟨w.heap.size, 1, none⟩ = some (.int .i64 0) := by rw [cell_of_row w5 w.heap.size 1 _ _ _ hA5]; rfl
  have a2 : w5.cell? ⟨w.heap.size, 2, none⟩ = some (.slice none 0 0) := by rw [cell_of_row w5 w.heap.size 2 _ _ _ hA5]; rfl
  have a3 : w5.cell? ⟨w.heap.size, 3, none⟩ = some (.int .i64 0) := by rw [cell_of_row w5 w.heap.size 3 _ _ _ hA5]; rfl
  have e0 : w5.cell? ⟨w.heap.size + 1, 0, none⟩ = some (.int .i64 0) := by rw [cell_of_row w5 (w.heap.size + 1) 0 _ _ _ hE5]; rfl
  have z0 : w5.frozen? ⟨w.heap.size, 0, none⟩ = false := frozen_of_row _ _ _ _ _ hA5
  have z1 : w5.frozen? ⟨w.heap.size, 1, none⟩ = false := frozen_of_row _ _ _ _ _ hA5
  have z2 : w5.frozen? ⟨w.heap.size, 2, none⟩ = false := frozen_of_row _ _ _ _ _ hA5
  have z3 : w5.frozen? ⟨w.heap.size, 3, none⟩ = false := frozen_of_row _ _ _ _ _ hA5
  have z4 : w5.frozen? ⟨w.heap.size + 1, 0, none⟩ = false := frozen_of_row _ _ _ _ _ hE5
  clear hA5 hE5
  go_wp2
  refine leaves_cons (f := 22) (args := #[.pointer (some ⟨w.heap.size, 0, none⟩), .pointer (some ⟨w.heap.size + 1, 0, none⟩)]) (by simp) (by simp [go_sem]) ?_
  refine (catch_idle ⟨w.heap.size, 0, none⟩ ⟨w.heap.size + 1, 0, none⟩ _).mono ?_
  rintro e u' w'' ⟨rfl, rfl, rfl⟩
  have hAs := cells_setOther (b := w.heap.size + 1) (o := 0) (v := .int .i64 0) (cells_setCell (o := 3) (v := .int .i64 0) (cells_setCell (o := 2) (v := .slice none 0 0) (cells_setCell (o := 1) (v := .int .i64 0) (cells_setCell (o := 0) (v := .int .i64 0) HA5.out)))) (by omega)
  have hEs := cells_setCell (o := 0) (v := .int .i64 0) (cells_setOther (b := w.heap.size) (o := 3) (v := .int .i64 0) (cells_setOther (b := w.heap.size) (o := 2) (v := .slice none 0 0) (cells_setOther (b := w.heap.size) (o := 1) (v := .int .i64 0) (cells_setOther (b := w.heap.size) (o := 0) (v := .int .i64 0) HE5.out (by omega)) (by omega)) (by omega)) (by omega))
  have hTs := ((((HT5.out.setCell (p := ⟨w.heap.size, 0, none⟩) (.inr (Nat.le_refl _)) (.int .i64 0)).setCell (p := ⟨w.heap.size, 1, none⟩) (.inr (Nat.le_refl _)) (.int .i64 0)).setCell (p := ⟨w.heap.size, 2, none⟩) (.inr (Nat.le_refl _)) (.slice none 0 0)).setCell (p := ⟨w.heap.size, 3, none⟩) (.inr (Nat.le_refl _)) (.int .i64 0)).setCell (p := ⟨w.heap.size + 1, 0, none⟩) (.inr (Nat.le_succ _)) (.int .i64 0)
  rw [← HQ.out]
  exact ⟨_, results_rep rfl rfl rfl hAs hEs, rfl, hTs⟩
end Go.Proofs.YteplapigkofgaaaDoor
