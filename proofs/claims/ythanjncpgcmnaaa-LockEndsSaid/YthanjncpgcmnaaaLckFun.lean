/- Modes: whether they go together, their join. -/
import Derived.Test.YthanjncpgcmnaaaLckMem
namespace Go.Proofs.Ythanjncpgcmnaaa
open Go.ChangeShapes Go.WideShapes Go.ChangeAt Go.RowKit

/-- Is a number a mode? -/
def isM (a : Int) : Bool := decide (1 ≤ a) && decide (a ≤ 4)
def tog (a b : Int) : Bool := isM a && isM b && (decide (a = 1) && decide (b ≤ 3) || decide (b = 1) && decide (a ≤ 3) || decide (a = 2) && decide (b = 2) || decide (a = 3) && decide (b = 3))
def joi (a b : Int) : Int := if isM a = false ∨ isM b = false then 0 else if a + b = 5 then 4 else max a b
theorem isM_iff {a : Int} : isM a = true ↔ 1 ≤ a ∧ a ≤ 4 := by simp [isM]
theorem isM_not {a : Int} : isM a = false ↔ ¬ (1 ≤ a ∧ a ≤ 4) := by rw [← isM_iff]; simp
theorem isM_nat {a : Int} (h : isM a = true) : a = 1 ∨ a = 2 ∨ a = 3 ∨ a = 4 := by rw [isM_iff] at h; omega

theorem isMode_any (a : Int) (w : World) : Calls Try.prog 27 #[.int .i64 a] w fun e w' => e = .returned (.bool (isM a)) ∧ w = w' := by
  have hE : ∀ x, x = isM a ↔ isM a = x := fun x => eq_comm
  by_cases h1 : 1 ≤ a
  · have d1 : decide (1 ≤ a) = true := decide_eq_true h1
    have HM : Hid (decide (a ≤ 4) = isM a) := Lib.hid (by simp [isM, h1])
    clear hE
    go_enter Try.func27, Try.ntmps27
    go_wp2
    go_ret
    exact ⟨ret_bool HM.out, rfl⟩
  · have d1 : decide (1 ≤ a) = false := decide_eq_false h1
    have HM : Hid (false = isM a) := Lib.hid (by simp [isM, h1])
    clear hE
    go_enter Try.func27, Try.ntmps27
    go_wp2
    go_ret
    exact ⟨ret_bool HM.out, rfl⟩
def fitc : Array Value := #[.bool false, .bool false, .bool false, .bool false, .bool false, .bool false, .bool true, .bool true, .bool true, .bool false, .bool false, .bool true, .bool true, .bool false, .bool false, .bool false, .bool true, .bool false, .bool true, .bool false, .bool false, .bool false, .bool false, .bool false, .bool false]
def fit0 : Array Value := #[.bool false, .bool false, .bool false, .bool false, .bool false, .bool false, .bool false, .bool false, .bool false, .bool false, .bool false, .bool false, .bool false, .bool false, .bool false, .bool false, .bool false, .bool false, .bool false, .bool false, .bool false, .bool false, .bool false, .bool false, .bool false]
theorem info55 : (Try.prog.info? 95).map (·.zero) = some (some (.agg fit0)) := by kernel_rfl
theorem size55 : (Try.prog.info? 95).map (·.size) = some fitc.size := by kernel_rfl
theorem size_setRow (w : World) (g : Nat) (cs : Array Value) : (w.setRow g cs).heap.size = w.heap.size := by simp [World.setRow]
theorem below_setRow {W w : World} {B g : Nat} (h : Below B W w) (hg : B ≤ g) (cs : Array Value) : Below B W (w.setRow g cs) :=
  ⟨h.os, h.tape, h.output, by rw [size_setRow]; exact h.size, fun b hb => by
    rw [← h.block b hb, World.setRow, Array.getElem?_modify, if_neg (by omega)]⟩
theorem setRow_heap (w : World) (g : Nat) (old cs : Array Value) (t : TypeId) (fr : Nat × Nat) (hg : w.heap[g]? = some (.cells old t fr)) : (w.setRow g cs).heap[g]? = some (.cells cs t fr) := by
  simp only [World.setRow, Array.getElem?_modify, if_true, hg, Option.map_some]
set_option maxRecDepth 100000 in
set_option maxHeartbeats 1000000 in
theorem fits_any (w : World) : Calls Try.prog 46 #[] w fun e w' => e = .returned (.agg fitc) ∧ Below w.heap.size w w' := by
  obtain ⟨i0, hi, hz⟩ := Option.map_eq_some_iff.1 info55
  have HI := Lib.hid hi; have HZ := Lib.hid hz; have HS := Lib.hid size55
  have HX : Hid (fit0.size = fitc.size) := Lib.hid (by kernel_rfl)
  have HO : Hid (fitc.all (·.oneCell') = true) := Lib.hid (by kernel_rfl)
  clear hi hz
  go_enter Try.func46, Try.ntmps46
  go_wp2_with (first | (refine wpList_alloc_row rfl 95 rfl i0 HI.out fit0 HZ.out ?_) | (refine wpList_store_row rfl 95 (.tmp 0) (.tmp 4) rfl w.heap.size fitc rfl rfl 95 fit0 (cells_new w 95 fit0) HS.out HX.out HO.out ?_))
  have hAs := setRow_heap _ _ fit0 fitc _ _ (cells_new w 95 fit0)
  have hB : Below w.heap.size w ((w.alloc (.cells fit0 95)).setRow w.heap.size fitc) := below_setRow (below_alloc w _) (Nat.le_refl _) _
  generalize (w.alloc (.cells fit0 95)).setRow w.heap.size fitc = W at hAs hB ⊢
  refine bodyPost_ret (results_cell_row rfl _ _ w.heap.size 95 _ (0, 0) _ rfl hAs Try.underlying95 rfl HS.out) rfl ⟨rfl, hB⟩
theorem ix1 (w : World) : (Instr.index 95 (.agg #[.bool false, .bool false, .bool false, .bool false, .bool false, .bool false, .bool true, .bool true, .bool true, .bool false, .bool false, .bool true, .bool true, .bool false, .bool false, .bool false, .bool true, .bool false, .bool true, .bool false, .bool false, .bool false, .bool false, .bool false, .bool false]) (.int .i64 1)).run Try.prog w = .ok (.agg #[.bool false, .bool true, .bool true, .bool true, .bool false]) w := by kernel_rfl
theorem ix2 (w : World) : (Instr.index 95 (.agg #[.bool false, .bool false, .bool false, .bool false, .bool false, .bool false, .bool true, .bool true, .bool true, .bool false, .bool false, .bool true, .bool true, .bool false, .bool false, .bool false, .bool true, .bool false, .bool true, .bool false, .bool false, .bool false, .bool false, .bool false, .bool false]) (.int .i64 2)).run Try.prog w = .ok (.agg #[.bool false, .bool true, .bool true, .bool false, .bool false]) w := by kernel_rfl
theorem ix3 (w : World) : (Instr.index 95 (.agg #[.bool false, .bool false, .bool false, .bool false, .bool false, .bool false, .bool true, .bool true, .bool true, .bool false, .bool false, .bool true, .bool true, .bool false, .bool false, .bool false, .bool true, .bool false, .bool true, .bool false, .bool false, .bool false, .bool false, .bool false, .bool false]) (.int .i64 3)).run Try.prog w = .ok (.agg #[.bool false, .bool true, .bool false, .bool true, .bool false]) w := by kernel_rfl
theorem ix4 (w : World) : (Instr.index 95 (.agg #[.bool false, .bool false, .bool false, .bool false, .bool false, .bool false, .bool true, .bool true, .bool true, .bool false, .bool false, .bool true, .bool true, .bool false, .bool false, .bool false, .bool true, .bool false, .bool true, .bool false, .bool false, .bool false, .bool false, .bool false, .bool false]) (.int .i64 4)).run Try.prog w = .ok (.agg #[.bool false, .bool false, .bool false, .bool false, .bool false]) w := by kernel_rfl
theorem ix11 (w : World) : (Instr.index 94 (.agg #[.bool false, .bool true, .bool true, .bool true, .bool false]) (.int .i64 1)).run Try.prog w = .ok (.bool true) w := by kernel_rfl
theorem ix12 (w : World) : (Instr.index 94 (.agg #[.bool false, .bool true, .bool true, .bool true, .bool false]) (.int .i64 2)).run Try.prog w = .ok (.bool true) w := by kernel_rfl
theorem ix13 (w : World) : (Instr.index 94 (.agg #[.bool false, .bool true, .bool true, .bool true, .bool false]) (.int .i64 3)).run Try.prog w = .ok (.bool true) w := by kernel_rfl
theorem ix14 (w : World) : (Instr.index 94 (.agg #[.bool false, .bool true, .bool true, .bool true, .bool false]) (.int .i64 4)).run Try.prog w = .ok (.bool false) w := by kernel_rfl
theorem ix21 (w : World) : (Instr.index 94 (.agg #[.bool false, .bool true, .bool true, .bool false, .bool false]) (.int .i64 1)).run Try.prog w = .ok (.bool true) w := by kernel_rfl
theorem ix22 (w : World) : (Instr.index 94 (.agg #[.bool false, .bool true, .bool true, .bool false, .bool false]) (.int .i64 2)).run Try.prog w = .ok (.bool true) w := by kernel_rfl
theorem ix23 (w : World) : (Instr.index 94 (.agg #[.bool false, .bool true, .bool true, .bool false, .bool false]) (.int .i64 3)).run Try.prog w = .ok (.bool false) w := by kernel_rfl
theorem ix24 (w : World) : (Instr.index 94 (.agg #[.bool false, .bool true, .bool true, .bool false, .bool false]) (.int .i64 4)).run Try.prog w = .ok (.bool false) w := by kernel_rfl
theorem ix31 (w : World) : (Instr.index 94 (.agg #[.bool false, .bool true, .bool false, .bool true, .bool false]) (.int .i64 1)).run Try.prog w = .ok (.bool true) w := by kernel_rfl
theorem ix32 (w : World) : (Instr.index 94 (.agg #[.bool false, .bool true, .bool false, .bool true, .bool false]) (.int .i64 2)).run Try.prog w = .ok (.bool false) w := by kernel_rfl
theorem ix33 (w : World) : (Instr.index 94 (.agg #[.bool false, .bool true, .bool false, .bool true, .bool false]) (.int .i64 3)).run Try.prog w = .ok (.bool true) w := by kernel_rfl
theorem ix34 (w : World) : (Instr.index 94 (.agg #[.bool false, .bool true, .bool false, .bool true, .bool false]) (.int .i64 4)).run Try.prog w = .ok (.bool false) w := by kernel_rfl
theorem ix41 (w : World) : (Instr.index 94 (.agg #[.bool false, .bool false, .bool false, .bool false, .bool false]) (.int .i64 1)).run Try.prog w = .ok (.bool false) w := by kernel_rfl
theorem ix42 (w : World) : (Instr.index 94 (.agg #[.bool false, .bool false, .bool false, .bool false, .bool false]) (.int .i64 2)).run Try.prog w = .ok (.bool false) w := by kernel_rfl
theorem ix43 (w : World) : (Instr.index 94 (.agg #[.bool false, .bool false, .bool false, .bool false, .bool false]) (.int .i64 3)).run Try.prog w = .ok (.bool false) w := by kernel_rfl
theorem ix44 (w : World) : (Instr.index 94 (.agg #[.bool false, .bool false, .bool false, .bool false, .bool false]) (.int .i64 4)).run Try.prog w = .ok (.bool false) w := by kernel_rfl
theorem tog_no {a b : Int} (h : isM a = false ∨ isM b = false) : tog a b = false := by rcases h with h | h <;> simp [tog, h]
set_option maxRecDepth 100000 in
set_option maxHeartbeats 4000000 in
theorem tog_any (a b : Int) (w : World) : Calls Try.prog 20 #[.int .i64 a, .int .i64 b] w fun e w' => e = .returned (.bool (tog a b)) ∧ Below w.heap.size w w' := by
  have HM := Lib.hid isMode_any
  have HF := Lib.hid fits_any
  by_cases h1 : isM a = true
  · by_cases h2 : isM b = true
    · have Ha := Lib.hid (isM_nat h1); have Hb := Lib.hid (isM_nat h2)
      clear h1 h2
      rcases Ha.out with e | e | e | e <;> rcases Hb.out with e' | e' | e' | e' <;> subst e e'
      all_goals
        have H1 : Hid (isM 1 = true) := Lib.hid (by decide)
        have H2 : Hid (isM 2 = true) := Lib.hid (by decide)
        have H3 : Hid (isM 3 = true) := Lib.hid (by decide)
        have H4 : Hid (isM 4 = true) := Lib.hid (by decide)
        clear Ha Hb
        have r1 := ix1; have r2 := ix2; have r3 := ix3; have r4 := ix4; have r11 := ix11; have r12 := ix12; have r13 := ix13; have r14 := ix14; have r21 := ix21; have r22 := ix22; have r23 := ix23; have r24 := ix24; have r31 := ix31; have r32 := ix32; have r33 := ix33; have r34 := ix34; have r41 := ix41; have r42 := ix42; have r43 := ix43; have r44 := ix44
        go_enter Try.func20, Try.ntmps20
        go_wp2_with (first | (go_at_call 27; refine (HM.out _ _).mono ?_; rintro e w' ⟨rfl, rfl⟩; first | rw [H1.out] | rw [H2.out] | rw [H3.out] | rw [H4.out]) | (go_at_call 46; refine (HF.out _).mono ?_; rintro e w1 ⟨rfl, hb⟩; have HB := Lib.hid hb; clear hb; unfold fitc))
        go_ret
        exact ⟨rfl, HB.out⟩
    · have HN : Hid (tog a b = false) := Lib.hid (tog_no (.inr (by simpa using h2)))
      have H1 := Lib.hid h1
      have H2 : Hid (isM b = false) := Lib.hid (by simpa using h2)
      clear h1 h2
      go_enter Try.func20, Try.ntmps20
      go_wp2_with (go_at_call 27; refine (HM.out _ _).mono ?_; rintro e w' ⟨rfl, rfl⟩; first | rw [H1.out] | rw [H2.out])
      go_ret
      exact ⟨ret_bool HN.out.symm, Below.refl _ _⟩
  · have HN : Hid (tog a b = false) := Lib.hid (tog_no (.inl (by simpa using h1)))
    have H1 : Hid (isM a = false) := Lib.hid (by simpa using h1)
    clear h1
    go_enter Try.func20, Try.ntmps20
    go_wp2_with (go_at_call 27; refine (HM.out _ _).mono ?_; rintro e w' ⟨rfl, rfl⟩; rw [H1.out])
    go_ret
    exact ⟨ret_bool HN.out.symm, Below.refl _ _⟩
end Go.Proofs.Ythanjncpgcmnaaa
