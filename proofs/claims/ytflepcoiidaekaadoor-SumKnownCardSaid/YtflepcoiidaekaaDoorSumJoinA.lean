/- What a matrix makes of a register: a contract. -/
import Derived.Test.YtflepcoiidaekaaDoorSumTell
import Derived.Laws.CopyOwn
namespace Go.Proofs.YtflepcoiidaekaaDoor
open Go.ChangeShapes Go.WideShapes Go.ChangeAt Go.RowKit

/-- What the matrix M makes of r, its first k bits alone. -/
def app (M : List Nat) (r : Nat) : Nat → Nat
  | 0 => 0
  | k + 1 => if r.testBit k then app M r k ^^^ M.getD k 0 else app M r k
theorem getD_lt {M : List Nat} (h : ∀ c ∈ M, c < 4294967296) (k : Nat) : M.getD k 0 < 4294967296 := by
  rw [List.getD_eq_getElem?_getD]
  by_cases hk : k < M.length
  · rw [List.getElem?_eq_getElem hk]; exact h _ (List.getElem_mem _)
  · rw [List.getElem?_eq_none (by omega)]; decide
theorem app_lt {M : List Nat} (h : ∀ c ∈ M, c < 4294967296) (r : Nat) : ∀ k, app M r k < 4294967296 := by
  intro k
  induction k with
  | zero => rw [app]; decide
  | succ k ih =>
    rw [app]
    split
    · exact xor_lt' ih (getD_lt h k)
    · exact ih
/-- A matrix in memory. -/
def MatAt (w : World) (b : Nat) (M : List Nat) : Prop := (∀ c ∈ M, c < 4294967296) ∧ ∀ j, j < 32 → w.cell? ⟨b, j, none⟩ = some (.int .u32 ((M.getD j 0 : Nat) : Int))

set_option maxHeartbeats 1000000 in
theorem apply_any (b : Nat) (M : List Nat) (r : Nat) (w : World) (hM : MatAt w b M) (hr : r < 4294967296) :
    Calls Tryd.prog 16 #[.pointer (some ⟨b, 0, none⟩), .int .u32 (r : Int)] w fun e w' => e = .returned (.int .u32 ((app M r 32 : Nat) : Int)) ∧ w = w' := by
  have HM := Lib.hid hM; clear hM
  go_enter Tryd.func16, Tryd.ntmps16
  go_wp2
  go_loop [5, 6, 7] (fun o _ i => ∃ (x k : Nat), k ≤ 32 ∧ i = .int .i64 k ∧ o = .int .u32 x ∧ x < 4294967296 ∧ Hid (x = app M r k)) (fun _ _ i => (32 - (intOf i)).toNat)
  case atStart => exact ⟨0, 0, by omega, rfl, rfl, by decide, Lib.hid rfl⟩
  case round =>
    obtain ⟨x, k, hk, rfl, rfl, hx, HX⟩ := hrel
    by_cases hlt : k < 32
    · by_cases hbt : r.testBit k = true
      · have e1 := bit_yes hr hbt
        have hc := HM.out.2 k hlt
        obtain ⟨d, hd⟩ : ∃ d, d = M.getD k 0 := ⟨_, rfl⟩
        have hdl : d < 4294967296 := by rw [hd]; exact getD_lt HM.out.1 k
        rw [← hd] at hc
        have e2 := x32 hx hdl
        obtain ⟨y, hy⟩ : ∃ y, y = x ^^^ d := ⟨_, rfl⟩
        rw [← hy] at e2
        have hyl : y < 4294967296 := by rw [hy]; exact xor_lt' hx hdl
        have HN : Hid (y = app M r (k + 1)) := Lib.hid (by rw [app, if_pos hbt, ← HX.out, ← hd, hy])
        have HBT := Lib.hid hbt
        clear hy hd hbt
        go_wp2
        go_round
        case rel => exact ⟨y, k + 1, by omega, by go_num, rfl, hyl, HN⟩
        case measure => simp [intOf]; omega
      · have e1 := bit_no hr hbt
        have HN : Hid (x = app M r (k + 1)) := Lib.hid (by rw [app, if_neg hbt, ← HX.out])
        have HBT := Lib.hid hbt
        clear hbt
        go_wp2
        go_round
        case rel => exact ⟨x, k + 1, by omega, by go_num, rfl, hx, HN⟩
        case measure => simp [intOf]; omega
    · obtain rfl : k = 32 := by omega
      go_wp2
      go_ret
      exact ⟨ret_int (by rw [HX.out]), rfl⟩

/-- Numbers as cells. -/
def u32s (l : List Nat) : List Value := l.map fun z : Nat => Value.int .u32 (z : Int)
theorem u32s_length (l : List Nat) : (u32s l).length = l.length := by simp [u32s]
theorem u32s_one (l : List Nat) : (u32s l).toArray.all (·.oneCell') = true := by
  rw [Array.all_eq_true_iff_forall_mem]
  intro u hu
  simp only [u32s, List.mem_toArray, List.mem_map] at hu
  obtain ⟨z, _, rfl⟩ := hu
  rfl
theorem u32s_set (l : List Nat) (j c : Nat) : (u32s (l.set j c)).toArray = (u32s l).toArray.setIfInBounds j (.int .u32 (c : Int)) := by
  simp [u32s, List.map_set]
/-- A block of cells that is known whole. -/
def RowIs (w : World) (g : Nat) (l : List Nat) : Prop := w.heap[g]? = some (.cells (u32s l).toArray 41 (0, 0))
theorem row_mat {w : World} {g : Nat} {l : List Nat} (h : RowIs w g l) (hl : l.length = 32) (hz : ∀ c ∈ l, c < 4294967296) : MatAt w g l :=
  ⟨hz, fun j hj => by
    rw [cell_of_row w g j _ _ _ h]
    simp [u32s, List.getD, hl, hj]⟩
theorem row_has {w : World} {g j : Nat} {l : List Nat} (h : RowIs w g l) (hj : j < l.length) : ∃ v, w.cell? ⟨g, j, none⟩ = some v :=
  ⟨.int .u32 (l[j] : Int), by rw [cell_of_row w g j _ _ _ h]; simp [u32s, hj]⟩
theorem row_set {w : World} {g j c : Nat} {l : List Nat} (h : RowIs w g l) : RowIs (w.setCell ⟨g, j, none⟩ (.int .u32 (c : Int))) g (l.set j c) := by
  unfold RowIs
  rw [u32s_set]
  exact heap_setCell_same w g j _ _ _ h
theorem row_other {w : World} {g b j : Nat} {l : List Nat} {v : Value} (h : RowIs w g l) (hb : g ≠ b) : RowIs (w.setCell ⟨b, j, none⟩ v) g l := by
  unfold RowIs
  rw [heap_setCell_other w _ g v hb]
  exact h
theorem mat_below {w w' : World} {b : Nat} {M : List Nat} (h : MatAt w b M) (hb : Below w.heap.size w w') : MatAt w' b M :=
  ⟨h.1, fun j hj => (hb.cell (World.block_lt_of_cell? w _ (h.2 j hj))).trans (h.2 j hj)⟩
/-- The square. -/
def sq (M : List Nat) (k : Nat) : List Nat := (List.range 32).map fun i => if i < k then app M (M.getD i 0) 32 else 0
theorem sq_length (M : List Nat) (k : Nat) : (sq M k).length = 32 := by simp [sq]
theorem sq_lt {M : List Nat} (h : ∀ c ∈ M, c < 4294967296) (k : Nat) : ∀ c ∈ sq M k, c < 4294967296 := by
  intro c hc
  simp only [sq, List.mem_map] at hc
  obtain ⟨i, _, rfl⟩ := hc
  split
  · exact app_lt h _ _
  · decide
theorem sq_step (M : List Nat) (k : Nat) : (sq M k).set k (app M (M.getD k 0) 32) = sq M (k + 1) := by
  apply List.ext_getElem?
  intro j
  rw [List.getElem?_set, sq_length]
  by_cases h : k = j
  · subst h
    rw [if_pos rfl]
    by_cases hk : k < 32
    · rw [if_pos hk]; simp [sq, hk]
    · rw [if_neg hk, List.getElem?_eq_none (by rw [sq_length]; omega)]
  · rw [if_neg h]
    by_cases hj : j < 32
    · simp only [sq, List.getElem?_map, List.getElem?_range hj, Option.map_some]
      by_cases h1 : j < k
      · rw [if_pos h1, if_pos (by omega)]
      · rw [if_neg h1, if_neg (by omega)]
    · rw [List.getElem?_eq_none (by rw [sq_length]; omega), List.getElem?_eq_none (by rw [sq_length]; omega)]
/-- What an answer that is a matrix says. -/
def MatOut (w : World) (l : List Nat) (e : Ending) (w' : World) : Prop := e = .returned (.agg (u32s l).toArray) ∧ Below w.heap.size w w'

theorem info41 : (Tryd.prog.info? 41).map (·.size) = some 32 := by kernel_rfl

set_option maxHeartbeats 1000000 in
theorem squared_any (b : Nat) (M : List Nat) (w : World) (hM : MatAt w b M) :
    Calls Tryd.prog 17 #[.pointer (some ⟨b, 0, none⟩)] w (MatOut w (sq M 32)) := by
  have HM := Lib.hid hM; clear hM
  obtain ⟨B, hB⟩ : ∃ B, B = w.heap.size := ⟨_, rfl⟩
  go_enter Tryd.func17, Tryd.ntmps17
  go_wp2
  rw [← hB]
  go_loopw [4, 5, 7] (fun _ _ i wr => ∃ k : Nat, k ≤ 32 ∧ i = .int .i64 k ∧ Hid (RowIs wr (B + 1) (sq M k)) ∧ Hid (RowIs wr B (sq M 0)) ∧ Hid (Below B w wr)) (fun _ _ i _ => (32 - (intOf i)).toNat)
  case atStart => 
    subst hB
    refine ⟨0, by omega, rfl, Lib.hid ?_, Lib.hid ?_, Lib.hid (((Below.refl _ _).alloc (Nat.le_refl _) _).alloc (by simp) _)⟩
    · exact heap_alloc2_new w _ _
    · exact heap_alloc2_old w _ _
  case round =>
    obtain ⟨k, hk, rfl, HR, HR0, HBr⟩ := hrel
    have HBs := Lib.hid hB; clear hB
    by_cases hlt : k < 32
    · have hMr : MatAt wr b M := mat_below HM.out (by have := HBr.out; rwa [HBs.out] at this)
      have HMr : Hid (∀ n, MatAt (wr.drewN n) b M) := Lib.hid (fun n => mat_below hMr (below_drewN (Below.refl _ _) n))
      have hc := hMr.2 k hlt
      obtain ⟨d, hd⟩ : ∃ d, d = M.getD k 0 := ⟨_, rfl⟩
      have hdl : d < 4294967296 := by rw [hd]; exact getD_lt HM.out.1 k
      rw [← hd] at hc
      have HD := Lib.hid hd; clear hd hMr
      go_wp2
      have HRn : Hid (∀ n, RowIs (wr.drewN n) (B + 1) (sq M k)) := Lib.hid (fun n => HR.out)
      have HRc : Hid (∀ n, ∃ v, (wr.drewN n).cell? ⟨B + 1, k, none⟩ = some v) := Lib.hid (fun n => row_has (HRn.out n) (by rw [sq_length]; exact hlt))
      go_quiet (fail)
      go_wp2_with (go_at_call 16; refine (apply_any b M d _ (HMr.out _) hdl).mono ?_; rintro e w' ⟨rfl, rfl⟩; obtain ⟨vo, hold⟩ := HRc.out nq; have hfz := frozen_of_row _ (B + 1) k _ _ (HRn.out nq))
      go_roundw
      case rel =>
        refine ⟨k + 1, by omega, by go_num, Lib.hid ?_, Lib.hid (row_other (show RowIs (wr.drewN nq) B (sq M 0) from HR0.out) (by omega)), Lib.hid ((below_drewN HBr.out nq).setCell (by simp) _)⟩
        have := row_set (j := k) (c := app M d 32) (HRn.out nq)
        rwa [HD.out, sq_step, ← HD.out] at this
      case measure => simp [intOf]; omega
    · obtain rfl : k = 32 := by omega
      have HBs' := HBs.out
      have hE : ∀ w', w' = wr.setRow B (u32s (sq M 32)).toArray → MatOut w (sq M 32) (.returned (.agg (u32s (sq M 32)).toArray)) w' := by
        rintro w' rfl
        refine ⟨rfl, ?_⟩
        have h1 := HBr.out
        rw [HBs.out] at h1 ⊢
        exact below_setRow h1 (Nat.le_refl _) _
      have HE := Lib.hid hE
      have HS : Hid ((Tryd.prog.info? 41).map (·.size) = some (u32s (sq M 32)).toArray.size) := Lib.hid (by rw [info41]; simp [u32s, sq])
      have HS0 : Hid ((u32s (sq M 0)).toArray.size = (u32s (sq M 32)).toArray.size) := Lib.hid (by simp [u32s, sq])
      clear hE HBs'
      go_wp2_with (first | (refine wpList_load_row rfl 41 _ rfl (B + 1) rfl 41 _ (0, 0) _ HR.out Tryd.underlying41 rfl HS.out ?_) | (refine wpList_store_row rfl 41 _ _ rfl B _ rfl rfl 41 _ HR0.out HS.out HS0.out (u32s_one _) ?_))
      exact bodyPost_ret (v := .agg (u32s (sq M 32)).toArray) (results_cell_row Tryd.results17 _ _ B 41 _ (0, 0) _ rfl (setRow_heap _ _ _ _ _ _ HR0.out) Tryd.underlying41 rfl HS.out) rfl (HE.out _ rfl)
end Go.Proofs.YtflepcoiidaekaaDoor
