/- The matrix of one byte; the joining of sums: contracts. -/
import Derived.Test.YtflepcoiidaekaaDoorSumJoinA
namespace Go.Proofs.YtflepcoiidaekaaDoor
open Go.ChangeShapes Go.WideShapes Go.ChangeAt Go.RowKit

theorem row_below {w w' : World} {g : Nat} {l : List Nat} (h : RowIs w g l) (hb : Below w.heap.size w w') : RowIs w' g l := by
  unfold RowIs
  rw [hb.block g (Array.getElem?_eq_some_iff.1 h).1]
  exact h
theorem row_lt' {w : World} {g : Nat} {l : List Nat} (h : RowIs w g l) : g < w.heap.size := (Array.getElem?_eq_some_iff.1 h).1
theorem row_setRow {w : World} {g : Nat} {l m : List Nat} (h : RowIs w g l) : RowIs (w.setRow g (u32s m).toArray) g m := setRow_heap _ _ _ _ _ _ h
theorem row_setRow_other {w : World} {g b : Nat} {l m : List Nat} (h : RowIs w g l) (hb : b ≠ g) : RowIs (w.setRow b (u32s m).toArray) g l := by
  unfold RowIs
  rw [setRow_other w b g _ (Ne.symm hb)]
  exact h
/-- One bit's matrix, its first k columns. -/
def one (k : Nat) : List Nat := (List.range 32).map fun i => if i = 0 then 3988292384 else if i < k then 2 ^ (i - 1) else 0
theorem one_length (k : Nat) : (one k).length = 32 := by simp [one]
theorem one_lt (k : Nat) : ∀ c ∈ one k, c < 4294967296 := by
  intro c hc
  simp only [one, List.mem_map, List.mem_range] at hc
  obtain ⟨i, hi, rfl⟩ := hc
  split
  · decide
  · split
    · exact Nat.pow_lt_pow_right (n := 32) (by omega) (by omega)
    · decide
theorem one_step (j : Nat) (hj : j + 1 < 32) : (one (j + 1)).set (j + 1) (2 ^ j) = one (j + 2) := by
  apply List.ext_getElem?
  intro i
  rw [List.getElem?_set, one_length]
  by_cases h : j + 1 = i
  · subst h
    rw [if_pos rfl, if_pos hj]
    simp [one, hj]
  · rw [if_neg h]
    by_cases hi : i < 32
    · simp only [one, List.getElem?_map, List.getElem?_range hi, Option.map_some]
      by_cases h0 : i = 0
      · rw [if_pos h0, if_pos h0]
      · rw [if_neg h0, if_neg h0]
        by_cases h1 : i < j + 1
        · rw [if_pos h1, if_pos (by omega)]
        · rw [if_neg h1, if_neg (by omega)]
    · rw [List.getElem?_eq_none (by rw [one_length]; omega), List.getElem?_eq_none (by rw [one_length]; omega)]
/-- Squared so many times. -/
def sqn (M : List Nat) : Nat → List Nat
  | 0 => M
  | k + 1 => sq (sqn M k) 32
theorem sqn_length {M : List Nat} (h : M.length = 32) : ∀ k, (sqn M k).length = 32
  | 0 => h
  | _ + 1 => sq_length _ _
theorem sqn_lt {M : List Nat} (h : ∀ c ∈ M, c < 4294967296) : ∀ k, ∀ c ∈ sqn M k, c < 4294967296
  | 0 => h
  | k + 1 => sq_lt (sqn_lt h k) 32
theorem shl_val (j : Nat) (hj : j < 32) : (2 : Int) ^ j % 4294967296 = ((2 ^ j : Nat) : Int) := by
  have h2 : 2 ^ j < 2 ^ 32 := Nat.pow_lt_pow_right (by omega) hj
  rw [show (2 : Int) ^ j = ((2 ^ j : Nat) : Int) from (Int.natCast_pow 2 j).symm]
  obtain ⟨z, hz⟩ : ∃ z, z = 2 ^ j := ⟨_, rfl⟩
  rw [← hz] at h2 ⊢
  omega
theorem size_u32s {l : List Nat} (h : l.length = 32) : (Tryd.prog.info? 41).map (·.size) = some (u32s l).toArray.size := by rw [info41]; simp [u32s, h]
theorem size_same {l m : List Nat} (h : l.length = 32) (h' : m.length = 32) : (u32s l).toArray.size = (u32s m).toArray.size := by simp [u32s, h, h']

theorem zero_row : (u32s (List.replicate 32 0)).toArray = (#[Value.int IntKind.u32 0, Value.int IntKind.u32 0, Value.int IntKind.u32 0, Value.int IntKind.u32 0, Value.int IntKind.u32 0, Value.int IntKind.u32 0, Value.int IntKind.u32 0, Value.int IntKind.u32 0, Value.int IntKind.u32 0, Value.int IntKind.u32 0, Value.int IntKind.u32 0, Value.int IntKind.u32 0, Value.int IntKind.u32 0, Value.int IntKind.u32 0, Value.int IntKind.u32 0, Value.int IntKind.u32 0, Value.int IntKind.u32 0, Value.int IntKind.u32 0, Value.int IntKind.u32 0, Value.int IntKind.u32 0, Value.int IntKind.u32 0, Value.int IntKind.u32 0, Value.int IntKind.u32 0, Value.int IntKind.u32 0, Value.int IntKind.u32 0, Value.int IntKind.u32 0, Value.int IntKind.u32 0, Value.int IntKind.u32 0, Value.int IntKind.u32 0, Value.int IntKind.u32 0, Value.int IntKind.u32 0, Value.int IntKind.u32 0] : Array Value) := by rfl
theorem one_row : (u32s (one 1)).toArray = (#[Value.int IntKind.u32 3988292384, Value.int IntKind.u32 0, Value.int IntKind.u32 0, Value.int IntKind.u32 0, Value.int IntKind.u32 0, Value.int IntKind.u32 0, Value.int IntKind.u32 0, Value.int IntKind.u32 0, Value.int IntKind.u32 0, Value.int IntKind.u32 0, Value.int IntKind.u32 0, Value.int IntKind.u32 0, Value.int IntKind.u32 0, Value.int IntKind.u32 0, Value.int IntKind.u32 0, Value.int IntKind.u32 0, Value.int IntKind.u32 0, Value.int IntKind.u32 0, Value.int IntKind.u32 0, Value.int IntKind.u32 0, Value.int IntKind.u32 0, Value.int IntKind.u32 0, Value.int IntKind.u32 0, Value.int IntKind.u32 0, Value.int IntKind.u32 0, Value.int IntKind.u32 0, Value.int IntKind.u32 0, Value.int IntKind.u32 0, Value.int IntKind.u32 0, Value.int IntKind.u32 0, Value.int IntKind.u32 0, Value.int IntKind.u32 0] : Array Value) := by rfl
/-- Two rows of noughts. -/
noncomputable def two (w : World) : World := (w.alloc (.cells (u32s (List.replicate 32 0)).toArray 41)).alloc (.cells (u32s (List.replicate 32 0)).toArray 41)
theorem two_eq (w : World) : two w = ((w.alloc (.cells #[Value.int IntKind.u32 0, Value.int IntKind.u32 0, Value.int IntKind.u32 0, Value.int IntKind.u32 0, Value.int IntKind.u32 0, Value.int IntKind.u32 0, Value.int IntKind.u32 0, Value.int IntKind.u32 0, Value.int IntKind.u32 0, Value.int IntKind.u32 0, Value.int IntKind.u32 0, Value.int IntKind.u32 0, Value.int IntKind.u32 0, Value.int IntKind.u32 0, Value.int IntKind.u32 0, Value.int IntKind.u32 0, Value.int IntKind.u32 0, Value.int IntKind.u32 0, Value.int IntKind.u32 0, Value.int IntKind.u32 0, Value.int IntKind.u32 0, Value.int IntKind.u32 0, Value.int IntKind.u32 0, Value.int IntKind.u32 0, Value.int IntKind.u32 0, Value.int IntKind.u32 0, Value.int IntKind.u32 0, Value.int IntKind.u32 0, Value.int IntKind.u32 0, Value.int IntKind.u32 0, Value.int IntKind.u32 0, Value.int IntKind.u32 0] 41)).alloc (.cells #[Value.int IntKind.u32 0, Value.int IntKind.u32 0, Value.int IntKind.u32 0, Value.int IntKind.u32 0, Value.int IntKind.u32 0, Value.int IntKind.u32 0, Value.int IntKind.u32 0, Value.int IntKind.u32 0, Value.int IntKind.u32 0, Value.int IntKind.u32 0, Value.int IntKind.u32 0, Value.int IntKind.u32 0, Value.int IntKind.u32 0, Value.int IntKind.u32 0, Value.int IntKind.u32 0, Value.int IntKind.u32 0, Value.int IntKind.u32 0, Value.int IntKind.u32 0, Value.int IntKind.u32 0, Value.int IntKind.u32 0, Value.int IntKind.u32 0, Value.int IntKind.u32 0, Value.int IntKind.u32 0, Value.int IntKind.u32 0, Value.int IntKind.u32 0, Value.int IntKind.u32 0, Value.int IntKind.u32 0, Value.int IntKind.u32 0, Value.int IntKind.u32 0, Value.int IntKind.u32 0, Value.int IntKind.u32 0, Value.int IntKind.u32 0] 41)) := rfl
theorem two_hi (w : World) : RowIs (two w) (w.heap.size + 1) (List.replicate 32 0) := heap_alloc2_new w _ _
theorem two_lo (w : World) : RowIs (two w) w.heap.size (List.replicate 32 0) := heap_alloc2_old w _ _
theorem two_below (w : World) : Below w.heap.size w (two w) := ((Below.refl _ _).alloc (Nat.le_refl _) _).alloc (by simp) _

set_option maxHeartbeats 1000000 in
theorem oneByte_any (w : World) : Calls Tryd.prog 15 #[] w (MatOut w (sqn (one 32) 3)) := by
  have H0 := Lib.hid (two_hi w)
  have HS : Hid ((Tryd.prog.info? 41).map (·.size) = some (u32s (one 1)).toArray.size) := Lib.hid (size_u32s (one_length 1))
  have HS0 : Hid ((u32s (List.replicate 32 0)).toArray.size = (u32s (one 1)).toArray.size) := Lib.hid (size_same (by simp) (one_length 1))
  go_enter Tryd.func15, Tryd.ntmps15
  go_wp2_with (refine wpList_store_row rfl 41 (.tmp 1) (.tmp 3) rfl (w.heap.size + 1) (u32s (one 1)).toArray rfl rfl 41 _ H0.out HS.out HS0.out (u32s_one _) ?_)
  have HA : Hid (RowIs ((two w).setRow (w.heap.size + 1) (u32s (one 1)).toArray) (w.heap.size + 1) (one 1) ∧ RowIs ((two w).setRow (w.heap.size + 1) (u32s (one 1)).toArray) w.heap.size (List.replicate 32 0) ∧ Below w.heap.size w ((two w).setRow (w.heap.size + 1) (u32s (one 1)).toArray)) :=
    Lib.hid ⟨row_setRow (two_hi w), row_setRow_other (two_lo w) (by omega), below_setRow (two_below w) (by omega) _⟩
  obtain ⟨B, hB⟩ : ∃ B, B = w.heap.size := ⟨_, rfl⟩
  obtain ⟨B1, hB1⟩ : ∃ B1, B1 = w.heap.size + 1 := ⟨_, rfl⟩
  have HBs : Hid (B = w.heap.size ∧ B1 = B + 1) := Lib.hid ⟨hB, by omega⟩
  go_loopw [2] (fun i wr => ∃ k : Nat, 1 ≤ k ∧ k ≤ 32 ∧ i = .int .i64 k ∧ Hid (RowIs wr B1 (one k)) ∧ Hid (RowIs wr B (List.replicate 32 0)) ∧ Hid (Below B w wr)) (fun i _ => (32 - (intOf i)).toNat)
  case atStart =>
    obtain ⟨h1, h2, h3⟩ := HA.out
    subst hB hB1
    exact ⟨1, by omega, by omega, rfl, Lib.hid h1, Lib.hid h2, Lib.hid h3⟩
  case round =>
    obtain ⟨k, hk1, hk, rfl, HR, HR0, HBr⟩ := hrel
    rw [← hB1, ← hB]
    clear hB hB1
    by_cases hlt : k < 32
    · obtain ⟨j, rfl⟩ : ∃ j, k = j + 1 := ⟨k - 1, by omega⟩
      obtain ⟨vo, hold⟩ := row_has (j := j + 1) HR.out (by rw [one_length]; exact hlt)
      have hfz := frozen_of_row _ B1 (j + 1) _ _ HR.out
      have HV := Lib.hid (shl_val j (by omega))
      have ej : (((j + 1 : Nat) : Int)) = (j : Int) + 1 := by omega
      rw [ej]
      clear ej
      go_wp2
      go_roundw
      case rel =>
        refine ⟨j + 2, by omega, by omega, by go_num, Lib.hid ?_, Lib.hid (row_other HR0.out (by have := HBs.out; omega)), Lib.hid (HBr.out.setCell (by have := HBs.out; show B ≤ B1; omega) _)⟩
        have := row_set (j := j + 1) (c := 2 ^ j) HR.out
        rw [one_step j hlt] at this
        first | (rw [HV.out]; exact this) | exact this
      case measure => simp [intOf]; omega
    · obtain rfl : k = 32 := by omega
      have e32 : ((32 : Nat) : Int) = 32 := rfl
      rw [e32]
      clear e32
      go_wp2
      go_loopw [13] (fun i wr => ∃ k : Nat, k ≤ 3 ∧ i = .int .i64 k ∧ Hid (RowIs wr B1 (sqn (one 32) k)) ∧ Hid (RowIs wr B (List.replicate 32 0)) ∧ Hid (Below B w wr)) (fun i _ => (3 - (intOf i)).toNat)
      case atStart => exact ⟨0, by omega, rfl, HR, HR0, HBr⟩
      case round =>
        obtain ⟨k, hk, rfl, HR, HR0, HBr⟩ := hrel
        by_cases hlt : k < 3
        · have HSQ : Hid (Calls Tryd.prog 17 #[.pointer (some ⟨B1, 0, none⟩)] wr (MatOut wr (sq (sqn (one 32) k) 32))) := Lib.hid (squared_any B1 _ wr (row_mat HR.out (sqn_length (one_length 32) k) (sqn_lt (one_lt 32) k)))
          have HSZ := Lib.hid (size_u32s (sq_length (sqn (one 32) k) 32))
          have HSS := Lib.hid (size_same (sqn_length (one_length 32) k) (sq_length (sqn (one 32) k) 32))
          go_wp2_with (first | (go_at_call 17; refine HSQ.out.mono ?_; rintro e w2 ⟨rfl, hb2⟩; have HR2 := Lib.hid (row_below HR.out hb2); have HR02 := Lib.hid (row_below HR0.out hb2); have HB2 := Lib.hid hb2; clear hb2) | (refine wpList_store_row rfl 41 (.tmp 1) (.tmp 15) rfl B1 _ rfl rfl 41 _ HR2.out HSZ.out HSS.out (u32s_one _) ?_))
          go_roundw
          case rel =>
            refine ⟨k + 1, by omega, by go_num, Lib.hid (row_setRow HR2.out), Lib.hid (row_setRow_other HR02.out (by have := HBs.out; omega)), Lib.hid (below_setRow (HBr.out.trans (HB2.out.mono ?_)) (by have := HBs.out; omega) _)⟩
            have := HBr.out.size; have := HBs.out; omega
          case measure => simp [intOf]; omega
        · obtain rfl : k = 3 := by omega
          have HS3 := Lib.hid (size_u32s (sqn_length (one_length 32) 3))
          have HS4 : Hid ((u32s (List.replicate 32 0)).toArray.size = (u32s (sqn (one 32) 3)).toArray.size) := Lib.hid (size_same (by simp) (sqn_length (one_length 32) 3))
          have HE : Hid (∀ w', w' = wr.setRow B (u32s (sqn (one 32) 3)).toArray → MatOut w (sqn (one 32) 3) (.returned (.agg (u32s (sqn (one 32) 3)).toArray)) w') := by
            refine Lib.hid ?_
            rintro w' rfl
            refine ⟨rfl, ?_⟩
            have := below_setRow HBr.out (Nat.le_refl B) (u32s (sqn (one 32) 3)).toArray
            rwa [HBs.out.1] at this ⊢
          go_wp2_with (first | (refine wpList_load_row rfl 41 (.tmp 1) rfl B1 rfl 41 _ (0, 0) _ HR.out Tryd.underlying41 rfl HS3.out ?_) | (refine wpList_store_row rfl 41 (.tmp 0) (.tmp 17) rfl B _ rfl rfl 41 _ HR0.out HS3.out HS4.out (u32s_one _) ?_))
          exact bodyPost_ret (v := .agg (u32s (sqn (one 32) 3)).toArray) (results_cell_row Tryd.results15 _ _ B 41 _ (0, 0) _ rfl (setRow_heap _ _ _ _ _ _ HR0.out) Tryd.underlying41 rfl HS3.out) rfl (HE.out _ rfl)

/-- Join's way: the powers of two bit by bit. -/
def joined (M : List Nat) (a n : Nat) : Nat → Nat
  | 0 => a
  | f + 1 => if n = 0 then a else joined (sq M 32) (if n % 2 = 1 then app M a 32 else a) (n / 2) f
/-- A row of noughts that has just been laid. -/
theorem new_row (w : World) : RowIs (w.alloc (.cells (u32s (List.replicate 32 0)).toArray 41)) w.heap.size (List.replicate 32 0) := heap_alloc_new w _

theorem new_row' (w : World) (g : Nat) (cs : Array Value) : RowIs ((w.setRow g cs).alloc (.cells (u32s (List.replicate 32 0)).toArray 41)) w.heap.size (List.replicate 32 0) := by
  have := new_row (w.setRow g cs)
  rwa [size_setRow] at this
theorem odd_val {n : Nat} (hn : n ≤ 1073741824) : bits .and .i64 (n : Int) 1 = ((n % 2 : Nat) : Int) := by
  show IntKind.i64.wrap ((BitVec.ofInt 64 (n : Int) &&& BitVec.ofInt 64 1).toNat : Int) = _
  have h1 : (BitVec.ofInt 64 (1 : Int)).toNat = 1 := by decide
  rw [BitVec.toNat_and, ofInt_u64 n (by omega), h1, Nat.and_one_is_mod]
  rcases Nat.mod_two_eq_zero_or_one n with h | h
  · rw [h]; decide
  · rw [h]; decide
theorem odd_yes {n : Nat} (hn : n ≤ 1073741824) (h : n % 2 = 1) : (bits .and .i64 (n : Int) 1 == 1) = true := by rw [odd_val hn, h]; rfl
theorem odd_no {n : Nat} (hn : n ≤ 1073741824) (h : ¬ n % 2 = 1) : (bits .and .i64 (n : Int) 1 == 1) = false := by
  rw [odd_val hn, show n % 2 = 0 from by omega]; rfl
/-- What the loop of Join keeps. -/
def Joins (R : Nat) (M : List Nat) (a n : Nat) : Prop := M.length = 32 ∧ (∀ c ∈ M, c < 4294967296) ∧ ∃ F, n ≤ F ∧ joined M a n F = R
theorem joins_step {R : Nat} {M : List Nat} {a n : Nat} (h : Joins R M a n) (hn : 0 < n) : Joins R (sq M 32) (if n % 2 = 1 then app M a 32 else a) (n / 2) := by
  obtain ⟨h1, h2, F, hF, h3⟩ := h
  obtain ⟨F', rfl⟩ : ∃ F', F = F' + 1 := ⟨F - 1, by omega⟩
  rw [joined, if_neg (by omega)] at h3
  exact ⟨sq_length _ _, sq_lt h2 _, F', by omega, h3⟩
theorem joins_end {R : Nat} {M : List Nat} {a : Nat} (h : Joins R M a 0) : a = R := by
  obtain ⟨_, _, F, _, h3⟩ := h
  cases F with
  | zero => exact h3
  | succ F => rw [joined, if_pos rfl] at h3; exact h3

set_option maxHeartbeats 2000000 in
theorem join_any (a b n : Nat) (ha : a < 4294967296) (hb : b < 4294967296) (hn : n ≤ 1073741824) (w : World) :
    Calls Tryd.prog 7 #[.int .u32 (a : Int), .int .u32 (b : Int), .int .i64 (n : Int)] w fun e w' => e = .returned (.tuple #[.int .u32 ((joined (sqn (one 32) 3) a n n ^^^ b : Nat) : Int), .int .i64 0]) ∧ Below w.heap.size w w' := by
  have HO := Lib.hid (oneByte_any w)
  have hM0 : (sqn (one 32) 3).length = 32 := sqn_length (one_length 32) 3
  have HSZ := Lib.hid (size_u32s hM0)
  have HSS : Hid ((u32s (List.replicate 32 0)).toArray.size = (u32s (sqn (one 32) 3)).toArray.size) := Lib.hid (size_same (by simp) hM0)
  obtain ⟨R, hR⟩ : ∃ R, R = joined (sqn (one 32) 3) a n n := ⟨_, rfl⟩
  have HJ : Hid (Joins R (sqn (one 32) 3) a n) := Lib.hid ⟨hM0, sqn_lt (one_lt 32) 3, n, Nat.le_refl _, hR.symm⟩
  rw [← hR]
  clear hM0 hR
  obtain ⟨M0, hM⟩ : ∃ M0, M0 = sqn (one 32) 3 := ⟨_, rfl⟩
  rw [← hM] at HO HSZ HSS HJ
  clear hM
  go_enter Tryd.func7, Tryd.ntmps7
  go_wp2_with (first | (go_at_call 15; refine HO.out.mono ?_; rintro e w1 ⟨rfl, hb1⟩; have HB1 := Lib.hid hb1; clear hb1) | (refine wpList_store_row rfl 41 (.tmp 8) (.tmp 15) rfl w1.heap.size _ rfl rfl 41 _ (new_row w1) HSZ.out HSS.out (u32s_one _) ?_))
  go_frame
  have HA : Hid (RowIs ((w1.alloc (.cells (u32s (List.replicate 32 0)).toArray 41)).setRow w1.heap.size (u32s M0).toArray) w1.heap.size M0 ∧ Below w.heap.size w ((w1.alloc (.cells (u32s (List.replicate 32 0)).toArray 41)).setRow w1.heap.size (u32s M0).toArray)) :=
    Lib.hid ⟨row_setRow (new_row w1), below_setRow (HB1.out.alloc HB1.out.size _) HB1.out.size _⟩
  go_loopw [0, 2, 8] (fun x i m wr => ∃ (a' n' g : Nat) (M : List Nat), n' ≤ 1073741824 ∧ a' < 4294967296 ∧ x = .int .u32 a' ∧ i = .int .i64 n' ∧ m = .pointer (some ⟨g, 0, none⟩) ∧ Hid (RowIs wr g M) ∧ Hid (Joins R M a' n') ∧ Hid (Below w.heap.size w wr) ∧ Hid (w.heap.size ≤ g)) (fun _ i _ _ => (intOf i).toNat)
  case atStart => exact ⟨a, n, _, M0, hn, ha, rfl, rfl, rfl, Lib.hid HA.out.1, HJ, Lib.hid HA.out.2, Lib.hid HB1.out.size⟩
  case round =>
    obtain ⟨a', n', g, M, hn', ha', rfl, rfl, rfl, HR, HJr, HBr, HGr⟩ := hrel
    by_cases h0 : 0 < n'
    · have HSQ : ∀ w', Below wr.heap.size wr w' → Calls Tryd.prog 17 #[.pointer (some ⟨g, 0, none⟩)] w' (MatOut w' (sq M 32)) := fun w' h => squared_any g M w' (row_mat (row_below HR.out h) HJr.out.1 HJr.out.2.1)
      have HSQ' := Lib.hid HSQ; clear HSQ
      have HSZ2 := Lib.hid (size_u32s (sq_length M 32))
      have HSS2 := Lib.hid (size_same HJr.out.1 (sq_length M 32))
      have HSS3 : Hid ((u32s (List.replicate 32 0)).toArray.size = (u32s (sq M 32)).toArray.size) := Lib.hid (size_same (by simp) (sq_length M 32))
      have HJs := joins_step HJr.out h0
      by_cases ho : n' % 2 = 1
      · have e1 := odd_yes hn' ho
        have HAP := Lib.hid (apply_any g M a' wr (row_mat HR.out HJr.out.1 HJr.out.2.1) ha')
        obtain ⟨y, hy⟩ : ∃ y, y = app M a' 32 := ⟨_, rfl⟩
        have hyl : y < 4294967296 := by rw [hy]; exact app_lt HJr.out.2.1 _ _
        rw [if_pos ho, ← hy] at HJs
        rw [← hy] at HAP
        have HJS := Lib.hid HJs
        clear HJs hy ho
        go_wp2_with (first | (go_at_call 16; refine HAP.out.mono ?_; rintro e w' ⟨rfl, rfl⟩) | (go_at_call 17; refine (HSQ'.out _ (Below.refl _ _)).mono ?_; rintro e w2 ⟨rfl, hb2⟩; have HR2 := Lib.hid (row_below HR.out hb2); have HB2 := Lib.hid (HBr.out.trans (hb2.mono HBr.out.size)); clear hb2) | (refine wpList_store_row rfl 41 (.tmp 8) (.tmp 25) rfl g _ rfl rfl 41 _ HR2.out HSZ2.out HSS2.out (u32s_one _) ?_; have HR3 := Lib.hid (row_setRow (m := sq M 32) HR2.out); have HB3 := Lib.hid (below_setRow HB2.out HGr.out (u32s (sq M 32)).toArray); have HN3 := Lib.hid (new_row' w2 g (u32s (sq M 32)).toArray)) | (refine wpList_load_row rfl 41 (.tmp 8) rfl g rfl 41 _ (0, 0) _ HR3.out Tryd.underlying41 rfl HSZ2.out ?_) | (refine wpList_store_row rfl 41 (.tmp 8) (.tmp 26) rfl w2.heap.size _ rfl rfl 41 _ HN3.out HSZ2.out HSS3.out (u32s_one _) ?_))
        go_roundw
        case rel =>
          refine ⟨y, n' / 2, _, sq M 32, by omega, hyl, rfl, by go_num, rfl, Lib.hid (row_setRow HN3.out), HJS, Lib.hid (below_setRow (HB3.out.alloc (by have := HB3.out.size; exact this) _) (by have := HB2.out.size; exact this) _), Lib.hid HB2.out.size⟩
        case measure => simp [intOf]; omega
      · have e1 := odd_no hn' ho
        rw [if_neg ho] at HJs
        have HJS := Lib.hid HJs
        clear HJs ho
        go_wp2_with (first | (go_at_call 17; refine (HSQ'.out _ (Below.refl _ _)).mono ?_; rintro e w2 ⟨rfl, hb2⟩; have HR2 := Lib.hid (row_below HR.out hb2); have HB2 := Lib.hid (HBr.out.trans (hb2.mono HBr.out.size)); clear hb2) | (refine wpList_store_row rfl 41 (.tmp 8) (.tmp 25) rfl g _ rfl rfl 41 _ HR2.out HSZ2.out HSS2.out (u32s_one _) ?_; have HR3 := Lib.hid (row_setRow (m := sq M 32) HR2.out); have HB3 := Lib.hid (below_setRow HB2.out HGr.out (u32s (sq M 32)).toArray); have HN3 := Lib.hid (new_row' w2 g (u32s (sq M 32)).toArray)) | (refine wpList_load_row rfl 41 (.tmp 8) rfl g rfl 41 _ (0, 0) _ HR3.out Tryd.underlying41 rfl HSZ2.out ?_) | (refine wpList_store_row rfl 41 (.tmp 8) (.tmp 26) rfl w2.heap.size _ rfl rfl 41 _ HN3.out HSZ2.out HSS3.out (u32s_one _) ?_))
        go_roundw
        case rel =>
          refine ⟨a', n' / 2, _, sq M 32, by omega, ha', rfl, by go_num, rfl, Lib.hid (row_setRow HN3.out), HJS, Lib.hid (below_setRow (HB3.out.alloc (by have := HB3.out.size; exact this) _) (by have := HB2.out.size; exact this) _), Lib.hid HB2.out.size⟩
        case measure => simp [intOf]; omega
    · obtain rfl : n' = 0 := by omega
      have hRa := joins_end HJr.out
      have e0 : ((0 : Nat) : Int) = 0 := rfl
      have e1 := x32 ha' hb
      rw [e0]
      have HE : Hid (bits .xor .u32 (a' : Int) (b : Int) = ((R ^^^ b : Nat) : Int)) := Lib.hid (by rw [e1, hRa])
      clear e0 e1 hRa
      go_wp2
      go_ret2
      exact ⟨by rw [← HE.out]; rfl, HBr.out⟩
end Go.Proofs.YtflepcoiidaekaaDoor
