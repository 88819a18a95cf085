/- SumKnown: what its calls answer. -/
import Derived.Test.YtflepcoiidaekaaDoorSumJoinB
import Derived.Lib.SlBytesConst
namespace Go.Proofs.YtflepcoiidaekaaDoor
open Go.ChangeShapes Go.WideShapes Go.ChangeAt Go.RowKit

/-- M is what m bits do. -/
def Does (M : List Nat) (m : Nat) : Prop := M.length = 32 ∧ ∀ i, i < 32 → M.getD i 0 = fk m (2 ^ i)
theorem app_mod {M : List Nat} {m : Nat} (h : Does M m) (r : Nat) : ∀ k, k ≤ 32 → app M r k = fk m (r % 2 ^ k) := by
  intro k
  induction k with
  | zero =>
    intro _
    rw [app, Nat.pow_zero, Nat.mod_one]
    have : ∀ m, fk m 0 = 0 := by
      intro m
      induction m with
      | zero => rfl
      | succ m ih => rw [fk, f_zero, ih]
    rw [this]
  | succ k ih =>
    intro hk
    rw [app, row_step, ih (by omega)]
    by_cases hb : r.testBit k = true
    · rw [if_pos hb, if_pos hb, fk_xor, h.2 k (by omega)]
    · rw [if_neg hb, if_neg hb, Nat.xor_zero]
theorem app_does {M : List Nat} {m r : Nat} (h : Does M m) (hr : r < 4294967296) : app M r 32 = fk m r := by
  rw [app_mod h r 32 (Nat.le_refl _), Nat.mod_eq_of_lt hr]
theorem fk_lt (m : Nat) : ∀ x, x < 4294967296 → fk m x < 4294967296 := by
  induction m with
  | zero => intro x h; exact h
  | succ m ih => intro x h; exact ih _ (f_lt h)
theorem sq_does {M : List Nat} {m : Nat} (h : Does M m) : Does (sq M 32) (m + m) := by
  refine ⟨sq_length _ _, fun i hi => ?_⟩
  have h1 : (sq M 32).getD i 0 = app M (M.getD i 0) 32 := by simp [sq, hi]
  have h2 : 2 ^ i < 4294967296 := Nat.pow_lt_pow_right (n := 32) (by omega) hi
  rw [h1, h.2 i hi, app_does h (fk_lt m _ h2), fk_add]
theorem one_does : Does (one 32) 1 := by
  refine ⟨one_length 32, fun i hi => ?_⟩
  have h1 : (one 32).getD i 0 = if i = 0 then 3988292384 else 2 ^ (i - 1) := by simp [one, hi]
  rw [h1]
  by_cases h : i = 0
  · subst h; decide
  · rw [if_neg h]
    obtain ⟨j, rfl⟩ : ∃ j, i = j + 1 := ⟨i - 1, by omega⟩
    rw [fk, fk, Nat.pow_succ, Nat.mul_comm, f_double]; rfl
theorem app_lt_of {M : List Nat} {m a : Nat} (h : Does M m) (ha : a < 4294967296) : app M a 32 < 4294967296 := by
  rw [app_does h ha]; exact fk_lt m a ha
theorem joined_fk : ∀ (F : Nat) (M : List Nat) (m a n : Nat), Does M m → a < 4294967296 → n ≤ F → joined M a n F = fk (m * n) a := by
  intro F
  induction F with
  | zero =>
    intro M m a n _ _ hn
    obtain rfl : n = 0 := by omega
    rw [Nat.mul_zero]; rfl
  | succ F ih =>
    intro M m a n h ha hn
    rw [joined]
    by_cases h0 : n = 0
    · rw [if_pos h0, h0]; rfl
    · rw [if_neg h0]
      by_cases h1 : n % 2 = 1
      · rw [if_pos h1, ih _ _ _ _ (sq_does h) (app_lt_of h ha) (by omega), app_does h ha, ← fk_add]
        congr 1
        have : n = 2 * (n / 2) + 1 := by omega
        rw [Nat.add_mul]
        generalize n / 2 = z at *
        subst this
        rw [Nat.mul_add, Nat.mul_one, Nat.two_mul, Nat.mul_add]
        omega
      · rw [if_neg h1, ih _ _ _ _ (sq_does h) ha (by omega)]
        congr 1
        have : n = 2 * (n / 2) := by omega
        rw [Nat.add_mul]
        generalize n / 2 = z at *
        subst this
        rw [Nat.two_mul, Nat.mul_add]
theorem does8 : Does (sqn (one 32) 3) 8 := sq_does (sq_does (sq_does one_does))
theorem join_is (a n : Nat) (ha : a < 4294967296) : joined (sqn (one 32) 3) a n n = fk (8 * n) a := joined_fk n _ 8 a n does8 ha (Nat.le_refl _)
theorem known1 : more 0 [49, 50, 51, 52, 53] = 3421846044 := by decide +kernel
theorem known2 : more 0 [54, 55, 56, 57] = 2646261639 := by decide +kernel
theorem known3 : more 0 [49, 50, 51, 52, 53, 54, 55, 56, 57] = 3421780262 := by decide +kernel
theorem known4 : more 3421846044 [54, 55, 56, 57] = 3421780262 := by decide +kernel
theorem known5 : joined (sqn (one 32) 3) 3421846044 4 4 ^^^ 2646261639 = 3421780262 := by
  rw [join_is 3421846044 4 (by omega)]; decide +kernel
theorem known6 : more 0 [] = 0 := by decide +kernel
theorem known7 : lay [0, 0, 0] 1 258 2 = [0, 2, 1] := by decide +kernel
theorem tab_bytes {w : World} (hT : TabAt w) (o : Obj) : TabAt (w.alloc o) := tab_below hT (below_alloc w o)
theorem of_lit (zs : List Nat) (w : World) (hT : TabAt w) (hz : ∀ c ∈ zs, c < 256) (hm : zs.length ≤ maxLen) (fr : Nat × Nat) :
    Calls Tryd.prog 8 #[.slice (some ⟨w.heap.size, 0, none⟩) zs.length zs.length] (w.alloc (.cells (u8s zs).toArray 5 fr)) fun e w' => e = .returned (.int .u32 (more 0 zs : Int)) ∧ Below w.heap.size w w' :=
  (of_any _ _ zs _ (bytes_new w zs hz hm fr) (tab_below hT (below_alloc w _))).mono fun _ _ h => ⟨h.1, by rw [← h.2]; exact below_alloc w _⟩
theorem of_l1 (w : World) (hT : TabAt w) : Calls Tryd.prog 8 #[.slice (some ⟨w.heap.size, 0, none⟩) 5 5] (w.alloc (.cells #[.int .u8 49, .int .u8 50, .int .u8 51, .int .u8 52, .int .u8 53] 5 (5, 6))) fun e w' => e = .returned (.int .u32 3421846044) ∧ Below w.heap.size w w' := by
  have := of_lit [49, 50, 51, 52, 53] w hT (by decide) (by unfold maxLen; decide) (5, 6)
  rw [known1] at this
  exact this
theorem of_l2 (w : World) (hT : TabAt w) : Calls Tryd.prog 8 #[.slice (some ⟨w.heap.size, 0, none⟩) 4 4] (w.alloc (.cells #[.int .u8 54, .int .u8 55, .int .u8 56, .int .u8 57] 5 (4, 5))) fun e w' => e = .returned (.int .u32 2646261639) ∧ Below w.heap.size w w' := by
  have := of_lit [54, 55, 56, 57] w hT (by decide) (by unfold maxLen; decide) (4, 5)
  rw [known2] at this
  exact this
theorem of_l3 (w : World) (hT : TabAt w) : Calls Tryd.prog 8 #[.slice (some ⟨w.heap.size, 0, none⟩) 9 9] (w.alloc (.cells #[.int .u8 49, .int .u8 50, .int .u8 51, .int .u8 52, .int .u8 53, .int .u8 54, .int .u8 55, .int .u8 56, .int .u8 57] 5 (9, 10))) fun e w' => e = .returned (.int .u32 3421780262) ∧ Below w.heap.size w w' := by
  have := of_lit [49, 50, 51, 52, 53, 54, 55, 56, 57] w hT (by decide) (by unfold maxLen; decide) (9, 10)
  rw [known3] at this
  exact this
theorem of_nil (w : World) (hT : TabAt w) : Calls Tryd.prog 8 #[.slice none 0 0] w fun e w' => e = .returned (.int .u32 0) ∧ Below w.heap.size w w' := by
  have := of_any none 0 [] w ⟨fun c hc => (by cases hc), Nat.zero_le _, fun j hj => absurd hj (Nat.not_lt_zero _)⟩ hT
  rw [known6] at this
  exact this.mono fun _ _ h => ⟨h.1, by rw [← h.2]; exact Below.refl _ _⟩
theorem more_l2 (w : World) (hT : TabAt w) : Calls Tryd.prog 11 #[.int .u32 3421846044, .slice (some ⟨w.heap.size, 0, none⟩) 4 4] (w.alloc (.cells #[.int .u8 54, .int .u8 55, .int .u8 56, .int .u8 57] 5 (4, 5))) fun e w' => e = .returned (.int .u32 3421780262) ∧ Below w.heap.size w w' := by
  have := more_any 3421846044 (by omega) _ 4 [54, 55, 56, 57] _ (bytes_new w [54, 55, 56, 57] (by decide) (by unfold maxLen; decide) (4, 5)) (tab_below hT (below_alloc w _))
  rw [known4] at this
  exact this.mono fun _ _ h => ⟨h.1, by rw [← h.2]; exact below_alloc w _⟩
theorem join_l (w : World) : Calls Tryd.prog 7 #[.int .u32 3421846044, .int .u32 2646261639, .int .i64 4] w fun e w' => e = .returned (.tuple #[.int .u32 3421780262, .int .i64 0]) ∧ Below w.heap.size w w' := by
  have := join_any 3421846044 2646261639 4 (by omega) (by omega) (by omega) w
  rw [known5] at this
  exact this
theorem put_l (w : World) : Calls Tryd.prog 9 #[.slice (some ⟨w.heap.size, 0, none⟩) 3 3, .int .i64 1, .int .i64 2, .int .u64 258] (w.alloc (.cells #[.int .u8 0, .int .u8 0, .int .u8 0] 5)) fun e w' => ∃ g, e = .returned (.tuple #[.slice (some ⟨g, 0, none⟩) 3 3, .int .i64 0]) ∧ BytesAt w' (some ⟨g, 0, none⟩) [0, 2, 1] ∧ Below w.heap.size w w' := by
  have hb := bytes_new w [0, 0, 0] (by decide) (by unfold maxLen; decide) (0, 0)
  refine (put_yes _ 3 [0, 0, 0] 1 258 2 _ hb (by decide) (by omega) (by decide) (by decide)).mono ?_
  rintro e w' ⟨g, c, h1, h2, h3⟩
  rw [known7] at h2
  refine ⟨g, h1, row_bytes (l := [0, 2, 1]) h2 rfl (by decide) (by unfold maxLen; decide), (below_alloc w _).trans (h3.mono (by simp))⟩
theorem put_l2 (w : World) : Calls Tryd.prog 9 #[.slice (some ⟨w.heap.size, 0, none⟩) 1 1, .int .i64 0, .int .i64 1, .int .u64 256] (w.alloc (.cells #[.int .u8 0] 5)) fun e w' => e = .returned (.tuple #[.slice none 0 0, .int .i64 2]) ∧ Below w.heap.size w w' :=
  (put_big _ 1 1 0 1 256 _ (by unfold maxLen; decide) (.inl ⟨rfl, by omega⟩) (by omega) (by omega)).mono fun _ _ h => ⟨h.1, by rw [← h.2]; exact below_alloc w _⟩
theorem put_l3 (w : World) : Calls Tryd.prog 9 #[.slice (some ⟨w.heap.size, 0, none⟩) 1 1, .int .i64 0, .int .i64 3, .int .u64 1] (w.alloc (.cells #[.int .u8 0] 5)) fun e w' => e = .returned (.tuple #[.slice none 0 0, .int .i64 1]) ∧ Below w.heap.size w w' :=
  (put_no _ 1 1 0 3 1 _ (by unfold maxLen; decide) (by omega)).mono fun _ _ h => ⟨h.1, by rw [← h.2]; exact below_alloc w _⟩

end Go.Proofs.YtflepcoiidaekaaDoor
