/- A new page; slots; a cell's bytes laid in: contracts. -/
import Derived.Test.YtaadeoobmclpcaaPagCheck
namespace Go.Proofs.Ytaadeoobmclpcaa
open Go.ChangeShapes Go.WideShapes Go.ChangeAt Go.RowKit

/-- A new page's head. -/
def newHd (kind : Nat) : Hd := ⟨0, 0, 0, 0, kind, 0, 0, 512⟩
theorem made_noughts : (madeCells (Value.cells (.int .u8 0)) (512 * 1)).toList = u8s noughts := by
  rw [show Value.cells (.int .u8 0) = #[.int .u8 0] from rfl, toList_madeCells_one]
  simp only [u8s, noughts, List.map_replicate]
  rfl
set_option maxHeartbeats 1000000 in
theorem new_any (kind : Nat) (hk : kind < 256) (w : World) : Calls Try.prog 5 #[.int .i64 (kind : Int)] w (PageOut w (wr noughts (newHd kind))) := by
  obtain ⟨i0, hi, hz0, hz1, hz2⟩ := info_parts info5
  have hbt : i0.bytes * 512 ≤ 281474976710656 := by rw [hz2]; decide
  have HBT := Lib.hid hbt
  clear hbt
  go_enter Try.func5, Try.ntmps5
  go_wp2_with (at_make; refine wpList_make_full _ rfl _ _ 24 rfl _ 5 i0 (.int .u8 0) 1 Try.underlying24 hi hz0 hz1 .i64 .i64 512 512 512 rfl rfl rfl rfl HBT.out (by unfold maxLen; decide) (Nat.le_refl _) ?_; intro w2 ho2 hg2; rw [made_noughts] at ho2; have HC2 := Lib.hid (own_cells ho2); have HB2 := Lib.hid ((Below.refl w.heap.size w).grown hg2 (Nat.le_refl _) (fun k hk => by cases hk)); clear ho2 hg2)
  have hlt : w.heap.size < w2.heap.size := (Array.getElem?_eq_some_iff.1 HC2.out).1
  have hsz := HB2.out.size
  refine (write_any w2.heap.size w.heap.size 512 512 (newHd kind) noughts _ ⟨by show 0 < _; omega, by show 0 < _; omega, by show 0 < _; omega, by show 0 < _; omega, hk, by show 0 < _; omega, by show 0 < _; omega, by show 512 < _; omega⟩ (by omega) List.length_replicate (by omega) (cells_new w2 _ _) (cells_alloc HC2.out _)).mono ?_
  rintro e w5 ⟨rfl, hc5, hw5⟩
  have HE : Hid (PageOut w (wr noughts (newHd kind)) (.returned (.tuple #[.slice (some ⟨w.heap.size, 0, none⟩) 512 512, .int .i64 0])) w5) :=
    Lib.hid ⟨_, rfl, hc5, Nat.le_refl _, below_wrote (HB2.out.alloc hsz _) hw5 (Nat.le_refl _) (by simp; omega)⟩
  clear hc5 hw5 hsz hlt
  go_wp2
  go_ret2
  exact HE.out

set_option maxHeartbeats 400000 in
theorem setSlot_any (g cap : Nat) (zs : List Nat) (i x y : Nat) (w : World) (hg : Cells w g 5 (u8c zs)) (hl : zs.length = 512) (hi : 30 + 4 * i ≤ 512) (hx : x < 65536) (hy : y < 65536) :
    Calls Try.prog 22 #[.slice (some ⟨g, 0, none⟩) 512 cap, .int .i64 (i : Int), .int .i64 (x : Int), .int .i64 (y : Int)] w fun e w' => e = .returned (.tuple #[]) ∧ Cells w' g 5 (u8c (lay (lay zs (26 + 4 * i) x 2) (28 + 4 * i) y 2)) ∧ Wrote g w w' := by
  have H1 : Hid (Calls Try.prog 24 #[.slice (some ⟨g, 0, none⟩) 512 cap, .int .i64 (26 + 4 * (i : Int)), .int .i64 2, .int .u64 (x : Int)] w fun e w' => e = .returned (.tuple #[]) ∧ Cells w' g 5 (u8c (lay zs (26 + 4 * i) x 2)) ∧ Wrote g w w') := by
    have := lay_of (cap := cap) zs hl hg (26 + 4 * i) 2 x (by omega) (by omega)
    rw [show ((26 + 4 * i : Nat) : Int) = 26 + 4 * (i : Int) from by omega] at this
    exact Lib.hid this
  have H2 : Hid (∀ w, Cells w g 5 (u8c (lay zs (26 + 4 * i) x 2)) → Calls Try.prog 24 #[.slice (some ⟨g, 0, none⟩) 512 cap, .int .i64 (28 + 4 * (i : Int)), .int .i64 2, .int .u64 (y : Int)] w fun e w' => e = .returned (.tuple #[]) ∧ Cells w' g 5 (u8c (lay (lay zs (26 + 4 * i) x 2) (28 + 4 * i) y 2)) ∧ Wrote g w w') := by
    refine Lib.hid (fun w hg => ?_)
    have := lay_of (cap := cap) (lay zs (26 + 4 * i) x 2) ((lay_length _ _ _ _).trans hl) hg (28 + 4 * i) 2 y (by omega) (by omega)
    rw [show ((28 + 4 * i : Nat) : Int) = 28 + 4 * (i : Int) from by omega] at this
    exact this
  clear hg hl
  go_enter Try.func22, Try.ntmps22
  go_wp2_with fail
  refine H1.out.mono ?_
  rintro e w1 ⟨rfl, hc1, hw1⟩
  have HC1 := Lib.hid hc1; have HW1 := Lib.hid hw1; clear hc1 hw1
  go_wp2_with fail
  have e28 : (26 + 4 * (i : Int) + 2) = 28 + 4 * (i : Int) := by omega
  rw [e28]
  clear e28
  refine (H2.out _ HC1.out).mono ?_
  rintro e w2 ⟨rfl, hc2, hw2⟩
  have HC2 := Lib.hid hc2; have HW2 := Lib.hid (wrote_trans HW1.out hw2); clear hc2 hw2
  go_wp2
  go_end0
  exact ⟨rfl, HC2.out, HW2.out⟩
end Go.Proofs.Ytaadeoobmclpcaa
