/- No byte, or any, is laid into a page as a cell: contracts. -/
import Derived.Test.YtaadeoobmclpcaaPagRelaid
namespace Go.Proofs.Ytaadeoobmclpcaa
open Go.ChangeShapes Go.WideShapes Go.ChangeAt Go.RowKit

theorem splice_nil (zs : List Nat) (a : Nat) : splice zs a [] = zs := by simp [splice]
set_option maxHeartbeats 2000000 in
theorem push_zero (hb g cap ccap : Nat) (H : Hd) (zs : List Nat) (i : Nat) (ca : Option Addr) (w : World) (hF : H.Fits) (hlt : hb < g) (hL : zs.length = 512) (hcap : 512 ≤ cap)
    (hh : Cells w hb 44 H.cells) (hg : Cells w g 5 (u8c zs)) (h512 : H.low ≤ 512) (hi : 30 + 4 * i ≤ 512) :
    Calls Try.prog 20 #[.pointer (some ⟨hb, 0, none⟩), .slice (some ⟨g, 0, none⟩) 512 cap, .int .i64 (i : Int), .slice ca 0 ccap] w fun e w' => e = .returned (.tuple #[]) ∧ Cells w' g 5 (u8c (pushed zs H i H.low [])) ∧ Below hb w w' := by
  have HH0 := Lib.hid hh
  have HG0 := Lib.hid hg
  have HL := Lib.hid hL
  have HF := Lib.hid hF
  obtain ⟨a, ha⟩ : ∃ a, a = H.low := ⟨_, rfl⟩
  have HA := Lib.hid ha
  have HSZ : Hid (hb ≤ w.heap.size) := Lib.hid (Nat.le_of_lt (Array.getElem?_eq_some_iff.1 hh).1)
  have c7 : w.cell? ⟨hb, 7, none⟩ = some (.int .i64 (a : Int)) := by rw [ha]; exact (cell_of_row w hb 7 _ _ _ HH0.out).trans rfl
  have f7 := frozen_of_row w hb 7 _ _ HH0.out
  have hl0 : a ≤ 512 := by omega
  have HEND : Hid (wr (lay (lay zs (26 + 4 * i) a 2) (28 + 4 * i) 0 2) { H with low := a } = pushed zs H i H.low []) := Lib.hid (by rw [pushed, splice_nil, ha]; rfl)
  clear hh hg hL hF ha h512
  go_enter Try.func20, Try.ntmps20
  go_wp2_with fail
  have HH1 : Hid (Cells (w.setCell ⟨hb, 7, none⟩ (.int .i64 (a : Int))) hb 44 ({ H with low := a } : Hd).cells) := Lib.hid (cells_setCell HH0.out)
  have HG1 : Hid (Cells (w.setCell ⟨hb, 7, none⟩ (.int .i64 (a : Int))) g 5 (u8c zs)) := Lib.hid (cells_setOther HG0.out (by omega))
  have HB1 : Hid (Below hb w (w.setCell ⟨hb, 7, none⟩ (.int .i64 (a : Int)))) := Lib.hid ((Below.refl hb w).setCell (Nat.le_refl _) _)
  generalize w.setCell ⟨hb, 7, none⟩ (.int .i64 (a : Int)) = w1 at HH1 HG1 HB1 ⊢
  clear c7 f7
  have c7 : w1.cell? ⟨hb, 7, none⟩ = some (.int .i64 (a : Int)) := (cell_of_row w1 hb 7 _ _ _ HH1.out).trans rfl
  have HGD : Hid (w1.drew.heap[g]? = some (.cells (u8s zs).toArray 5 (0, 0))) := Lib.hid HG1.out
  have HSL : Hid ((u8s zs).length = 512) := Lib.hid (by simp [u8s]; exact HL.out)
  have hw3 : IntKind.i64.wrap (a : Int) = (a : Int) := IntWalk.i64_in _ (by omega)
  have hw5 : IntKind.i64.wrap ((a : Int) + 0) = (a : Int) := (IntWalk.i64_in _ (by omega)).trans (by omega)
  have hbc : a ≤ cap := by omega
  go_region_law (refine step_copy_splice rfl (.tmp 36) (.tmp 37) 24 24 rfl 5 Try.underlying24 size5 (some ⟨g, 0, none⟩) ca 0 0 0 ccap (by simp [Act.eval, Act.put]) (by simp [Act.eval, Act.put]) g a (u8s zs) 5 HGD.out [] rfl (fun h => absurd h (by simp)) (by rw [HSL.out]; simp; omega) (fun u h => by simp at h) g w1.drew (Below.refl _ _) (Nat.le_refl _) ?_; intro w4 hg4 hb4)
  all_goals
    have HH4 : Hid (Cells w4 hb 44 ({ H with low := a } : Hd).cells) := Lib.hid (by unfold Cells; rw [hb4.block hb hlt]; exact HH1.out)
    have HG4 : Hid (Cells w4 g 5 (u8c zs)) := Lib.hid (by unfold Cells; rw [hg4.out]; simp [splice]; rfl)
    have HB4 : Hid (Below hb w w4) := Lib.hid (HB1.out.drew.trans (hb4.mono (Nat.le_of_lt hlt)))
    have HS4 : Hid (hb ≤ w4.heap.size) := Lib.hid (Nat.le_trans HSZ.out HB4.out.size)
    have c74 : w4.cell? ⟨hb, 7, none⟩ = some (.int .i64 (a : Int)) := (cell_of_row w4 hb 7 _ _ _ HH4.out).trans rfl
    have HLL : Hid ((lay (lay zs (26 + 4 * i) a 2) (28 + 4 * i) 0 2).length = 512) := Lib.hid (by rw [lay_length, lay_length]; exact HL.out)
    have HF4 : Hid (({ H with low := a } : Hd).Fits) := Lib.hid ⟨HF.out.1, HF.out.2.1, HF.out.2.2.1, HF.out.2.2.2.1, HF.out.2.2.2.2.1, HF.out.2.2.2.2.2.1, HF.out.2.2.2.2.2.2.1, by show a < 65536; omega⟩
    have hSS := setSlot_any g cap zs i a 0 w4 HG4.out HL.out hi (by omega) (by omega)
    have HSS : Hid (Calls Try.prog 22 #[.slice (some ⟨g, 0, none⟩) 512 cap, .int .i64 (i : Int), .int .i64 (a : Int), .int .i64 0] w4 fun e w' => e = .returned (.tuple #[]) ∧ Cells w' g 5 (u8c (lay (lay zs (26 + 4 * i) a 2) (28 + 4 * i) 0 2)) ∧ Wrote g w4 w') := Lib.hid hSS
    clear hg4 hb4 hw3 hw5 hbc hSS
    go_wp2_with fail
    refine HSS.out.mono ?_
    rintro e w5 ⟨rfl, hc5, hw5⟩
    have HC5 := Lib.hid hc5
    have HH5 := Lib.hid (cells_wrote HH4.out hw5 (by omega))
    have HB5 := Lib.hid (below_wrote HB4.out hw5 (Nat.le_of_lt hlt) HS4.out)
    have HS5 : Hid (hb ≤ w5.heap.size) := Lib.hid (Nat.le_trans HSZ.out HB5.out.size)
    clear hc5 hw5
    go_wp2_with fail
    refine (write_any hb g cap 512 { H with low := a } _ _ HF4.out (by omega) HLL.out (by omega) HH5.out HC5.out).mono ?_
    rintro e w6 ⟨rfl, hc6, hw6⟩
    have HB6 := Lib.hid (below_wrote HB5.out hw6 (Nat.le_of_lt hlt) HS5.out)
    rw [HEND.out] at hc6
    have HC6 := Lib.hid hc6
    clear hc6 hw6
    go_wp2
    go_end0
    exact ⟨rfl, HC6.out, HB6.out⟩
/-- Any bytes are laid in. -/
theorem push_any (hb g cap ccap : Nat) (H : Hd) (zs cs : List Nat) (i a : Nat) (ca : Option Addr) (w : World) (hF : H.Fits) (hlt : hb < g) (hL : zs.length = 512) (hcap : 512 ≤ cap)
    (hh : Cells w hb 44 H.cells) (hg : Cells w g 5 (u8c zs)) (hc : BytesAt w ca cs) (hne : 0 < cs.length → Apart ca hb) (hlow : H.low = a + cs.length) (h512 : a + cs.length ≤ 512) (hi : 30 + 4 * i ≤ 512) :
    Calls Try.prog 20 #[.pointer (some ⟨hb, 0, none⟩), .slice (some ⟨g, 0, none⟩) 512 cap, .int .i64 (i : Int), .slice ca cs.length ccap] w fun e w' => e = .returned (.tuple #[]) ∧ Cells w' g 5 (u8c (pushed zs H i a cs)) ∧ Below hb w w' := by
  by_cases h0 : cs.length = 0
  · obtain rfl : cs = [] := List.eq_nil_of_length_eq_zero h0
    have := push_zero hb g cap ccap H zs i ca w hF hlt hL hcap hh hg (by rw [hlow]; exact h512) hi
    rw [show H.low = a from hlow] at this
    exact this
  · obtain ⟨b, off, rfl, _⟩ := hc.2.2 0 (by omega)
    exact push_pos hb g cap ccap H zs cs i a _ w hF hlt hL hcap hh hg hc (hne (by omega)) (by omega) hlow h512 hi
end Go.Proofs.Ytaadeoobmclpcaa
