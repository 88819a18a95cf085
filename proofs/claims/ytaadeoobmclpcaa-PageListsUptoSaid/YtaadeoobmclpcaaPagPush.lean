/- A cell's bytes are laid into a page: a contract. -/
import Derived.Test.YtaadeoobmclpcaaPagNew
import Derived.Laws.CopyOwn
namespace Go.Proofs.Ytaadeoobmclpcaa
open Go.ChangeShapes Go.WideShapes Go.ChangeAt Go.RowKit

theorem u8s_toArray (zs : List Nat) : (u8s zs).toArray = u8c zs := rfl
theorem u8s_splice (zs cs : List Nat) (a : Nat) : splice (u8s zs) a (u8s cs) = u8s (splice zs a cs) := by
  simp [splice, u8s, List.map_take, List.map_drop]
theorem size5 : (Try.prog.info? 5).map (·.size) = some 1 := by kernel_rfl

/-- The page behind a push. -/
def pushed (zs : List Nat) (H : Hd) (i a : Nat) (cs : List Nat) : List Nat :=
  wr (lay (lay (splice zs a cs) (26 + 4 * i) a 2) (28 + 4 * i) cs.length 2) { H with low := a }

set_option maxHeartbeats 2000000 in
theorem push_pos (hb g cap ccap : Nat) (H : Hd) (zs cs : List Nat) (i a : Nat) (ad : Addr) (w : World) (hF : H.Fits) (hlt : hb < g) (hL : zs.length = 512) (hcap : 512 ≤ cap)
    (hh : Cells w hb 44 H.cells) (hg : Cells w g 5 (u8c zs)) (hc : BytesAt w (some ad) cs) (hne : Apart (some ad) hb) (hn : 0 < cs.length) (hlow : H.low = a + cs.length) (h512 : a + cs.length ≤ 512) (hi : 30 + 4 * i ≤ 512) :
    Calls Try.prog 20 #[.pointer (some ⟨hb, 0, none⟩), .slice (some ⟨g, 0, none⟩) 512 cap, .int .i64 (i : Int), .slice (some ad) cs.length ccap] w fun e w' => e = .returned (.tuple #[]) ∧ Cells w' g 5 (u8c (pushed zs H i a cs)) ∧ Below hb w w' := by
  obtain ⟨n, hnn⟩ : ∃ n, n = cs.length := ⟨_, rfl⟩
  rw [← hnn] at hn hlow h512 ⊢
  have HN := Lib.hid hnn
  have HH0 := Lib.hid hh
  have HG0 := Lib.hid hg
  have HC0 := Lib.hid hc
  have HNE := Lib.hid hne
  have HL := Lib.hid hL
  have HF := Lib.hid hF
  have HLOW := Lib.hid hlow
  have HSZ : Hid (hb ≤ w.heap.size) := Lib.hid (Nat.le_of_lt (Array.getElem?_eq_some_iff.1 hh).1)
  have c7 : w.cell? ⟨hb, 7, none⟩ = some (.int .i64 (H.low : Int)) := (cell_of_row w hb 7 _ _ _ HH0.out).trans rfl
  have f7 := frozen_of_row w hb 7 _ _ HH0.out
  have hsub : ((H.low : Nat) : Int) - (n : Int) = (a : Int) := by omega
  have hl0 : H.low ≤ 512 := by omega
  clear hh hg hc hne hL hF hnn
  go_enter Try.func20, Try.ntmps20
  go_wp2_with fail
  have HH1 : Hid (Cells (w.setCell ⟨hb, 7, none⟩ (.int .i64 (a : Int))) hb 44 ({ H with low := a } : Hd).cells) := Lib.hid (cells_setCell HH0.out)
  have HG1 : Hid (Cells (w.setCell ⟨hb, 7, none⟩ (.int .i64 (a : Int))) g 5 (u8c zs)) := Lib.hid (cells_setOther HG0.out (by omega))
  have HC1 : Hid (BytesAt (w.setCell ⟨hb, 7, none⟩ (.int .i64 (a : Int))) (some ad) cs) := Lib.hid (bytes_setCell HC0.out HNE.out)
  have HB1 : Hid (Below hb w (w.setCell ⟨hb, 7, none⟩ (.int .i64 (a : Int)))) := Lib.hid ((Below.refl hb w).setCell (Nat.le_refl _) _)
  generalize w.setCell ⟨hb, 7, none⟩ (.int .i64 (a : Int)) = w1 at HH1 HG1 HC1 HB1 ⊢
  clear c7 f7 hsub hl0 hlow
  have c7 : w1.cell? ⟨hb, 7, none⟩ = some (.int .i64 (a : Int)) := (cell_of_row w1 hb 7 _ _ _ HH1.out).trans rfl
  have hn0 : ¬ n = 0 := by omega
  have H1C : ∀ v ∈ u8s cs, v.oneCell' = true := u8s_one cs
  have hcsl : (u8s cs).length = n := by simp [u8s]; exact HN.out.symm
  have HU : Hid ((u8s cs).length = n) := Lib.hid hcsl
  have HGD : Hid (w1.drew.heap[g]? = some (.cells (u8s zs).toArray 5 (0, 0))) := Lib.hid HG1.out
  have HSL : Hid ((u8s zs).length = 512) := Lib.hid (by simp [u8s]; exact HL.out)
  clear hcsl H1C
  obtain ⟨b, hb⟩ : ∃ b, b = a + n := ⟨_, rfl⟩
  have hwrap : IntKind.i64.wrap ((a : Int) + (n : Int)) = (b : Int) := (IntWalk.i64_in _ (by omega)).trans (by omega)
  have hbc : b ≤ cap := by omega
  have hab : a ≤ b := by omega
  have hba : b - a = n := by omega
  have hbne : ¬ b = a := by omega
  have hb0 : 0 < b := by omega
  clear hb
  go_region_law (refine step_copy_splice rfl (.tmp 36) (.tmp 37) 24 24 rfl 5 Try.underlying24 size5 (some ⟨g, a, none⟩) (some ad) n n n ccap (by simp [Act.eval, Act.put]) (by simp [Act.eval, Act.put]) g a (u8s zs) 5 HGD.out (u8s cs) (by rw [HU.out]; simp) (fun _ => ⟨rfl, ad, rfl, bytes_cells HC1.out⟩) (by rw [HU.out, HSL.out]; omega) (u8s_one cs) g w1.drew (Below.refl _ _) (Nat.le_refl _) ?_; intro w4 hg4 hb4)
  all_goals
    have HH4 : Hid (Cells w4 hb 44 ({ H with low := a } : Hd).cells) := Lib.hid (by unfold Cells; rw [hb4.block hb hlt]; exact HH1.out)
    have HG4 : Hid (Cells w4 g 5 (u8c (splice zs a cs))) := Lib.hid (by unfold Cells; rw [hg4.out, u8s_splice]; rfl)
    have HB4 : Hid (Below hb w w4) := Lib.hid (HB1.out.drew.trans (hb4.mono (Nat.le_of_lt hlt)))
    have HS4 : Hid (hb ≤ w4.heap.size) := Lib.hid (Nat.le_trans HSZ.out HB4.out.size)
    have c74 : w4.cell? ⟨hb, 7, none⟩ = some (.int .i64 (a : Int)) := (cell_of_row w4 hb 7 _ _ _ HH4.out).trans rfl
    have HLS : Hid ((splice zs a cs).length = 512) := Lib.hid (by rw [length_splice _ _ _ (by rw [HL.out, ← HN.out]; omega)]; exact HL.out)
    have HLL : Hid ((lay (lay (splice zs a cs) (26 + 4 * i) a 2) (28 + 4 * i) n 2).length = 512) := Lib.hid (by rw [lay_length, lay_length]; exact HLS.out)
    have HF4 : Hid (({ H with low := a } : Hd).Fits) := Lib.hid ⟨HF.out.1, HF.out.2.1, HF.out.2.2.1, HF.out.2.2.2.1, HF.out.2.2.2.2.1, HF.out.2.2.2.2.2.1, HF.out.2.2.2.2.2.2.1, by show a < 65536; omega⟩
    have HEND : Hid (wr (lay (lay (splice zs a cs) (26 + 4 * i) a 2) (28 + 4 * i) n 2) { H with low := a } = pushed zs H i a cs) := Lib.hid (by rw [pushed, HN.out])
    clear hg4 hb4 hwrap hbc hab hba hbne hb0
    go_wp2_with fail
    refine (setSlot_any g cap (splice zs a cs) i a n w4 HG4.out HLS.out hi (by omega) (by omega)).mono ?_
    rintro e w5 ⟨rfl, hc5, hw5⟩
    have HC5 := Lib.hid hc5
    have HH5 := Lib.hid (cells_wrote HH4.out hw5 (by omega))
    have HB5 := Lib.hid (below_wrote HB4.out hw5 (Nat.le_of_lt hlt) HS4.out)
    have HS5 : Hid (hb ≤ w5.heap.size) := Lib.hid (Nat.le_trans HSZ.out HB5.out.size)
    clear hc5 hw5
    go_wp2_with fail
    refine (write_any hb g cap 512 { H with low := a } _ _ HF4.out (by omega) HLL.out (by omega) HH5.out HC5.out).mono ?_
    rintro e w6 ⟨rfl, hc6, hw6⟩
    have HB6 := Lib.hid (below_wrote HB5.out hw6 (Nat.le_of_lt hlt) HS5.out)
    rw [HEND.out] at hc6
    have HC6 := Lib.hid hc6
    clear hc6 hw6
    go_wp2
    go_end0
    exact ⟨rfl, HC6.out, HB6.out⟩
end Go.Proofs.Ytaadeoobmclpcaa
