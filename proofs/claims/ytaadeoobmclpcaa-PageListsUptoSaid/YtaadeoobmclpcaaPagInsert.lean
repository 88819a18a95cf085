/- A cell is laid into a page that has room for it: a contract. -/
import Derived.Test.YtaadeoobmclpcaaPagFree
namespace Go.Proofs.Ytaadeoobmclpcaa
open Go.ChangeShapes Go.WideShapes Go.ChangeAt Go.RowKit

/-- A page with one cell more, where there is room ahead of the cells. -/
def inserted (zs : List Nat) (i : Nat) (cs : List Nat) : List Nat :=
  pushed (splice zs (30 + 4 * i) ((zs.drop (26 + 4 * i)).take (4 * (rd zs 14 2 - i)))) { hdOf zs with count := rd zs 14 2 + 1 } i (rd zs 16 2 - cs.length) cs

theorem inserted_eq (zs : List Nat) (i : Nat) (cs : List Nat) : pushed (splice zs (30 + 4 * i) ((zs.drop (26 + 4 * i)).take (4 * (rd zs 14 2 - i)))) { hdOf zs with count := rd zs 14 2 + 1 } i (rd zs 16 2 - cs.length) cs = inserted zs i cs := rfl
attribute [local irreducible] inserted pushed
theorem cells_src {w : World} {g : Nat} {zs : List Nat} (h : Cells w g 5 (u8c zs)) (F L : Nat) : ∀ j v, (u8s ((zs.drop F).take L))[j]? = some v → w.cell? ((⟨g, F, none⟩ : Addr).add j) = some v := by
  intro j v hv
  have hadd : (⟨g, F, none⟩ : Addr).add j = ⟨g, F + j, none⟩ := by unfold Addr.add; split <;> simp_all
  rw [hadd, cell_of_row w g _ _ _ _ h]
  simp only [u8s, List.getElem?_map, List.getElem?_take, List.getElem?_drop] at hv
  split at hv
  · simpa [u8c] using hv
  · simp at hv
set_option maxHeartbeats 1000000 in
theorem insert_room {ad cd : Addr} {cap ccap : Nat} {zs cs : List Nat} (i : Nat) {w : World} (hb : BytesAt w (some ad) zs) (hg : Good zs) (hc : BytesAt w (some cd) cs) (hpos : 0 < cs.length)
    (hin : i ≤ rd zs 14 2) (hfree : 30 + 4 * rd zs 14 2 + sizes zs (rd zs 14 2) + cs.length ≤ 512) (hroom : 30 + 4 * rd zs 14 2 + cs.length ≤ rd zs 16 2) :
    Calls Try.prog 7 #[.slice (some ad) 512 cap, .int .i64 (i : Int), .slice (some cd) cs.length ccap] w (PageOut w (inserted zs i cs)) := by
  obtain ⟨i0, hi, hz0, hz1, hz2⟩ := info_parts info5
  have hl : zs.length = 512 := hg.1
  have HO : Hid (Calls Try.prog 16 #[.slice (some ad) 512 cap] w (OpenedGood w zs)) := by
    have := open_good (cap := cap) hb hg
    rw [hl] at this
    exact Lib.hid this
  have HONE := Lib.hid (hd_one (hdOf zs))
  have HL := Lib.hid hl
  have HF := Lib.hid (hdOf_fits hb.1 (by omega))
  have HU : Hid ((u8s zs).length = 512 * 1) := Lib.hid (by simp [u8s]; exact HL.out)
  have HBY := Lib.hid hb
  have HCY := Lib.hid hc
  have hbt : i0.bytes * 512 ≤ 281474976710656 := by rw [hz2]; decide
  have HBT := Lib.hid hbt
  have h512 : rd zs 16 2 ≤ 512 := hg.2.2.2.1
  have HEND : Hid (pushed (splice zs (30 + 4 * i) ((zs.drop (26 + 4 * i)).take (4 * (rd zs 14 2 - i)))) { hdOf zs with count := rd zs 14 2 + 1 } i (rd zs 16 2 - cs.length) cs = inserted zs i cs) := Lib.hid (inserted_eq zs i cs)
  obtain ⟨c, hcc⟩ : ∃ c, c = rd zs 14 2 := ⟨_, rfl⟩
  obtain ⟨lo, hlo⟩ : ∃ lo, lo = rd zs 16 2 := ⟨_, rfl⟩
  obtain ⟨f, hf⟩ : ∃ f, f = sizes zs c := ⟨_, rfl⟩
  obtain ⟨m, hm⟩ : ∃ m, m = cs.length := ⟨_, rfl⟩
  have HCC := Lib.hid hcc
  have HLO := Lib.hid hlo
  have HFF := Lib.hid hf
  have HM := Lib.hid hm
  rw [← hcc] at hin hfree hroom HEND
  rw [← hf] at hfree
  rw [← hlo] at hroom h512 HEND
  rw [← hm] at hpos hfree hroom HEND ⊢
  clear hb hg hc hbt hl hcc hlo hf hm
  go_enter Try.func7, Try.ntmps7
  go_wp2_with (first | (go_at_call 16; refine HO.out.mono ?_; rintro e w' ⟨rfl, hbel⟩; have HB := Lib.hid hbel; clear hbel) | (refine wpList_store_row rfl 44 (.tmp 8) _ rfl w'.heap.size (hdOf zs).cells rfl rfl 44 _ (cells_new w' 44 head0) (size58 _ rfl) rfl HONE.out ?_; have HH1 : Hid (Cells ((w'.alloc (.cells #[.int .u32 0, .int .u32 0, .int .u32 0, .int .u64 0, .int .u8 0, .int .u8 0, .int .i64 0, .int .i64 0] 44)).setRow w'.heap.size (hdOf zs).cells) w'.heap.size 44 (hdOf zs).cells) := Lib.hid (setRow_heap _ _ _ (hdOf zs).cells _ _ (cells_new w' 44 head0)); have HB1 : Hid (Below w.heap.size w ((w'.alloc (.cells #[.int .u32 0, .int .u32 0, .int .u32 0, .int .u64 0, .int .u8 0, .int .u8 0, .int .i64 0, .int .i64 0] 44)).setRow w'.heap.size (hdOf zs).cells)) := Lib.hid (below_head HB.out HB.out.size (hdOf zs).cells); have HSV : Hid (((w'.alloc (.cells #[.int .u32 0, .int .u32 0, .int .u32 0, .int .u64 0, .int .u8 0, .int .u8 0, .int .i64 0, .int .i64 0] 44)).setRow w'.heap.size (hdOf zs).cells).heap.size = w'.heap.size + 1) := Lib.hid (by simp only [size_setRow, World.size_alloc]); generalize (w'.alloc (.cells #[.int .u32 0, .int .u32 0, .int .u32 0, .int .u64 0, .int .u8 0, .int .u8 0, .int .i64 0, .int .i64 0] 44)).setRow w'.heap.size (hdOf zs).cells = V at HH1 HB1 HSV ⊢; have c6 : V.cell? ⟨w'.heap.size, 6, none⟩ = some (.int .i64 (c : Int)) := by (rw [HCC.out]; exact (cell_of_row V w'.heap.size 6 _ _ _ HH1.out).trans rfl)) | (go_at_call 18; go_must (refine (free_any w'.heap.size c cap (some ad) zs V (bytes_below HBY.out HB1.out) HL.out c6 (by omega)).mono ?_; rw [← HFF.out]; rintro e V ⟨rfl, rfl⟩)) | (at_make; go_must (refine wpList_make_own _ rfl _ _ 24 rfl _ 5 i0 (.int .u8 0) 1 Try.underlying24 hi hz0 hz1 .i64 .i64 512 512 rfl rfl rfl HBT.out (by unfold maxLen; decide) (Nat.le_refl _) ?_; intro w2 ho2 hg2; rw [HSV.out] at ho2 ⊢; have HO2 := Lib.hid ho2; have HH2 := Lib.hid (cells_grown HH1.out hg2 (by simp)); have HB2 := Lib.hid (HB1.out.grown hg2 HB1.out.size (fun k hk => by cases hk)); clear ho2 hg2)) | (at_builtin; go_must (refine wpList_append_fits _ rfl (.tmp 37) (.tmp 38) 24 rfl _ 5 i0 1 Try.underlying24 hi hz1 _ 0 512 [] rfl HO2.out ad 512 cap (u8s zs) rfl HU.out (bytes_cells (bytes_below HBY.out HB2.out)) (u8s_one _) (by decide) ?_; intro w3 ho3 hg3; simp only [Nat.zero_add, List.nil_append] at ho3; have HC3 := Lib.hid (own_cells ho3); have HH3 := Lib.hid (cells_grown HH2.out hg3 (by simp)); have HB3 := Lib.hid (HB2.out.grown hg3 HB2.out.size (fun k hk => by cases hk; exact Nat.le_succ_of_le HB.out.size)); have c7 : w3.cell? ⟨w'.heap.size, 7, none⟩ = some (.int .i64 (lo : Int)) := (by rw [HLO.out]; exact (cell_of_row w3 w'.heap.size 7 _ _ _ HH3.out).trans rfl); have c63 : w3.cell? ⟨w'.heap.size, 6, none⟩ = some (.int .i64 (c : Int)) := (by rw [HCC.out]; exact (cell_of_row w3 w'.heap.size 6 _ _ _ HH3.out).trans rfl); clear ho3 hg3)))
  rename_i hq1 K1 hK1 K2 hK2
  clear c6 HONE HO HBT HU HB1 HH1 HO2 HH2 HB2 hi hz0 hz1 hz2
  have HSE := Lib.hid (fun n => slotsEnd_any w'.heap.size c (by omega) (w3.drewN n) (show (w3.drewN n).cell? ⟨w'.heap.size, 6, none⟩ = _ from c63))
  have hw1 : IntKind.i64.wrap ((lo : Int) - (26 + 4 * (c : Int))) = (lo : Int) - (26 + 4 * (c : Int)) := IntWalk.i64_in _ (by omega)
  have hw2 : IntKind.i64.wrap ((m : Int) + 4) = (m : Int) + 4 := IntWalk.i64_in _ (by omega)
  have hd1 : decide ((lo : Int) - (26 + 4 * (c : Int)) < (m : Int) + 4) = false := decide_eq_false (by omega)
  go_quiet ((go_at_call 19; exact Calls.quiet_of_same (HSE.out _)))
  clear hw1 hw2
  have HH4 : Hid (Cells (w3.drewN nq) w'.heap.size 44 (hdOf zs).cells) := HH3
  have HC4 : Hid (Cells (w3.drewN nq) (w'.heap.size + 1) 5 (u8c zs)) := HC3
  have HB4 : Hid (Below w.heap.size w (w3.drewN nq)) := Lib.hid (below_drewN HB3.out nq)
  have c64 : (w3.drewN nq).cell? ⟨w'.heap.size, 6, none⟩ = some (.int .i64 (c : Int)) := c63
  have HSE4 := Lib.hid (slotsEnd_any w'.heap.size c (by omega) (w3.drewN nq) c64)
  clear HSE c7 c63 HH3 HC3 HB3
  generalize w3.drewN nq = w4 at HH4 HC4 HB4 c64 HSE4 ⊢
  go_wp2_with (go_at_call 19; refine HSE4.out.mono ?_; rintro e w4 ⟨rfl, rfl⟩)
  rename_i K3 hK3
  obtain ⟨F, hF⟩ : ∃ F, F = 26 + 4 * i := ⟨_, rfl⟩
  obtain ⟨E, hE⟩ : ∃ E, E = 26 + 4 * c := ⟨_, rfl⟩
  obtain ⟨F4, hF4⟩ : ∃ F4, F4 = 30 + 4 * i := ⟨_, rfl⟩
  obtain ⟨E4, hE4⟩ : ∃ E4, E4 = 30 + 4 * c := ⟨_, rfl⟩
  obtain ⟨L, hL⟩ : ∃ L, L = 4 * (c - i) := ⟨_, rfl⟩
  obtain ⟨g, hgg⟩ : ∃ g, g = w'.heap.size + 1 := ⟨_, rfl⟩
  have eF : (26 : Int) + 4 * (i : Int) = (F : Int) := by omega
  have eE : (26 : Int) + 4 * (c : Int) = (E : Int) := by omega
  have hwF : IntKind.i64.wrap ((F : Int) + 4) = (F4 : Int) := (IntWalk.i64_in _ (by omega)).trans (by omega)
  have hwE : IntKind.i64.wrap ((E : Int) + 4) = (E4 : Int) := (IntWalk.i64_in _ (by omega)).trans (by omega)
  have k1 : F4 ≤ E4 := by omega
  have k2 : E4 ≤ 512 := by omega
  have k2' : (E4 : Int) ≤ 512 := by omega
  have k6' : (E : Int) ≤ 512 := by omega
  have k3 : ¬ 512 = F4 := by omega
  have k4 : E4 - F4 = L := by omega
  have k5 : F ≤ E := by omega
  have k6 : E ≤ 512 := by omega
  have k7 : ¬ 512 = F := by omega
  have k8 : E - F = L := by omega
  rw [eF, eE]
  rw [← hF4, ← hF, ← hL] at HEND
  obtain ⟨X, hX⟩ : ∃ X, X = (zs.drop F).take L := ⟨_, rfl⟩
  have HXL : Hid (X.length = L) := Lib.hid (by rw [hX, List.length_take, List.length_drop, HL.out]; omega)
  have HSRC : Hid (∀ j v, (u8s X)[j]? = some v → w4.drew.cell? ((⟨g, F, none⟩ : Addr).add j) = some v) := Lib.hid (by rw [hX, hgg]; exact cells_src (w := w4.drew) HC4.out F L)
  rw [← hX] at HEND
  have HG : Hid (w'.heap.size < g) := Lib.hid (by omega)
  have HGD : Hid (w4.drew.heap[g]? = some (.cells (u8s zs).toArray 5 (0, 0))) := Lib.hid (by rw [hgg]; exact HC4.out)
  have HSL : Hid ((u8s zs).length = 512) := Lib.hid (by simp [u8s]; exact HL.out)
  have HXS : Hid ((u8s X).length = L) := Lib.hid (by simp [u8s]; exact HXL.out)
  have HK : Hid (F4 + L ≤ 512 ∧ 30 + 4 * i ≤ 512) := Lib.hid ⟨by omega, by omega⟩
  rw [← hgg]
  clear hF hE hF4 hE4 hL hX hgg eF eE
  go_region_law (refine step_copy_splice rfl (.tmp 59) (.tmp 63) 24 24 rfl 5 Try.underlying24 size5 (some ⟨g, F4, none⟩) (some ⟨g, F, none⟩) L (512 - F4) L (512 - F) (by simp [Act.eval, Act.put]) (by simp [Act.eval, Act.put]) g F4 (u8s zs) 5 HGD.out (u8s X) (by rw [HXS.out]; simp) (fun _ => ⟨rfl, _, rfl, HSRC.out⟩) (by rw [HXS.out, HSL.out]; exact HK.out.1) (u8s_one X) g w4.drew (Below.refl _ _) (Nat.le_refl _) ?_; intro w5 hg5 hb5)
  have HC5 : Hid (Cells w5 g 5 (u8c (splice zs F4 X))) := Lib.hid (by unfold Cells; rw [hg5.out, u8s_splice]; rfl)
  have HH5 : Hid (Cells w5 w'.heap.size 44 (hdOf zs).cells) := Lib.hid (by unfold Cells; rw [hb5.block _ HG.out]; exact HH4.out)
  have HB5 : Hid (Below w.heap.size w w5) := Lib.hid (HB4.out.drew.trans (hb5.mono (Nat.le_trans HB.out.size (Nat.le_of_lt HG.out))))
  have c65 : w5.cell? ⟨w'.heap.size, 6, none⟩ = some (.int .i64 (c : Int)) := by rw [HCC.out]; exact (cell_of_row w5 w'.heap.size 6 _ _ _ HH5.out).trans rfl
  have f65 := frozen_of_row w5 w'.heap.size 6 _ _ HH5.out
  clear hg5 hb5 c64 HSE4 k1 k2 k2' k6' k3 k4 k5 k6 k7 k8 hwF hwE hd1
  go_wp2_with fail
  have hc1 : (c : Int) + 1 = ((c + 1 : Nat) : Int) := by omega
  rw [hc1]
  have HC6 : Hid (Cells (w5.setCell ⟨w'.heap.size, 6, none⟩ (.int .i64 ((c + 1 : Nat) : Int))) g 5 (u8c (splice zs F4 X))) := Lib.hid (cells_setOther HC5.out (by have := HG.out; omega))
  have HH6 : Hid (Cells (w5.setCell ⟨w'.heap.size, 6, none⟩ (.int .i64 ((c + 1 : Nat) : Int))) w'.heap.size 44 ({ hdOf zs with count := c + 1 } : Hd).cells) := Lib.hid (cells_setCell HH5.out)
  have HB6 : Hid (Below w.heap.size w (w5.setCell ⟨w'.heap.size, 6, none⟩ (.int .i64 ((c + 1 : Nat) : Int)))) := Lib.hid (HB5.out.setCell HB.out.size _)
  generalize w5.setCell ⟨w'.heap.size, 6, none⟩ (.int .i64 ((c + 1 : Nat) : Int)) = w6 at HC6 HH6 HB6 ⊢
  clear c65 f65 hc1
  have hF6 : ({ hdOf zs with count := c + 1 } : Hd).Fits := ⟨HF.out.1, HF.out.2.1, HF.out.2.2.1, HF.out.2.2.2.1, HF.out.2.2.2.2.1, HF.out.2.2.2.2.2.1, by show c + 1 < 65536; omega, HF.out.2.2.2.2.2.2.2⟩
  have hlen : (splice zs F4 X).length = 512 := by rw [length_splice _ _ _ (by rw [HL.out, HXL.out]; exact HK.out.1)]; exact HL.out
  have hap : Apart (some cd) w'.heap.size := by
    intro ad' e
    cases e
    obtain ⟨b, off, e', hcell⟩ := HCY.out.2.2 0 (by rw [← HM.out]; exact hpos)
    cases e'
    have h1 := World.block_lt_of_cell? w _ hcell
    have h2 := HB.out.size
    show b ≠ _
    have h1' : b < w.heap.size := h1
    omega
  have hpu := push_pos w'.heap.size g 512 ccap { hdOf zs with count := c + 1 } (splice zs F4 X) cs i (lo - m) cd w6 hF6 HG.out hlen (Nat.le_refl _) HH6.out HC6.out (bytes_below HCY.out HB6.out) hap (by rw [← HM.out]; exact hpos) (by show rd zs 16 2 = _; rw [← HLO.out, ← HM.out]; omega) (by rw [← HM.out]; omega) HK.out.2
  rw [← HM.out, HEND.out] at hpu
  have HPU := Lib.hid hpu
  clear hpu hF6 hlen hap HEND
  go_wp2_with (go_at_call 20; refine HPU.out.mono ?_; rintro e w7 ⟨rfl, hc7, hb7⟩; have HC7 := Lib.hid hc7; have HB7 := Lib.hid hb7; clear hc7 hb7)
  have HE : Hid (PageOut w (inserted zs i cs) (.returned (.tuple #[.slice (some ⟨g, 0, none⟩) 512 512, .int .i64 0])) w7) :=
    Lib.hid ⟨g, rfl, HC7.out, Nat.le_trans HB.out.size (Nat.le_of_lt HG.out), HB6.out.trans (HB7.out.mono HB.out.size)⟩
  go_ret2
  exact HE.out
end Go.Proofs.Ytaadeoobmclpcaa
