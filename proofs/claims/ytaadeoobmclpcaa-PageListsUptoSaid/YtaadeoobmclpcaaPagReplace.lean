/- A cell is replaced: contracts. -/
import Derived.Test.YtaadeoobmclpcaaPagSlot
namespace Go.Proofs.Ytaadeoobmclpcaa
open Go.ChangeShapes Go.WideShapes Go.ChangeAt Go.RowKit

/-- A page with other bytes, no more, in its i-th cell's place. -/
def repIn (zs : List Nat) (i : Nat) (cs : List Nat) : List Nat := slotSet (splice zs (rd zs (26 + 4 * i) 2) cs) i (rd zs (26 + 4 * i) 2) cs.length
/-- A page with other bytes in its i-th cell. -/
def repOf (zs : List Nat) (i : Nat) (cs : List Nat) : List Nat :=
  if cs.length ≤ rd zs (28 + 4 * i) 2 then repIn zs i cs
  else if 26 + 4 * rd zs 14 2 + cs.length ≤ rd zs 16 2 then pushed (slotSet zs i (rd zs 16 2) 0) (hdOf zs) i (rd zs 16 2 - cs.length) cs
  else pushed (relaid (slotSet zs i (rd zs 16 2) 0) (hdOf zs)) { hdOf zs with low := 512 - sizes (slotSet zs i (rd zs 16 2) 0) (rd zs 14 2) } i (512 - sizes (slotSet zs i (rd zs 16 2) 0) (rd zs 14 2) - cs.length) cs
attribute [local irreducible] pushed relaid repOf slotSet repIn
set_option maxHeartbeats 2000000 in
theorem replace_in {gs off : Nat} {ca : Option Addr} {cap ccap : Nat} {zs cs : List Nat} (i : Nat) {w : World} (hb : BytesAt w (some ⟨gs, off, none⟩) zs) (hg : Good zs) (hc : BytesAt w ca cs)
    (hin : i < rd zs 14 2) (hle : cs.length ≤ rd zs (28 + 4 * i) 2) :
    Calls Try.prog 9 #[.slice (some ⟨gs, off, none⟩) 512 cap, .int .i64 (i : Int), .slice ca cs.length ccap] w (PageOut w (repOf zs i cs)) := by
  obtain ⟨i0, hi, hz0, hz1, hz2⟩ := info_parts info5
  have hl : zs.length = 512 := hg.1
  have HO : Hid (Calls Try.prog 16 #[.slice (some ⟨gs, off, none⟩) 512 cap] w (OpenedGood w zs)) := by
    have := open_good (cap := cap) hb hg
    rw [hl] at this
    exact Lib.hid this
  have HONE := Lib.hid (hd_one (hdOf zs))
  have HL := Lib.hid hl
  have HF := Lib.hid (hdOf_fits hb.1 (by omega))
  have HU : Hid ((u8s zs).length = 512 * 1) := Lib.hid (by simp [u8s]; exact HL.out)
  have HBY := Lib.hid hb
  have HCY := Lib.hid hc
  have hbt : i0.bytes * 512 ≤ 281474976710656 := by rw [hz2]; decide
  have HBT := Lib.hid hbt
  have h512 : rd zs 16 2 ≤ 512 := hg.2.2.2.1
  have hend : 26 + 4 * rd zs 14 2 ≤ rd zs 16 2 := hg.2.2.1
  have hcell := good_cell hg i hin
  have HEND : Hid (slotSet (splice zs (rd zs (26 + 4 * i) 2) cs) i (rd zs (26 + 4 * i) 2) cs.length = repOf zs i cs) := Lib.hid (by rw [repOf, if_pos hle, repIn])
  have HCA : Hid (∀ V, Below w.heap.size w V → Calls Try.prog 21 #[.slice (some ⟨gs, off, none⟩) 512 cap, .int .i64 (i : Int)] V fun e w' => e = .returned (.tuple #[.int .i64 (rd zs (26 + 4 * i) 2 : Int), .int .i64 (rd zs (28 + 4 * i) 2 : Int)]) ∧ V = w') := Lib.hid (fun V hV => by
    have := cellAt_any (some ⟨gs, off, none⟩) cap zs i V (bytes_below hb hV) (by omega) (by omega)
    rw [hl] at this
    exact this)
  obtain ⟨c, hcc⟩ : ∃ c, c = rd zs 14 2 := ⟨_, rfl⟩
  obtain ⟨x, hx⟩ : ∃ x, x = rd zs (26 + 4 * i) 2 := ⟨_, rfl⟩
  obtain ⟨y, hy⟩ : ∃ y, y = rd zs (28 + 4 * i) 2 := ⟨_, rfl⟩
  obtain ⟨m, hm⟩ : ∃ m, m = cs.length := ⟨_, rfl⟩
  obtain ⟨lo, hlo⟩ : ∃ lo, lo = rd zs 16 2 := ⟨_, rfl⟩
  have HCC := Lib.hid hcc
  have HLO := Lib.hid hlo
  have HM := Lib.hid hm
  rw [← hcc] at hin hend
  rw [← hlo] at h512 hend
  rw [← hx, ← hy] at HCA hcell
  rw [← hy] at hle
  rw [← hx] at HEND
  rw [← hm] at hle HEND ⊢
  clear hb hg hc hbt hl hcc hlo hx hy hm
  obtain ⟨z, hz⟩ : ∃ z, z = x + m := ⟨_, rfl⟩
  have hw1 : IntKind.i64.wrap ((x : Int) + (m : Int)) = (z : Int) := (IntWalk.i64_in _ (by omega)).trans (by omega)
  have k1 : x ≤ z := by omega
  have k2 : z ≤ 512 := by omega
  have k2' : (z : Int) ≤ 512 := by omega
  have k3 : z - x = m := by omega
  have hq : x + m ≤ 512 := by omega
  have hi30 : 30 + 4 * i ≤ 512 := by omega
  have hx5 : x < 65536 := by omega
  have hm5 : m < 65536 := by omega
  have HXS : Hid ((u8s cs).length = m) := Lib.hid (by rw [u8s, List.length_map]; exact HM.out.symm)
  have HSL : Hid ((u8s zs).length = 512) := Lib.hid (by rw [u8s, List.length_map]; exact HL.out)
  clear hz
  have HSPL : Hid ((splice zs x cs).length = 512) := Lib.hid (by rw [length_splice _ _ _ (by rw [HL.out, ← HM.out]; exact hq)]; exact HL.out)
  by_cases h5 : x = 512
  · have hm0 : m = 0 := by omega
    obtain rfl : z = 512 := by omega
    subst h5
    subst hm0
    go_enter Try.func9, Try.ntmps9
    go_wp2_with (first | (go_at_call 16; refine HO.out.mono ?_; rintro e w' ⟨rfl, hbel⟩; have HB := Lib.hid hbel; clear hbel) | (refine wpList_store_row rfl 44 (.tmp 8) _ rfl w'.heap.size (hdOf zs).cells rfl rfl 44 _ (cells_new w' 44 head0) (size58 _ rfl) rfl HONE.out ?_; have HH1 : Hid (Cells ((w'.alloc (.cells #[.int .u32 0, .int .u32 0, .int .u32 0, .int .u64 0, .int .u8 0, .int .u8 0, .int .i64 0, .int .i64 0] 44)).setRow w'.heap.size (hdOf zs).cells) w'.heap.size 44 (hdOf zs).cells) := Lib.hid (setRow_heap _ _ _ (hdOf zs).cells _ _ (cells_new w' 44 head0)); have HB1 : Hid (Below w.heap.size w ((w'.alloc (.cells #[.int .u32 0, .int .u32 0, .int .u32 0, .int .u64 0, .int .u8 0, .int .u8 0, .int .i64 0, .int .i64 0] 44)).setRow w'.heap.size (hdOf zs).cells)) := Lib.hid (below_head HB.out HB.out.size (hdOf zs).cells); have HSV : Hid (((w'.alloc (.cells #[.int .u32 0, .int .u32 0, .int .u32 0, .int .u64 0, .int .u8 0, .int .u8 0, .int .i64 0, .int .i64 0] 44)).setRow w'.heap.size (hdOf zs).cells).heap.size = w'.heap.size + 1) := Lib.hid (by simp only [size_setRow, World.size_alloc]); generalize (w'.alloc (.cells #[.int .u32 0, .int .u32 0, .int .u32 0, .int .u64 0, .int .u8 0, .int .u8 0, .int .i64 0, .int .i64 0] 44)).setRow w'.heap.size (hdOf zs).cells = V at HH1 HB1 HSV ⊢; have c6 : V.cell? ⟨w'.heap.size, 6, none⟩ = some (.int .i64 (c : Int)) := by (rw [HCC.out]; exact (cell_of_row V w'.heap.size 6 _ _ _ HH1.out).trans rfl)) | (go_at_call 21; go_must (refine (HCA.out V HB1.out).mono ?_; rintro e V ⟨rfl, rfl⟩)) | (at_make; go_must (refine wpList_make_own _ rfl _ _ 24 rfl _ 5 i0 (.int .u8 0) 1 Try.underlying24 hi hz0 hz1 .i64 .i64 512 512 rfl rfl rfl HBT.out (by unfold maxLen; decide) (Nat.le_refl _) ?_; intro w2 ho2 hg2; rw [HSV.out] at ho2 ⊢; have HO2 := Lib.hid ho2; have HH2 := Lib.hid (cells_grown HH1.out hg2 (by simp)); have HB2 := Lib.hid (HB1.out.grown hg2 HB1.out.size (fun k hk => by cases hk)); clear ho2 hg2)) | (at_builtin; go_must (refine wpList_append_fits _ rfl (.tmp 49) (.tmp 50) 24 rfl _ 5 i0 1 Try.underlying24 hi hz1 _ 0 512 [] rfl HO2.out ⟨gs, off, none⟩ 512 cap (u8s zs) rfl HU.out (bytes_cells (bytes_below HBY.out HB2.out)) (u8s_one _) (by decide) ?_; intro w3 ho3 hg3; simp only [Nat.zero_add, List.nil_append] at ho3; have HC3 := Lib.hid (own_cells ho3); have HH3 := Lib.hid (cells_grown HH2.out hg3 (by simp)); have HB3 := Lib.hid (HB2.out.grown hg3 HB2.out.size (fun k hk => by cases hk; exact Nat.le_succ_of_le HB.out.size)); have c7 : w3.cell? ⟨w'.heap.size, 7, none⟩ = some (.int .i64 (lo : Int)) := (by rw [HLO.out]; exact (cell_of_row w3 w'.heap.size 7 _ _ _ HH3.out).trans rfl); have c63 : w3.cell? ⟨w'.heap.size, 6, none⟩ = some (.int .i64 (c : Int)) := (by rw [HCC.out]; exact (cell_of_row w3 w'.heap.size 6 _ _ _ HH3.out).trans rfl); clear ho3 hg3)) | (refine wpList_copy_splice rfl (.tmp 62) (.tmp 63) 24 24 rfl 5 Try.underlying24 size5 (some ⟨w'.heap.size + 1, 0, none⟩) ca 0 0 0 ccap (by simp [Act.eval]) (by simp [Act.eval]) (w'.heap.size + 1) 512 (u8s zs) 5 HC3.out (u8s cs) (by rw [HXS.out]; simp) (fun hpos => absurd hpos (by rw [HXS.out]; omega)) (by rw [HXS.out, HSL.out]; exact hq) (u8s_one _) (w'.heap.size + 1) w3 (Below.refl _ _) (Nat.le_refl _) ?_; intro w5 hg5 hb5; have HC5 : Hid (Cells w5 (w'.heap.size + 1) 5 (u8c (splice zs 512 cs))) := Lib.hid (by unfold Cells; rw [hg5.out, u8s_splice]; rfl); have HB5 : Hid (Below w.heap.size w w5) := Lib.hid (HB3.out.trans (hb5.mono (Nat.le_succ_of_le HB.out.size))); have HSS := Lib.hid (setSlot_any (w'.heap.size + 1) 512 (splice zs 512 cs) i 512 0 w5 HC5.out HSPL.out hi30 hx5 hm5); clear hg5 hb5) | (go_at_call 22; go_must (refine HSS.out.mono ?_; rintro e w6 ⟨rfl, hc6, hw6⟩; have HC6 := Lib.hid hc6; have HB6 := Lib.hid (below_wrote HB5.out hw6 (Nat.le_succ_of_le HB.out.size) (Nat.le_trans HB.out.size (Nat.le_of_lt (Nat.lt_of_succ_lt (Array.getElem?_eq_some_iff.1 HC5.out).1)))); clear hc6 hw6)))
    go_ret2
    exact ⟨_, rfl, by rw [← HEND.out, slotSet]; exact HC6.out, Nat.le_succ_of_le HB.out.size, HB6.out⟩
  · have k4 : ¬ 512 = x := by omega
    go_enter Try.func9, Try.ntmps9
    go_wp2_with (first | (go_at_call 16; refine HO.out.mono ?_; rintro e w' ⟨rfl, hbel⟩; have HB := Lib.hid hbel; clear hbel) | (refine wpList_store_row rfl 44 (.tmp 8) _ rfl w'.heap.size (hdOf zs).cells rfl rfl 44 _ (cells_new w' 44 head0) (size58 _ rfl) rfl HONE.out ?_; have HH1 : Hid (Cells ((w'.alloc (.cells #[.int .u32 0, .int .u32 0, .int .u32 0, .int .u64 0, .int .u8 0, .int .u8 0, .int .i64 0, .int .i64 0] 44)).setRow w'.heap.size (hdOf zs).cells) w'.heap.size 44 (hdOf zs).cells) := Lib.hid (setRow_heap _ _ _ (hdOf zs).cells _ _ (cells_new w' 44 head0)); have HB1 : Hid (Below w.heap.size w ((w'.alloc (.cells #[.int .u32 0, .int .u32 0, .int .u32 0, .int .u64 0, .int .u8 0, .int .u8 0, .int .i64 0, .int .i64 0] 44)).setRow w'.heap.size (hdOf zs).cells)) := Lib.hid (below_head HB.out HB.out.size (hdOf zs).cells); have HSV : Hid (((w'.alloc (.cells #[.int .u32 0, .int .u32 0, .int .u32 0, .int .u64 0, .int .u8 0, .int .u8 0, .int .i64 0, .int .i64 0] 44)).setRow w'.heap.size (hdOf zs).cells).heap.size = w'.heap.size + 1) := Lib.hid (by simp only [size_setRow, World.size_alloc]); generalize (w'.alloc (.cells #[.int .u32 0, .int .u32 0, .int .u32 0, .int .u64 0, .int .u8 0, .int .u8 0, .int .i64 0, .int .i64 0] 44)).setRow w'.heap.size (hdOf zs).cells = V at HH1 HB1 HSV ⊢; have c6 : V.cell? ⟨w'.heap.size, 6, none⟩ = some (.int .i64 (c : Int)) := by (rw [HCC.out]; exact (cell_of_row V w'.heap.size 6 _ _ _ HH1.out).trans rfl)) | (go_at_call 21; go_must (refine (HCA.out V HB1.out).mono ?_; rintro e V ⟨rfl, rfl⟩)) | (at_make; go_must (refine wpList_make_own _ rfl _ _ 24 rfl _ 5 i0 (.int .u8 0) 1 Try.underlying24 hi hz0 hz1 .i64 .i64 512 512 rfl rfl rfl HBT.out (by unfold maxLen; decide) (Nat.le_refl _) ?_; intro w2 ho2 hg2; rw [HSV.out] at ho2 ⊢; have HO2 := Lib.hid ho2; have HH2 := Lib.hid (cells_grown HH1.out hg2 (by simp)); have HB2 := Lib.hid (HB1.out.grown hg2 HB1.out.size (fun k hk => by cases hk)); clear ho2 hg2)) | (at_builtin; go_must (refine wpList_append_fits _ rfl (.tmp 49) (.tmp 50) 24 rfl _ 5 i0 1 Try.underlying24 hi hz1 _ 0 512 [] rfl HO2.out ⟨gs, off, none⟩ 512 cap (u8s zs) rfl HU.out (bytes_cells (bytes_below HBY.out HB2.out)) (u8s_one _) (by decide) ?_; intro w3 ho3 hg3; simp only [Nat.zero_add, List.nil_append] at ho3; have HC3 := Lib.hid (own_cells ho3); have HH3 := Lib.hid (cells_grown HH2.out hg3 (by simp)); have HB3 := Lib.hid (HB2.out.grown hg3 HB2.out.size (fun k hk => by cases hk; exact Nat.le_succ_of_le HB.out.size)); have c7 : w3.cell? ⟨w'.heap.size, 7, none⟩ = some (.int .i64 (lo : Int)) := (by rw [HLO.out]; exact (cell_of_row w3 w'.heap.size 7 _ _ _ HH3.out).trans rfl); have c63 : w3.cell? ⟨w'.heap.size, 6, none⟩ = some (.int .i64 (c : Int)) := (by rw [HCC.out]; exact (cell_of_row w3 w'.heap.size 6 _ _ _ HH3.out).trans rfl); clear ho3 hg3)) | (refine wpList_copy_splice rfl (.tmp 62) (.tmp 63) 24 24 rfl 5 Try.underlying24 size5 (some ⟨w'.heap.size + 1, x, none⟩) ca m (512 - x) m ccap (by simp [Act.eval]) (by simp [Act.eval]) (w'.heap.size + 1) x (u8s zs) 5 HC3.out (u8s cs) (by rw [HXS.out]; simp) (fun hpos => ⟨rfl, by (obtain ⟨b, o, e, _⟩ := HCY.out.2.2 0 (by rw [← HM.out]; rw [HXS.out] at hpos; exact hpos); subst e; exact ⟨_, rfl, bytes_cells (bytes_below HCY.out HB3.out)⟩)⟩) (by rw [HXS.out, HSL.out]; exact hq) (u8s_one _) (w'.heap.size + 1) w3 (Below.refl _ _) (Nat.le_refl _) ?_; intro w5 hg5 hb5; have HC5 : Hid (Cells w5 (w'.heap.size + 1) 5 (u8c (splice zs x cs))) := Lib.hid (by unfold Cells; rw [hg5.out, u8s_splice]; rfl); have HB5 : Hid (Below w.heap.size w w5) := Lib.hid (HB3.out.trans (hb5.mono (Nat.le_succ_of_le HB.out.size))); have HSS := Lib.hid (setSlot_any (w'.heap.size + 1) 512 (splice zs x cs) i x m w5 HC5.out HSPL.out hi30 hx5 hm5); clear hg5 hb5) | (go_at_call 22; go_must (refine HSS.out.mono ?_; rintro e w6 ⟨rfl, hc6, hw6⟩; have HC6 := Lib.hid hc6; have HB6 := Lib.hid (below_wrote HB5.out hw6 (Nat.le_succ_of_le HB.out.size) (Nat.le_trans HB.out.size (Nat.le_of_lt (Nat.lt_of_succ_lt (Array.getElem?_eq_some_iff.1 HC5.out).1)))); clear hc6 hw6)))
    go_ret2
    exact ⟨_, rfl, by rw [← HEND.out, slotSet]; exact HC6.out, Nat.le_succ_of_le HB.out.size, HB6.out⟩
set_option maxHeartbeats 2000000 in
theorem replace_full {gs off : Nat} {ca : Option Addr} {cap ccap : Nat} {zs cs : List Nat} (i : Nat) {w : World} (hb : BytesAt w (some ⟨gs, off, none⟩) zs) (hg : Good zs) (hc : BytesAt w ca cs)
    (hin : i < rd zs 14 2) (hgt : rd zs (28 + 4 * i) 2 < cs.length) (hfree : 512 + rd zs (28 + 4 * i) 2 < 26 + 4 * rd zs 14 2 + sizes zs (rd zs 14 2) + cs.length) :
    Calls Try.prog 9 #[.slice (some ⟨gs, off, none⟩) 512 cap, .int .i64 (i : Int), .slice ca cs.length ccap] w fun e w' => e = .returned (.tuple #[.slice none 0 0, .int .i64 7]) ∧ Below w.heap.size w w' := by
  have hl : zs.length = 512 := hg.1
  have HO : Hid (Calls Try.prog 16 #[.slice (some ⟨gs, off, none⟩) 512 cap] w (OpenedGood w zs)) := by
    have := open_good (cap := cap) hb hg
    rw [hl] at this
    exact Lib.hid this
  have HONE := Lib.hid (hd_one (hdOf zs))
  have HL := Lib.hid hl
  have HBY := Lib.hid hb
  have h512 : rd zs 16 2 ≤ 512 := hg.2.2.2.1
  have hend : 26 + 4 * rd zs 14 2 ≤ rd zs 16 2 := hg.2.2.1
  have hcell := good_cell hg i hin
  have hft1 := (good_fitting hg).1
  have hi30 : 30 + 4 * i ≤ 512 := by omega
  have HCA : Hid (∀ V, Below w.heap.size w V → Calls Try.prog 21 #[.slice (some ⟨gs, off, none⟩) 512 cap, .int .i64 (i : Int)] V fun e w' => e = .returned (.tuple #[.int .i64 (rd zs (26 + 4 * i) 2 : Int), .int .i64 (rd zs (28 + 4 * i) 2 : Int)]) ∧ V = w') := Lib.hid (fun V hV => by
    have := cellAt_any (some ⟨gs, off, none⟩) cap zs i V (bytes_below hb hV) (by omega) (by omega)
    rw [hl] at this
    exact this)
  have hmx := hc.2.1
  unfold maxLen at hmx
  obtain ⟨c, hcc⟩ : ∃ c, c = rd zs 14 2 := ⟨_, rfl⟩
  obtain ⟨x, hx⟩ : ∃ x, x = rd zs (26 + 4 * i) 2 := ⟨_, rfl⟩
  obtain ⟨y, hy⟩ : ∃ y, y = rd zs (28 + 4 * i) 2 := ⟨_, rfl⟩
  obtain ⟨m, hm⟩ : ∃ m, m = cs.length := ⟨_, rfl⟩
  obtain ⟨lo, hlo⟩ : ∃ lo, lo = rd zs 16 2 := ⟨_, rfl⟩
  obtain ⟨f, hf⟩ : ∃ f, f = sizes zs c := ⟨_, rfl⟩
  have HCC := Lib.hid hcc
  have HLO := Lib.hid hlo
  have HM := Lib.hid hm
  have HFF := Lib.hid hf
  rw [← hcc] at hin hend hft1 hfree
  rw [← hlo] at h512 hend
  rw [← hx, ← hy] at HCA hcell
  rw [← hy] at hgt hfree
  rw [← hm] at hgt hfree hmx ⊢
  rw [← hf] at hft1 hfree
  clear hb hg hc hl hcc hlo hx hy hm hf
  go_enter Try.func9, Try.ntmps9
  go_wp2_with (first | (go_at_call 16; refine HO.out.mono ?_; rintro e w' ⟨rfl, hbel⟩; have HB := Lib.hid hbel; clear hbel) | (refine wpList_store_row rfl 44 (.tmp 8) _ rfl w'.heap.size (hdOf zs).cells rfl rfl 44 _ (cells_new w' 44 head0) (size58 _ rfl) rfl HONE.out ?_; have HH1 : Hid (Cells ((w'.alloc (.cells #[.int .u32 0, .int .u32 0, .int .u32 0, .int .u64 0, .int .u8 0, .int .u8 0, .int .i64 0, .int .i64 0] 44)).setRow w'.heap.size (hdOf zs).cells) w'.heap.size 44 (hdOf zs).cells) := Lib.hid (setRow_heap _ _ _ (hdOf zs).cells _ _ (cells_new w' 44 head0)); have HB1 : Hid (Below w.heap.size w ((w'.alloc (.cells #[.int .u32 0, .int .u32 0, .int .u32 0, .int .u64 0, .int .u8 0, .int .u8 0, .int .i64 0, .int .i64 0] 44)).setRow w'.heap.size (hdOf zs).cells)) := Lib.hid (below_head HB.out HB.out.size (hdOf zs).cells); have HSV : Hid (((w'.alloc (.cells #[.int .u32 0, .int .u32 0, .int .u32 0, .int .u64 0, .int .u8 0, .int .u8 0, .int .i64 0, .int .i64 0] 44)).setRow w'.heap.size (hdOf zs).cells).heap.size = w'.heap.size + 1) := Lib.hid (by simp only [size_setRow, World.size_alloc]); generalize (w'.alloc (.cells #[.int .u32 0, .int .u32 0, .int .u32 0, .int .u64 0, .int .u8 0, .int .u8 0, .int .i64 0, .int .i64 0] 44)).setRow w'.heap.size (hdOf zs).cells = V at HH1 HB1 HSV ⊢; have c6 : V.cell? ⟨w'.heap.size, 6, none⟩ = some (.int .i64 (c : Int)) := by (rw [HCC.out]; exact (cell_of_row V w'.heap.size 6 _ _ _ HH1.out).trans rfl)) | (go_at_call 21; go_must (refine (HCA.out V HB1.out).mono ?_; rintro e V ⟨rfl, rfl⟩)) | (go_at_call 18; go_must (refine (free_any w'.heap.size c cap (some ⟨gs, off, none⟩) zs V (bytes_below HBY.out HB1.out) HL.out c6 (by omega)).mono ?_; rw [← HFF.out]; rintro e V ⟨rfl, rfl⟩)))
  go_ret2
  exact ⟨rfl, HB1.out⟩
set_option maxHeartbeats 2000000 in
theorem replace_grow {gs off : Nat} {ca : Option Addr} {cap ccap : Nat} {zs cs : List Nat} (i : Nat) {w : World} (hb : BytesAt w (some ⟨gs, off, none⟩) zs) (hg : Good zs) (hc : BytesAt w ca cs)
    (hin : i < rd zs 14 2) (hgt : rd zs (28 + 4 * i) 2 < cs.length) (hfree : 26 + 4 * rd zs 14 2 + sizes zs (rd zs 14 2) + cs.length ≤ 512 + rd zs (28 + 4 * i) 2) :
    Calls Try.prog 9 #[.slice (some ⟨gs, off, none⟩) 512 cap, .int .i64 (i : Int), .slice ca cs.length ccap] w (PageOut w (repOf zs i cs)) := by
  obtain ⟨i0, hi, hz0, hz1, hz2⟩ := info_parts info5
  have hl : zs.length = 512 := hg.1
  have HO : Hid (Calls Try.prog 16 #[.slice (some ⟨gs, off, none⟩) 512 cap] w (OpenedGood w zs)) := by
    have := open_good (cap := cap) hb hg
    rw [hl] at this
    exact Lib.hid this
  have HONE := Lib.hid (hd_one (hdOf zs))
  have HL := Lib.hid hl
  have HF := Lib.hid (hdOf_fits hb.1 (by omega))
  have HU : Hid ((u8s zs).length = 512 * 1) := Lib.hid (by simp [u8s]; exact HL.out)
  have HBY := Lib.hid hb
  have HCY := Lib.hid hc
  have hbt : i0.bytes * 512 ≤ 281474976710656 := by rw [hz2]; decide
  have HBT := Lib.hid hbt
  have h512 : rd zs 16 2 ≤ 512 := hg.2.2.2.1
  have hend : 26 + 4 * rd zs 14 2 ≤ rd zs 16 2 := hg.2.2.1
  have hcell := good_cell hg i hin
  have hft1 := (good_fitting hg).1
  have hi30 : 30 + 4 * i ≤ 512 := by omega
  have HCA : Hid (∀ V, Below w.heap.size w V → Calls Try.prog 21 #[.slice (some ⟨gs, off, none⟩) 512 cap, .int .i64 (i : Int)] V fun e w' => e = .returned (.tuple #[.int .i64 (rd zs (26 + 4 * i) 2 : Int), .int .i64 (rd zs (28 + 4 * i) 2 : Int)]) ∧ V = w') := Lib.hid (fun V hV => by
    have := cellAt_any (some ⟨gs, off, none⟩) cap zs i V (bytes_below hb hV) (by omega) (by omega)
    rw [hl] at this
    exact this)
  have HEND1 : Hid (26 + 4 * rd zs 14 2 + cs.length ≤ rd zs 16 2 → pushed (slotSet zs i (rd zs 16 2) 0) (hdOf zs) i (rd zs 16 2 - cs.length) cs = repOf zs i cs) := Lib.hid (fun h => by rw [repOf, if_neg (by omega), if_pos h])
  have HEND2 : Hid (¬ 26 + 4 * rd zs 14 2 + cs.length ≤ rd zs 16 2 → pushed (relaid (slotSet zs i (rd zs 16 2) 0) (hdOf zs)) { hdOf zs with low := 512 - sizes (slotSet zs i (rd zs 16 2) 0) (rd zs 14 2) } i (512 - sizes (slotSet zs i (rd zs 16 2) 0) (rd zs 14 2) - cs.length) cs = repOf zs i cs) := Lib.hid (fun h => by rw [repOf, if_neg (by omega), if_neg h])
  have HZF : Hid (Fitting (slotSet zs i (rd zs 16 2) 0) (hdOf zs).count) := Lib.hid (slotSet_fitting hb.1 hg i _ hin h512)
  have HZB : Hid (∀ c ∈ slotSet zs i (rd zs 16 2) 0, c < 256) := Lib.hid (slotSet_bytes hb.1 _ _ _)
  have hzs : sizes (slotSet zs i (rd zs 16 2) 0) (rd zs 14 2) + rd zs (28 + 4 * i) 2 = sizes zs (rd zs 14 2) := slotSet_sizes hb.1 i (rd zs 16 2) 0 (by omega) (by omega) _ hin
  have HZL : Hid ((slotSet zs i (rd zs 16 2) 0).length = 512) := Lib.hid (by rw [slotSet_length]; exact hl)
  have HSEQ : Hid (lay (lay zs (26 + 4 * i) (rd zs 16 2) 2) (28 + 4 * i) 0 2 = slotSet zs i (rd zs 16 2) 0) := Lib.hid (by rw [slotSet])
  obtain ⟨c, hcc⟩ : ∃ c, c = rd zs 14 2 := ⟨_, rfl⟩
  obtain ⟨x, hx⟩ : ∃ x, x = rd zs (26 + 4 * i) 2 := ⟨_, rfl⟩
  obtain ⟨y, hy⟩ : ∃ y, y = rd zs (28 + 4 * i) 2 := ⟨_, rfl⟩
  obtain ⟨m, hm⟩ : ∃ m, m = cs.length := ⟨_, rfl⟩
  obtain ⟨lo, hlo⟩ : ∃ lo, lo = rd zs 16 2 := ⟨_, rfl⟩
  obtain ⟨f, hf⟩ : ∃ f, f = sizes zs c := ⟨_, rfl⟩
  have HCC := Lib.hid hcc
  have HLO := Lib.hid hlo
  have HM := Lib.hid hm
  have HFF := Lib.hid hf
  rw [← hcc] at hin hend hft1 hfree HEND1 HEND2 hzs
  rw [← hlo] at h512 hend HEND1 HEND2 HZF HZB hzs HZL HSEQ
  rw [← hx, ← hy] at HCA hcell
  rw [← hy] at hgt hfree hzs
  rw [← hm] at hgt hfree HEND1 HEND2 ⊢
  rw [← hf] at hft1 hfree hzs
  obtain ⟨z1, hz1⟩ : ∃ z1, z1 = slotSet zs i lo 0 := ⟨_, rfl⟩
  rw [← hz1] at HEND1 HEND2 HZF HZB hzs HZL HSEQ
  obtain ⟨f1, hf1⟩ : ∃ f1, f1 = sizes z1 c := ⟨_, rfl⟩
  rw [← hf1] at HEND2 hzs
  have HF1 := Lib.hid hf1
  have hlo5 : lo < 65536 := by omega
  clear hb hg hc hbt hl hcc hlo hx hy hm hf hz1 hf1
  go_enter Try.func9, Try.ntmps9
  go_wp2_with (first | (go_at_call 16; refine HO.out.mono ?_; rintro e w' ⟨rfl, hbel⟩; have HB := Lib.hid hbel; clear hbel) | (refine wpList_store_row rfl 44 (.tmp 8) _ rfl w'.heap.size (hdOf zs).cells rfl rfl 44 _ (cells_new w' 44 head0) (size58 _ rfl) rfl HONE.out ?_; have HH1 : Hid (Cells ((w'.alloc (.cells #[.int .u32 0, .int .u32 0, .int .u32 0, .int .u64 0, .int .u8 0, .int .u8 0, .int .i64 0, .int .i64 0] 44)).setRow w'.heap.size (hdOf zs).cells) w'.heap.size 44 (hdOf zs).cells) := Lib.hid (setRow_heap _ _ _ (hdOf zs).cells _ _ (cells_new w' 44 head0)); have HB1 : Hid (Below w.heap.size w ((w'.alloc (.cells #[.int .u32 0, .int .u32 0, .int .u32 0, .int .u64 0, .int .u8 0, .int .u8 0, .int .i64 0, .int .i64 0] 44)).setRow w'.heap.size (hdOf zs).cells)) := Lib.hid (below_head HB.out HB.out.size (hdOf zs).cells); have HSV : Hid (((w'.alloc (.cells #[.int .u32 0, .int .u32 0, .int .u32 0, .int .u64 0, .int .u8 0, .int .u8 0, .int .i64 0, .int .i64 0] 44)).setRow w'.heap.size (hdOf zs).cells).heap.size = w'.heap.size + 1) := Lib.hid (by simp only [size_setRow, World.size_alloc]); generalize (w'.alloc (.cells #[.int .u32 0, .int .u32 0, .int .u32 0, .int .u64 0, .int .u8 0, .int .u8 0, .int .i64 0, .int .i64 0] 44)).setRow w'.heap.size (hdOf zs).cells = V at HH1 HB1 HSV ⊢; have c6 : V.cell? ⟨w'.heap.size, 6, none⟩ = some (.int .i64 (c : Int)) := by (rw [HCC.out]; exact (cell_of_row V w'.heap.size 6 _ _ _ HH1.out).trans rfl)) | (go_at_call 21; go_must (refine (HCA.out V HB1.out).mono ?_; rintro e V ⟨rfl, rfl⟩)) | (go_at_call 18; go_must (refine (free_any w'.heap.size c cap (some ⟨gs, off, none⟩) zs V (bytes_below HBY.out HB1.out) HL.out c6 (by omega)).mono ?_; rw [← HFF.out]; rintro e V ⟨rfl, rfl⟩)) | (at_make; go_must (refine wpList_make_own _ rfl _ _ 24 rfl _ 5 i0 (.int .u8 0) 1 Try.underlying24 hi hz0 hz1 .i64 .i64 512 512 rfl rfl rfl HBT.out (by unfold maxLen; decide) (Nat.le_refl _) ?_; intro w2 ho2 hg2; rw [HSV.out] at ho2 ⊢; have HO2 := Lib.hid ho2; have HH2 := Lib.hid (cells_grown HH1.out hg2 (by simp)); have HB2 := Lib.hid (HB1.out.grown hg2 HB1.out.size (fun k hk => by cases hk)); clear ho2 hg2)) | (at_builtin; go_must (refine wpList_append_fits _ rfl (.tmp 49) (.tmp 50) 24 rfl _ 5 i0 1 Try.underlying24 hi hz1 _ 0 512 [] rfl HO2.out ⟨gs, off, none⟩ 512 cap (u8s zs) rfl HU.out (bytes_cells (bytes_below HBY.out HB2.out)) (u8s_one _) (by decide) ?_; intro w3 ho3 hg3; simp only [Nat.zero_add, List.nil_append] at ho3; have HC3 := Lib.hid (own_cells ho3); have HH3 := Lib.hid (cells_grown HH2.out hg3 (by simp)); have HB3 := Lib.hid (HB2.out.grown hg3 HB2.out.size (fun k hk => by cases hk; exact Nat.le_succ_of_le HB.out.size)); have c7 : w3.cell? ⟨w'.heap.size, 7, none⟩ = some (.int .i64 (lo : Int)) := (by rw [HLO.out]; exact (cell_of_row w3 w'.heap.size 7 _ _ _ HH3.out).trans rfl); have c63 : w3.cell? ⟨w'.heap.size, 6, none⟩ = some (.int .i64 (c : Int)) := (by rw [HCC.out]; exact (cell_of_row w3 w'.heap.size 6 _ _ _ HH3.out).trans rfl); clear ho3 hg3)) | (go_at_call 22; go_must (refine (setSlot_any (w'.heap.size + 1) 512 zs i lo 0 w3 HC3.out HL.out hi30 hlo5 (by decide)).mono ?_; rintro e w5 ⟨rfl, hc5, hw5⟩; have HC5' := Lib.hid hc5; have HH5 := Lib.hid (cells_wrote HH3.out hw5 (by omega)); have HB5 := Lib.hid (below_wrote HB3.out hw5 (Nat.le_succ_of_le HB.out.size) HB3.out.size); clear hc5 hw5)))
  clear c7 c63 c6 HH1 HB1 HO2 HH2 HB2 HC3 HH3 HB3
  have HC5 : Hid (Cells w5 (w'.heap.size + 1) 5 (u8c z1)) := Lib.hid (by rw [← HSEQ.out]; exact HC5'.out)
  clear HC5'
  have c65 : w5.cell? ⟨w'.heap.size, 6, none⟩ = some (.int .i64 (c : Int)) := by rw [HCC.out]; exact (cell_of_row w5 w'.heap.size 6 _ _ _ HH5.out).trans rfl
  have c75 : w5.cell? ⟨w'.heap.size, 7, none⟩ = some (.int .i64 (lo : Int)) := by rw [HLO.out]; exact (cell_of_row w5 w'.heap.size 7 _ _ _ HH5.out).trans rfl
  have HSE := Lib.hid (fun n => slotsEnd_any w'.heap.size c (by omega) (w5.drewN n) (show (w5.drewN n).cell? ⟨w'.heap.size, 6, none⟩ = _ from c65))
  have hw1 : IntKind.i64.wrap ((lo : Int) - (26 + 4 * (c : Int))) = (lo : Int) - (26 + 4 * (c : Int)) := IntWalk.i64_in _ (by omega)
  by_cases hroom : 26 + 4 * c + m ≤ lo
  · have hd1 : decide ((lo : Int) - (26 + 4 * (c : Int)) < (m : Int)) = false := decide_eq_false (by omega)
    go_quiet ((go_at_call 19; exact Calls.quiet_of_same (HSE.out _)))
    have HH6 : Hid (Cells (w5.drewN nq) w'.heap.size 44 (hdOf zs).cells) := HH5
    have HC6 : Hid (Cells (w5.drewN nq) (w'.heap.size + 1) 5 (u8c z1)) := HC5
    have HB6 : Hid (Below w.heap.size w (w5.drewN nq)) := Lib.hid (below_drewN HB5.out nq)
    clear hw1 hd1 HSE c65 c75 HH5 HC5 HB5
    generalize w5.drewN nq = w6 at HH6 HC6 HB6 ⊢
    obtain ⟨g, hgg⟩ : ∃ g, g = w'.heap.size + 1 := ⟨_, rfl⟩
    have HG : Hid (w'.heap.size < g) := Lib.hid (by omega)
    rw [← hgg] at HC6 ⊢
    obtain ⟨zs1, hz1⟩ : ∃ zs1, zs1 = z1 := ⟨_, rfl⟩
    obtain ⟨H1, hH1⟩ : ∃ H1, H1 = hdOf zs := ⟨_, rfl⟩
    obtain ⟨lo1, hlo1⟩ : ∃ lo1, lo1 = lo := ⟨_, rfl⟩
    have HEN : Hid (pushed zs1 H1 i (lo1 - m) cs = repOf zs i cs) := Lib.hid (by rw [hz1, hH1, hlo1]; exact HEND1.out hroom)
    have HL1 : Hid (zs1.length = 512) := Lib.hid (by rw [hz1]; exact HZL.out)
    rw [← hz1] at HC6
    rw [← hH1] at HH6
    have HF1' : Hid H1.Fits := Lib.hid (by rw [hH1]; exact HF.out)
    have HLO1 : Hid (lo1 = H1.low) := Lib.hid (by rw [hlo1, hH1]; exact HLO.out)
    have hr1 : 26 + 4 * c + m ≤ lo1 := by omega
    have hr2 : lo1 ≤ 512 := by omega
    clear hz1 hH1 hlo1 hgg hroom h512 hend
    have hap : 0 < cs.length → Apart ca w'.heap.size := by
      intro hpos ad' e
      subst e
      obtain ⟨b, o, e', hcell⟩ := HCY.out.2.2 0 hpos
      cases e'
      have h1 := World.block_lt_of_cell? w _ hcell
      have h2 := HB.out.size
      show b ≠ _
      have h1' : b < w.heap.size := h1
      omega
    have hpu := push_any w'.heap.size g 512 ccap H1 zs1 cs i (lo1 - m) ca w6 HF1'.out HG.out HL1.out (Nat.le_refl _) HH6.out HC6.out (bytes_below HCY.out HB6.out) hap (by rw [← HLO1.out, ← HM.out]; omega) (by rw [← HM.out]; omega) hi30
    rw [← HM.out, HEN.out] at hpu
    have HPU := Lib.hid hpu
    clear hpu hap
    go_wp2_with (go_at_call 20; refine HPU.out.mono ?_; rintro e w7 ⟨rfl, hc7, hb7⟩; have HC7 := Lib.hid hc7; have HB7 := Lib.hid hb7; clear hc7 hb7)
    have HE : Hid (PageOut w (repOf zs i cs) (.returned (.tuple #[.slice (some ⟨g, 0, none⟩) 512 512, .int .i64 0])) w7) :=
      Lib.hid ⟨g, rfl, HC7.out, Nat.le_trans HB.out.size (Nat.le_of_lt HG.out), HB6.out.trans (HB7.out.mono HB.out.size)⟩
    go_ret2
    exact HE.out
  · have hd1 : decide ((lo : Int) - (26 + 4 * (c : Int)) < (m : Int)) = true := decide_eq_true (by omega)
    go_quiet ((go_at_call 19; exact Calls.quiet_of_same (HSE.out _)))
    have HB6' : Hid (Below w.heap.size w (w5.drewN nq)) := Lib.hid (below_drewN HB5.out nq)
    have HRE := Lib.hid (relaid_any (cap := 512) (w := w5.drewN nq) (cells_bytes (show Cells (w5.drewN nq) _ _ _ from HC5.out) HZB.out (by rw [HZL.out]; unfold maxLen; decide)) HZL.out (Nat.le_refl _) (by decide) HZF.out HF.out (show Cells (w5.drewN nq) _ _ _ from HH5.out) (by omega))
    have hlt3 : w'.heap.size < (w5.drewN nq).heap.size := (Array.getElem?_eq_some_iff.1 (show (w5.drewN nq).heap[w'.heap.size]? = some _ from HH5.out)).1
    have HLT3 := Lib.hid hlt3
    clear hw1 hd1 HSE c65 c75 HH5 HC5 HB5 hlt3
    generalize w5.drewN nq = V at HRE HB6' HLT3 ⊢
    go_wp2_with fail
    refine HRE.out.mono ?_
    rintro e w6 ⟨rfl, hc6, hh6, hb6⟩
    have HB6 : Hid (Below w.heap.size w w6) := Lib.hid (HB6'.out.trans (hb6.mono HB.out.size))
    obtain ⟨g, hgg⟩ : ∃ g, g = V.heap.size := ⟨_, rfl⟩
    have HG : Hid (w'.heap.size < g) := Lib.hid (by rw [hgg]; exact HLT3.out)
    rw [← hgg] at hc6 ⊢
    obtain ⟨zs1, hz1⟩ : ∃ zs1, zs1 = relaid z1 (hdOf zs) := ⟨_, rfl⟩
    obtain ⟨lo1, hlo1⟩ : ∃ lo1, lo1 = 512 - f1 := ⟨_, rfl⟩
    obtain ⟨H1, hH1⟩ : ∃ H1 : Hd, H1 = { hdOf zs with low := lo1 } := ⟨_, rfl⟩
    have HEN : Hid (pushed zs1 H1 i (lo1 - m) cs = repOf zs i cs) := Lib.hid (by rw [hz1, hH1, hlo1]; exact HEND2.out hroom)
    have HL1 : Hid (zs1.length = 512) := Lib.hid (by rw [hz1, relaid, wr_length]; exact relOut_length HZL.out HZF.out (Nat.le_refl _))
    rw [← hz1] at hc6
    have HC6 := Lib.hid hc6
    have HH6 : Hid (Cells w6 w'.heap.size 44 H1.cells) := Lib.hid (by
      rw [hH1, hlo1, HF1.out, HCC.out]
      exact hh6)
    have HF1' : Hid H1.Fits := Lib.hid (by rw [hH1]; exact ⟨HF.out.1, HF.out.2.1, HF.out.2.2.1, HF.out.2.2.2.1, HF.out.2.2.2.2.1, HF.out.2.2.2.2.2.1, HF.out.2.2.2.2.2.2.1, by show lo1 < 65536; omega⟩)
    have HLO1 : Hid (lo1 = H1.low) := Lib.hid (by rw [hH1])
    have hr1 : 26 + 4 * c + m ≤ lo1 := by omega
    have hr2 : lo1 ≤ 512 := by omega
    clear hz1 hH1 hlo1 hgg hroom h512 hend hc6 hh6 hb6
    have hap : 0 < cs.length → Apart ca w'.heap.size := by
      intro hpos ad' e
      subst e
      obtain ⟨b, o, e', hcell⟩ := HCY.out.2.2 0 hpos
      cases e'
      have h1 := World.block_lt_of_cell? w _ hcell
      have h2 := HB.out.size
      show b ≠ _
      have h1' : b < w.heap.size := h1
      omega
    have hpu := push_any w'.heap.size g 512 ccap H1 zs1 cs i (lo1 - m) ca w6 HF1'.out HG.out HL1.out (Nat.le_refl _) HH6.out HC6.out (bytes_below HCY.out HB6.out) hap (by rw [← HLO1.out, ← HM.out]; omega) (by rw [← HM.out]; omega) hi30
    rw [← HM.out, HEN.out] at hpu
    have HPU := Lib.hid hpu
    clear hpu hap
    go_wp2_with (go_at_call 20; refine HPU.out.mono ?_; rintro e w7 ⟨rfl, hc7, hb7⟩; have HC7 := Lib.hid hc7; have HB7 := Lib.hid hb7; clear hc7 hb7)
    have HE : Hid (PageOut w (repOf zs i cs) (.returned (.tuple #[.slice (some ⟨g, 0, none⟩) 512 512, .int .i64 0])) w7) :=
      Lib.hid ⟨g, rfl, HC7.out, Nat.le_trans HB.out.size (Nat.le_of_lt HG.out), HB6.out.trans (HB7.out.mono HB.out.size)⟩
    go_ret2
    exact HE.out
end Go.Proofs.Ytaadeoobmclpcaa
namespace Go.Proofs.Ytaadeoobmclpcaa

theorem pushed_length {zs cs : List Nat} {H : Hd} {i a : Nat} (h : a + cs.length ≤ zs.length) : (pushed zs H i a cs).length = zs.length := by
  rw [pushed, wr_length, lay_length, lay_length, length_splice _ _ _ h]
theorem insertedH_length {zs cs : List Nat} {H : Hd} {i : Nat} (hl : zs.length = 512) (hi : i ≤ H.count) (hc : 30 + 4 * H.count ≤ 512) (hm : cs.length ≤ H.low) (h5 : H.low ≤ 512) : (insertedH zs H i cs).length = 512 := by
  have hs : (splice zs (30 + 4 * i) ((zs.drop (26 + 4 * i)).take (4 * (H.count - i)))).length = 512 := by
    rw [length_splice _ _ _ (by rw [List.length_take, List.length_drop, hl]; omega)]; exact hl
  rw [← insertedH_eq, pushed_length (by rw [hs]; omega)]
  exact hs
theorem insOf_length {zs cs : List Nat} {i : Nat} (hg : Good zs) (hin : i ≤ rd zs 14 2) (hfree : 30 + 4 * rd zs 14 2 + sizes zs (rd zs 14 2) + cs.length ≤ 512) : (insOf zs i cs).length = 512 := by
  have h5 := hg.2.2.2.1
  by_cases h : 30 + 4 * rd zs 14 2 + cs.length ≤ rd zs 16 2
  · rw [insOf, if_pos h]
    exact insertedH_length hg.1 hin (by show 30 + 4 * rd zs 14 2 ≤ 512; omega) (by show cs.length ≤ rd zs 16 2; omega) h5
  · rw [insOf, if_neg h]
    exact insertedH_length (relaid_length hg) hin (by show 30 + 4 * rd zs 14 2 ≤ 512; omega) (by show cs.length ≤ 512 - sizes zs (rd zs 14 2); omega) (by show 512 - sizes zs (rd zs 14 2) ≤ 512; omega)
theorem removed_length {zs : List Nat} {i : Nat} (hg : Good zs) (hin : i < rd zs 14 2) : (removed zs i).length = 512 := by
  have h2 := hg.2.2.1
  have h5 := hg.2.2.2.1
  have hl := hg.1
  rw [← removed_eq, wr_length, lay_length, length_splice _ _ _ (by rw [List.length_take, List.length_drop, hl]; omega)]
  exact hl
theorem repOf_length {zs cs : List Nat} {i : Nat} (hz : ∀ c ∈ zs, c < 256) (hg : Good zs) (hin : i < rd zs 14 2) (hfree : cs.length ≤ rd zs (28 + 4 * i) 2 ∨ 26 + 4 * rd zs 14 2 + sizes zs (rd zs 14 2) + cs.length ≤ 512 + rd zs (28 + 4 * i) 2) : (repOf zs i cs).length = 512 := by
  have h2 := hg.2.2.1
  have h5 := hg.2.2.2.1
  have hl := hg.1
  have hcell := good_cell hg i hin
  have hz1 : (slotSet zs i (rd zs 16 2) 0).length = 512 := by rw [slotSet_length]; exact hl
  have hft := slotSet_fitting hz hg i _ hin h5
  have hft1 := hft.1
  have hzs : sizes (slotSet zs i (rd zs 16 2) 0) (rd zs 14 2) + rd zs (28 + 4 * i) 2 = sizes zs (rd zs 14 2) := slotSet_sizes hz i (rd zs 16 2) 0 (by omega) (by omega) _ hin
  rw [repOf]
  by_cases h : cs.length ≤ rd zs (28 + 4 * i) 2
  · rw [if_pos h, repIn, slotSet_length, length_splice _ _ _ (by omega)]
    exact hl
  · rw [if_neg h]
    by_cases h' : 26 + 4 * rd zs 14 2 + cs.length ≤ rd zs 16 2
    · rw [if_pos h', pushed_length (by rw [hz1]; omega)]
      exact hz1
    · rw [if_neg h']
      have hr : (relaid (slotSet zs i (rd zs 16 2) 0) (hdOf zs)).length = 512 := by
        rw [relaid, wr_length]; exact relOut_length hz1 hft (Nat.le_refl _)
      rw [pushed_length (by rw [hr]; omega)]
      exact hr
end Go.Proofs.Ytaadeoobmclpcaa
