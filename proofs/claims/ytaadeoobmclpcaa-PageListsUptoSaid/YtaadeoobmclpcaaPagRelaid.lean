/- A page is laid out anew: a contract. -/
import Derived.Test.YtaadeoobmclpcaaPagGet
namespace Go.Proofs.Ytaadeoobmclpcaa
open Go.ChangeShapes Go.WideShapes Go.ChangeAt Go.RowKit

theorem bytes_wrote {w w' : World} {g off G : Nat} {zs : List Nat} (h : BytesAt w (some ⟨g, off, none⟩) zs) (hw : Wrote G w w') (hne : g ≠ G) : BytesAt w' (some ⟨g, off, none⟩) zs :=
  ⟨h.1, h.2.1, fun j hj => by
    obtain ⟨b, o, e, hc⟩ := h.2.2 j hj
    cases e
    refine ⟨g, off, rfl, ?_⟩
    have hlt := World.block_lt_of_cell? w _ hc
    rw [World.cell?_of_block (hw.1.block g hlt (fun e => hne (by simpa using e)))]
    exact hc⟩
theorem bytes_under {B g off : Nat} {w w' : World} {zs : List Nat} (h : BytesAt w (some ⟨g, off, none⟩) zs) (hb : Below B w w') (hlt : g < B) : BytesAt w' (some ⟨g, off, none⟩) zs :=
  ⟨h.1, h.2.1, fun j hj => by
    obtain ⟨b, o, e, hc⟩ := h.2.2 j hj
    cases e
    exact ⟨g, off, rfl, (hb.cell (p := ⟨g, off + j, none⟩) hlt).trans hc⟩⟩
theorem cells_under {B g : Nat} {w w' : World} {t : TypeId} {cs : Array Value} (h : Cells w g t cs) (hb : Below B w w') (hlt : g < B) : Cells w' g t cs := by
  unfold Cells
  rw [hb.block g hlt]
  exact h
/-- What the loop of relaid keeps. -/
def InRel (w : World) (hb G : Nat) (H : Hd) (zs : List Nat) (g off k : Nat) (wr : World) : Prop :=
  Cells wr G 5 (u8c (relOut zs H.count k)) ∧ Cells wr hb 44 ({ H with low := 512 - sizes zs k } : Hd).cells ∧ BytesAt wr (some ⟨g, off, none⟩) zs ∧ Below hb w wr
/-- What is told of a page laid out anew. -/
def RelOut (w : World) (hb : Nat) (H : Hd) (zs : List Nat) (e : Ending) (w' : World) : Prop :=
  e = .returned (.slice (some ⟨w.heap.size, 0, none⟩) 512 512) ∧ Cells w' w.heap.size 5 (u8c (relaid zs H)) ∧ Cells w' hb 44 ({ H with low := 512 - sizes zs H.count } : Hd).cells ∧ Below hb w w'
attribute [local irreducible] relaid relOut sizes cellOf
set_option maxHeartbeats 1000000 in
theorem relaid_any {hb g off cap : Nat} {H : Hd} {zs : List Nat} {w : World} (hby : BytesAt w (some ⟨g, off, none⟩) zs) (hl : zs.length = 512) (hcap : 512 ≤ cap) (hc63 : cap ≤ 9223372036854775807)
    (hf : Fitting zs H.count) (hF : H.Fits) (hh : Cells w hb 44 H.cells) (hne : g ≠ hb) :
    Calls Try.prog 17 #[.pointer (some ⟨hb, 0, none⟩), .slice (some ⟨g, off, none⟩) 512 cap] w (RelOut w hb H zs) := by
  obtain ⟨i0, hi, hz0, hz1, hz2⟩ := info_parts info5
  have hbt : i0.bytes * 512 ≤ 281474976710656 := by rw [hz2]; decide
  have HBT := Lib.hid hbt
  have hblt : hb < w.heap.size := (Array.getElem?_eq_some_iff.1 hh).1
  have hglt : g < w.heap.size := by
    obtain ⟨b, o, e, hc⟩ := hby.2.2 0 (by omega)
    cases e
    exact World.block_lt_of_cell? w _ hc
  obtain ⟨G, hG⟩ : ∃ G, G = w.heap.size := ⟨_, rfl⟩
  have HG := Lib.hid hG
  obtain ⟨c, hc⟩ : ∃ c, c = H.count := ⟨_, rfl⟩
  have hf1 : 26 + 4 * c + sizes zs c ≤ 512 := by rw [hc]; exact hf.1
  obtain ⟨E, hE⟩ : ∃ E, E = 26 + 4 * c := ⟨_, rfl⟩
  have hE1 : E ≤ 512 := by omega
  have HF1 := Lib.hid hf1
  have HC := Lib.hid hc
  have HFI := Lib.hid hf
  have HF := Lib.hid hF
  have HBY := Lib.hid hby
  have HL := Lib.hid hl
  have HH0 := Lib.hid hh
  have HE := Lib.hid hE
  have HBL : Hid (hb < G) := Lib.hid (by omega)
  have HGL : Hid (g < G) := Lib.hid (by omega)
  have HNE := Lib.hid hne
  have hc5 : c < 65536 := by omega
  have hSE : ∀ V : World, V.cell? ⟨hb, 6, none⟩ = some (.int .i64 (c : Int)) → Calls Try.prog 19 #[.pointer (some ⟨hb, 0, none⟩)] V fun e w' => e = .returned (.int .i64 (E : Int)) ∧ w' = V := by
    intro V h6
    have := slotsEnd_any hb c hc5 V h6
    rw [show (26 : Int) + 4 * (c : Int) = (E : Int) from by omega] at this
    exact this
  have HSE := Lib.hid hSE
  clear hbt hblt hglt hc hf1 hE hby hl hf hF hh hne hSE hG hc5
  have HSL : Hid ((u8s noughts).length = 512) := Lib.hid (by rw [u8s, List.length_map]; exact List.length_replicate)
  have HXL : Hid ((u8s (zs.take E)).length = E) := Lib.hid (by rw [u8s, List.length_map, List.length_take, HL.out]; omega)
  have HSRC : Hid (∀ V : World, BytesAt V (some ⟨g, off, none⟩) zs → ∀ j v, (u8s (zs.take E))[j]? = some v → V.cell? ((⟨g, off, none⟩ : Addr).add j) = some v) := Lib.hid (fun V hV => by
    have := bytes_src hV 0 E
    rwa [List.drop_zero, Nat.add_zero] at this)
  go_enter Try.func17, Try.ntmps17
  go_wp2_with (first | (at_make; refine wpList_make_full _ rfl _ _ 24 rfl _ 5 i0 (.int .u8 0) 1 Try.underlying24 hi hz0 hz1 .i64 .i64 512 512 512 rfl rfl rfl rfl HBT.out (by unfold maxLen; decide) (Nat.le_refl _) ?_; intro w2 ho2 hg2; rw [made_noughts] at ho2; rw [← HG.out] at ho2 ⊢; have HC2 := Lib.hid (own_cells ho2); have HB2 : Hid (Below G w w2) := Lib.hid (by rw [HG.out]; exact (Below.refl w.heap.size w).grown hg2 (Nat.le_refl _) (fun k hk => by cases hk)); clear ho2 hg2; have HH2 := Lib.hid (cells_under HH0.out HB2.out HBL.out); have HY2 := Lib.hid (bytes_under HBY.out HB2.out HGL.out); have hs2 := HSE.out w2 (by rw [HC.out]; exact (cell_of_row w2 hb 6 _ _ _ HH2.out).trans rfl)) | (go_at_call 19; refine hs2.mono ?_; rintro e w2 ⟨rfl, rfl⟩) | (refine wpList_copy_splice rfl (.tmp 10) (.tmp 14) 24 24 rfl 5 Try.underlying24 size5 (some ⟨G, 0, none⟩) (some ⟨g, off, none⟩) 512 512 E cap (by simp [Act.eval]) (by simp [Act.eval]) G 0 (u8s noughts) 5 HC2.out (u8s (zs.take E)) (by rw [HXL.out]; exact (Nat.min_eq_left hE1).symm) (fun _ => ⟨rfl, _, rfl, HSRC.out _ HY2.out⟩) (by rw [HXL.out, HSL.out]; omega) (u8s_one _) G w2 (Below.refl _ _) (Nat.le_refl _) ?_; intro w3 hg3 hb3; have HC3 : Hid (Cells w3 G 5 (u8c (splice noughts 0 (zs.take E)))) := Lib.hid (by unfold Cells; rw [hg3.out, u8s_splice]; rfl); have HH3 := Lib.hid (cells_under HH2.out hb3 HBL.out); have HY3 := Lib.hid (bytes_under HY2.out hb3 HGL.out); have HB3 : Hid (Below G w w3) := Lib.hid (HB2.out.trans hb3); have c63 : w3.cell? ⟨hb, 6, none⟩ = some (.int .i64 (c : Int)) := (by rw [HC.out]; exact (cell_of_row w3 hb 6 _ _ _ HH3.out).trans rfl); have f73 := frozen_of_row w3 hb 7 _ _ HH3.out; have c73 : w3.cell? ⟨hb, 7, none⟩ = some (.int .i64 (H.low : Int)) := (cell_of_row w3 hb 7 _ _ _ HH3.out).trans rfl; clear hg3 hb3))
  clear hs2
  have HI0 : Hid (InRel w hb G H zs g off 0 (w3.setCell ⟨hb, 7, none⟩ (.int .i64 512))) := by
    refine Lib.hid ⟨?_, ?_, bytes_setCell HY3.out (by rintro a e; cases e; exact HNE.out), (HB3.out.mono (Nat.le_of_lt HBL.out)).setCell (Nat.le_refl _) _⟩
    · rw [relOut, ← HC.out, ← HE.out]
      exact cells_setOther HC3.out (by have := HBL.out; omega)
    · rw [sizes]
      exact cells_setCell HH3.out
  clear c63 f73 c73 hi hz0 hz1 hz2
  go_loopw [6, 7, 8, 23] (fun _ _ _ i wr => ∃ k : Nat, k ≤ c ∧ i = .int .i64 k ∧ Hid (InRel w hb G H zs g off k wr)) (fun _ _ _ i _ => (c - (intOf i)).toNat)
  case atStart => exact ⟨0, Nat.zero_le _, rfl, HI0⟩
  case round =>
    obtain ⟨k, hk, rfl, HI⟩ := hrel
    by_cases hlt : k < c
    · have hCA := cellAt_any (some ⟨g, off, none⟩) cap zs k wr HI.out.2.2.1 (by have := HL.out; have := HF1.out; omega) (by have := HL.out; omega)
      rw [HL.out] at hCA
      have hat := HFI.out.2 k (by rw [← HC.out]; exact hlt)
      have hsk : sizes zs (k + 1) = sizes zs k + rd zs (28 + 4 * k) 2 := by rw [sizes]
      have hsm : sizes zs (k + 1) ≤ sizes zs c := sizes_mono zs hlt
      have hsf := HF1.out
      obtain ⟨x, hx⟩ : ∃ x, x = rd zs (26 + 4 * k) 2 := ⟨_, rfl⟩
      obtain ⟨y, hy⟩ : ∃ y, y = rd zs (28 + 4 * k) 2 := ⟨_, rfl⟩
      rw [← hx, ← hy] at hCA hat
      rw [← hy] at hsk
      obtain ⟨lo, hlo⟩ : ∃ lo, lo = 512 - sizes zs k := ⟨_, rfl⟩
      obtain ⟨b, hb'⟩ : ∃ b, b = 512 - sizes zs (k + 1) := ⟨_, rfl⟩
      have hsub : (lo : Int) - (y : Int) = (b : Int) := by omega
      have hlo5 : lo ≤ 512 := by omega
      have hby' : b + y = lo := by omega
      have hkc : 30 + 4 * k ≤ 512 := by omega
      have c7 : wr.cell? ⟨hb, 7, none⟩ = some (.int .i64 (lo : Int)) := by rw [hlo]; exact (cell_of_row wr hb 7 _ _ _ HI.out.2.1).trans rfl
      have f7 := frozen_of_row wr hb 7 _ _ HI.out.2.1
      have HCA := Lib.hid hCA
      have HX := Lib.hid hx; have HY := Lib.hid hy; have HLO := Lib.hid hlo; have HBB := Lib.hid hb'
      clear hCA hx hy hlo hb' hsk hsm hsf
      go_wp2_with (go_at_call 21; refine HCA.out.mono ?_; rintro e w' ⟨rfl, rfl⟩)
      have HI1 : Hid (Cells (wr.setCell ⟨hb, 7, none⟩ (.int .i64 (b : Int))) G 5 (u8c (relOut zs H.count k)) ∧ Cells (wr.setCell ⟨hb, 7, none⟩ (.int .i64 (b : Int))) hb 44 ({ H with low := b } : Hd).cells ∧ BytesAt (wr.setCell ⟨hb, 7, none⟩ (.int .i64 (b : Int))) (some ⟨g, off, none⟩) zs ∧ Below hb w (wr.setCell ⟨hb, 7, none⟩ (.int .i64 (b : Int)))) :=
        Lib.hid ⟨cells_setOther HI.out.1 (by have := HBL.out; omega), cells_setCell HI.out.2.1, bytes_setCell HI.out.2.2.1 (by rintro a e; cases e; exact HNE.out), HI.out.2.2.2.setCell (Nat.le_refl _) _⟩
      generalize wr.setCell ⟨hb, 7, none⟩ (.int .i64 (b : Int)) = w4 at HI1 ⊢
      clear c7 f7 hsub HCA HI
      have c7 : w4.cell? ⟨hb, 7, none⟩ = some (.int .i64 (b : Int)) := (cell_of_row w4 hb 7 _ _ _ HI1.out.2.1).trans rfl
      have HGD : Hid (w4.drew.heap[G]? = some (.cells (u8s (relOut zs H.count k)).toArray 5 (0, 0))) := Lib.hid HI1.out.1
      have HRL : Hid ((relOut zs H.count k).length = 512) := Lib.hid (relOut_length HL.out HFI.out (by rw [← HC.out]; omega))
      have HRS : Hid ((u8s (relOut zs H.count k)).length = 512) := Lib.hid (by rw [u8s, List.length_map]; exact HRL.out)
      have HCL : Hid ((cellOf zs k).length = y) := Lib.hid (by rw [cellOf_length HL.out (HFI.out.2 k (by rw [← HC.out]; exact hlt))]; exact HY.out.symm)
      have HCS : Hid ((u8s (cellOf zs k)).length = y) := Lib.hid (by rw [u8s, List.length_map]; exact HCL.out)
      have HSC : Hid (∀ j v, (u8s (cellOf zs k))[j]? = some v → w4.drew.cell? ((⟨g, off + x, none⟩ : Addr).add j) = some v) := Lib.hid (by
        have h := bytes_src (bytes_drew HI1.out.2.2.1) x y
        rw [HX.out, HY.out] at h
        rw [cellOf, HX.out]
        exact h)
      have hw1 : IntKind.i64.wrap ((b : Int) + (y : Int)) = (lo : Int) := (IntWalk.i64_in _ (by omega)).trans (by omega)
      obtain ⟨z, hz⟩ : ∃ z, z = x + y := ⟨_, rfl⟩
      have hw2 : IntKind.i64.wrap ((x : Int) + (y : Int)) = (z : Int) := (IntWalk.i64_in _ (by omega)).trans (by omega)
      have k1 : b ≤ lo := by omega
      have k3 : lo - b = y := by omega
      have k4 : x ≤ z := by omega
      have k5 : z ≤ cap := by omega
      have k5' : (z : Int) ≤ (cap : Int) := by omega
      have k6 : z - x = y := by omega
      have hlo6 : (lo : Int) ≤ 512 := by omega
      have HZ := Lib.hid hz
      clear hz hby' hat
      have HEND : Hid (y = rd zs (28 + 4 * k) 2 ∧ b = 512 - sizes zs (k + 1) ∧ b < 65536 ∧ y < 65536 ∧ 30 + 4 * k ≤ 512) := Lib.hid ⟨HY.out, HBB.out, by omega, by omega, hkc⟩
      by_cases hy0 : y = 0
      · subst hy0
        obtain rfl : lo = b := by omega
        obtain rfl : z = x := by omega
        have hw3 : IntKind.i64.wrap (lo : Int) = (lo : Int) := IntWalk.i64_in _ (by omega)
        have hw4 : IntKind.i64.wrap (z : Int) = (z : Int) := IntWalk.i64_in _ (by omega)
        have hw5 : IntKind.i64.wrap ((lo : Int) + 0) = (lo : Int) := (IntWalk.i64_in _ (by omega)).trans (by omega)
        have hw6 : IntKind.i64.wrap ((z : Int) + 0) = (z : Int) := (IntWalk.i64_in _ (by omega)).trans (by omega)
        clear hw1 hw2 k3 k6 k1 k4
        by_cases k8 : cap = z
        · subst k8
          go_region_law (refine step_copy_splice rfl (.tmp 57) (.tmp 63) 24 24 rfl 5 Try.underlying24 size5 (some ⟨G, 0, none⟩) (some ⟨g, off, none⟩) 0 0 0 0 (by simp [Act.eval, Act.put]) (by simp [Act.eval, Act.put]) G lo (u8s (relOut zs H.count k)) 5 HGD.out (u8s (cellOf zs k)) (by rw [HCS.out]; simp) (fun h => absurd h (by rw [HCS.out]; omega)) (by rw [HCS.out, HRS.out]; omega) (u8s_one _) G w4.drew (Below.refl _ _) (Nat.le_refl _) ?_; intro w5 hg5 hb5)
          all_goals
            have HC5 : Hid (Cells w5 G 5 (u8c (splice (relOut zs H.count k) lo (cellOf zs k)))) := Lib.hid (by unfold Cells; rw [hg5.out, u8s_splice]; rfl)
            have HH5 : Hid (Cells w5 hb 44 ({ H with low := lo } : Hd).cells) := Lib.hid (cells_under (w := w4.drew) HI1.out.2.1 hb5 HBL.out)
            have HY5 : Hid (BytesAt w5 (some ⟨g, off, none⟩) zs) := Lib.hid (bytes_under (w := w4.drew) HI1.out.2.2.1 hb5 HGL.out)
            have HB5 : Hid (Below hb w w5) := Lib.hid (HI1.out.2.2.2.drew.trans (hb5.mono (Nat.le_of_lt HBL.out)))
            have HSL5 : Hid ((splice (relOut zs H.count k) lo (cellOf zs k)).length = 512) := Lib.hid (by rw [length_splice _ _ _ (by rw [HRL.out, HCL.out]; omega)]; exact HRL.out)
            have HSZ5 : Hid (hb ≤ w5.heap.size) := Lib.hid (Nat.le_of_lt (Array.getElem?_eq_some_iff.1 HH5.out).1)
            have c75 : w5.cell? ⟨hb, 7, none⟩ = some (.int .i64 (lo : Int)) := (cell_of_row w5 hb 7 _ _ _ HH5.out).trans rfl
            have hSS := setSlot_any G 512 _ k lo 0 w5 HC5.out HSL5.out HEND.out.2.2.2.2 HEND.out.2.2.1 HEND.out.2.2.2.1
            have HSS := Lib.hid hSS
            clear hSS hg5 hb5
            go_wp2_with (go_at_call 22; refine HSS.out.mono ?_; rintro e w6 ⟨rfl, hc6, hw6⟩; have HI6 : Hid (InRel w hb G H zs g off (k + 1) w6) := Lib.hid ⟨(by rw [relOut, ← HEND.out.1, ← HEND.out.2.1]; exact hc6), (by rw [← HEND.out.2.1]; exact cells_wrote HH5.out hw6 (Nat.ne_of_lt HBL.out)), bytes_wrote HY5.out hw6 (Nat.ne_of_lt HGL.out), below_wrote HB5.out hw6 (Nat.le_of_lt HBL.out) HSZ5.out⟩; clear hc6 hw6)
            go_roundw
            case rel => exact ⟨k + 1, by omega, by go_num, HI6⟩
            case measure => simp [intOf]; omega
        · go_region_law (refine step_copy_splice rfl (.tmp 57) (.tmp 63) 24 24 rfl 5 Try.underlying24 size5 (some ⟨G, 0, none⟩) (some ⟨g, off + z, none⟩) 0 0 0 (cap - z) (by simp [Act.eval, Act.put]) (by simp [Act.eval, Act.put]) G lo (u8s (relOut zs H.count k)) 5 HGD.out (u8s (cellOf zs k)) (by rw [HCS.out]; simp) (fun h => absurd h (by rw [HCS.out]; omega)) (by rw [HCS.out, HRS.out]; omega) (u8s_one _) G w4.drew (Below.refl _ _) (Nat.le_refl _) ?_; intro w5 hg5 hb5)
          all_goals
            have HC5 : Hid (Cells w5 G 5 (u8c (splice (relOut zs H.count k) lo (cellOf zs k)))) := Lib.hid (by unfold Cells; rw [hg5.out, u8s_splice]; rfl)
            have HH5 : Hid (Cells w5 hb 44 ({ H with low := lo } : Hd).cells) := Lib.hid (cells_under (w := w4.drew) HI1.out.2.1 hb5 HBL.out)
            have HY5 : Hid (BytesAt w5 (some ⟨g, off, none⟩) zs) := Lib.hid (bytes_under (w := w4.drew) HI1.out.2.2.1 hb5 HGL.out)
            have HB5 : Hid (Below hb w w5) := Lib.hid (HI1.out.2.2.2.drew.trans (hb5.mono (Nat.le_of_lt HBL.out)))
            have HSL5 : Hid ((splice (relOut zs H.count k) lo (cellOf zs k)).length = 512) := Lib.hid (by rw [length_splice _ _ _ (by rw [HRL.out, HCL.out]; omega)]; exact HRL.out)
            have HSZ5 : Hid (hb ≤ w5.heap.size) := Lib.hid (Nat.le_of_lt (Array.getElem?_eq_some_iff.1 HH5.out).1)
            have c75 : w5.cell? ⟨hb, 7, none⟩ = some (.int .i64 (lo : Int)) := (cell_of_row w5 hb 7 _ _ _ HH5.out).trans rfl
            have hSS := setSlot_any G 512 _ k lo 0 w5 HC5.out HSL5.out HEND.out.2.2.2.2 HEND.out.2.2.1 HEND.out.2.2.2.1
            have HSS := Lib.hid hSS
            clear hSS hg5 hb5
            go_wp2_with (go_at_call 22; refine HSS.out.mono ?_; rintro e w6 ⟨rfl, hc6, hw6⟩; have HI6 : Hid (InRel w hb G H zs g off (k + 1) w6) := Lib.hid ⟨(by rw [relOut, ← HEND.out.1, ← HEND.out.2.1]; exact hc6), (by rw [← HEND.out.2.1]; exact cells_wrote HH5.out hw6 (Nat.ne_of_lt HBL.out)), bytes_wrote HY5.out hw6 (Nat.ne_of_lt HGL.out), below_wrote HB5.out hw6 (Nat.le_of_lt HBL.out) HSZ5.out⟩; clear hc6 hw6)
            go_roundw
            case rel => exact ⟨k + 1, by omega, by go_num, HI6⟩
            case measure => simp [intOf]; omega
      · have k7 : ¬ lo = b := by omega
        have k8 : ¬ cap = x := by omega
        go_region_law (refine step_copy_splice rfl (.tmp 57) (.tmp 63) 24 24 rfl 5 Try.underlying24 size5 (some ⟨G, b, none⟩) (some ⟨g, off + x, none⟩) y y y (cap - x) (by simp [Act.eval, Act.put]) (by simp [Act.eval, Act.put]) G b (u8s (relOut zs H.count k)) 5 HGD.out (u8s (cellOf zs k)) (by rw [HCS.out]; simp) (fun _ => ⟨rfl, _, rfl, HSC.out⟩) (by rw [HCS.out, HRS.out]; omega) (u8s_one _) G w4.drew (Below.refl _ _) (Nat.le_refl _) ?_; intro w5 hg5 hb5)
        all_goals
          have HC5 : Hid (Cells w5 G 5 (u8c (splice (relOut zs H.count k) b (cellOf zs k)))) := Lib.hid (by unfold Cells; rw [hg5.out, u8s_splice]; rfl)
          have HH5 : Hid (Cells w5 hb 44 ({ H with low := b } : Hd).cells) := Lib.hid (cells_under (w := w4.drew) HI1.out.2.1 hb5 HBL.out)
          have HY5 : Hid (BytesAt w5 (some ⟨g, off, none⟩) zs) := Lib.hid (bytes_under (w := w4.drew) HI1.out.2.2.1 hb5 HGL.out)
          have HB5 : Hid (Below hb w w5) := Lib.hid (HI1.out.2.2.2.drew.trans (hb5.mono (Nat.le_of_lt HBL.out)))
          have HSL5 : Hid ((splice (relOut zs H.count k) b (cellOf zs k)).length = 512) := Lib.hid (by rw [length_splice _ _ _ (by rw [HRL.out, HCL.out]; omega)]; exact HRL.out)
          have HSZ5 : Hid (hb ≤ w5.heap.size) := Lib.hid (Nat.le_of_lt (Array.getElem?_eq_some_iff.1 HH5.out).1)
          have c75 : w5.cell? ⟨hb, 7, none⟩ = some (.int .i64 (b : Int)) := (cell_of_row w5 hb 7 _ _ _ HH5.out).trans rfl
          have hSS := setSlot_any G 512 _ k b y w5 HC5.out HSL5.out HEND.out.2.2.2.2 HEND.out.2.2.1 HEND.out.2.2.2.1
          have HSS := Lib.hid hSS
          clear hSS hg5 hb5
          go_wp2_with (go_at_call 22; refine HSS.out.mono ?_; rintro e w6 ⟨rfl, hc6, hw6⟩; have HI6 : Hid (InRel w hb G H zs g off (k + 1) w6) := Lib.hid ⟨(by rw [relOut, ← HEND.out.1, ← HEND.out.2.1]; exact hc6), (by rw [← HEND.out.2.1]; exact cells_wrote HH5.out hw6 (Nat.ne_of_lt HBL.out)), bytes_wrote HY5.out hw6 (Nat.ne_of_lt HGL.out), below_wrote HB5.out hw6 (Nat.le_of_lt HBL.out) HSZ5.out⟩; clear hc6 hw6)
          go_roundw
          case rel => exact ⟨k + 1, by omega, by go_num, HI6⟩
          case measure => simp [intOf]; omega
    · obtain rfl : k = c := by omega
      have hRL : (relOut zs H.count k).length = 512 := relOut_length HL.out HFI.out (by rw [← HC.out]; exact Nat.le_refl _)
      have hFits : ({ H with low := 512 - sizes zs k } : Hd).Fits := ⟨HF.out.1, HF.out.2.1, HF.out.2.2.1, HF.out.2.2.2.1, HF.out.2.2.2.2.1, HF.out.2.2.2.2.2.1, HF.out.2.2.2.2.2.2.1, by show 512 - sizes zs k < 65536; omega⟩
      have hWR := write_any hb G 512 512 { H with low := 512 - sizes zs k } (relOut zs H.count k) wr hFits (by have := HBL.out; omega) hRL (by omega) HI.out.2.1 HI.out.1
      have HWR := Lib.hid hWR
      clear hRL hFits hWR
      go_wp2_with (go_at_call 15; refine HWR.out.mono ?_; rintro e w6 ⟨rfl, hc6, hw6⟩; have HC6 := Lib.hid hc6; have HW6 := Lib.hid hw6; clear hc6 hw6)
      go_ret
      refine ⟨by rw [HG.out]; rfl, ?_, ?_, below_wrote HI.out.2.2.2 HW6.out (Nat.le_of_lt HBL.out) (Nat.le_trans (Nat.le_of_lt (HG.out ▸ HBL.out)) HI.out.2.2.2.size)⟩
      · rw [relaid, ← HG.out, ← HC.out]; rw [← HC.out] at HC6; exact HC6.out
      · have h := cells_wrote HI.out.2.1 HW6.out (Nat.ne_of_lt HBL.out)
        have e : sizes zs k = sizes zs H.count := by rw [← HC.out]
        rw [e] at h
        exact h
end Go.Proofs.Ytaadeoobmclpcaa
