/- All cells of a page, in new memory: contracts. -/
import Derived.Test.YtaadeoobmclpcaaPagSet
namespace Go.Proofs.Ytaadeoobmclpcaa
open Go.ChangeShapes Go.WideShapes Go.ChangeAt Go.RowKit

set_option maxHeartbeats 1000000 in
theorem cell_zero {g off cap : Nat} {zs : List Nat} (i : Nat) {w : World} (hb : BytesAt w (some ⟨g, off, none⟩) zs) (hl : zs.length = 512) (hcap : 512 ≤ cap) (hi : 30 + 4 * i ≤ 512) (hat : rd zs (26 + 4 * i) 2 ≤ 512) (h0 : rd zs (28 + 4 * i) 2 = 0) :
    Calls Try.prog 23 #[.slice (some ⟨g, off, none⟩) 512 cap, .int .i64 (i : Int)] w fun e w' => ∃ v, e = .returned v ∧ BytesOut w (cellOf zs i) v w' := by
  obtain ⟨i0, hii, hz0, hz1, hz2⟩ := info_parts info5
  have hCA := cellAt_any (some ⟨g, off, none⟩) cap zs i w hb (by omega) (by omega)
  rw [hl] at hCA
  have HX : Hid (cellOf zs i = []) := Lib.hid (by rw [cellOf, h0, List.take_zero])
  obtain ⟨x, hx⟩ : ∃ x, x = rd zs (26 + 4 * i) 2 := ⟨_, rfl⟩
  rw [← hx, h0] at hCA
  rw [← hx] at hat
  have HCA : Hid (Calls Try.prog 21 #[.slice (some ⟨g, off, none⟩) 512 cap, .int .i64 (i : Int)] w fun e w' => e = .returned (.tuple #[.int .i64 (x : Int), .int .i64 0]) ∧ w = w') := Lib.hid hCA
  have hbt : i0.bytes * 0 ≤ 281474976710656 := by omega
  obtain ⟨w2, hmk0, ho2, hg2⟩ := run_make_own (P := Try.prog) w.drew (w.heap.size) 24 5 i0 (.int .u8 0) 1 Try.underlying24 hii hz0 hz1 .i64 .i64 0 hbt (Nat.zero_le _) (Nat.le_refl _)
  have hmk : (Instr.makeSlice 24 (.int .i64 0) (.int .i64 0)).run Try.prog w.drew = .ok (.slice (some ⟨w.drew.heap.size, 0, none⟩) 0 0) w2 := hmk0
  have HO2 := Lib.hid ho2
  have HB2 : Hid (Below w.heap.size w w2) := Lib.hid ((Below.refl _ _).drew.grown hg2 (Nat.le_refl _) (fun k hk => by cases hk))
  have hwrap : IntKind.i64.wrap (x : Int) = (x : Int) := IntWalk.i64_in _ (by omega)
  have hwrap2 : IntKind.i64.wrap ((x : Int) + 0) = (x : Int) := (IntWalk.i64_in _ (by omega)).trans (by omega)
  have hbc : x ≤ cap := by omega
  clear hb hl hCA hx ho2 hg2 hz0 hz2 hbt hmk0 h0
  go_enter Try.func23, Try.ntmps23
  go_wp2_with (go_at_call 21; refine HCA.out.mono ?_; rintro e w ⟨rfl, rfl⟩)
  go_region_law (refine step_append_fits rfl (.tmp 14) (.tmp 23) 24 rfl w.heap.size 5 i0 1 Try.underlying24 hii hz1 w.heap.size 0 0 [] (by simp [Act.eval]) HO2.out ⟨g, off, none⟩ 0 0 [] (by simp [Act.eval]) rfl (fun j u h => by simp at h) (fun u h => by simp at h) (Nat.le_refl _) ?_; intro w3 ho3 hg3)
  have HE : Hid (BytesOut w (cellOf zs i) (.slice (some ⟨w.heap.size, 0, none⟩) 0 0) w3) := by
    refine Lib.hid ?_
    rw [HX.out]
    exact ⟨w.heap.size, rfl, own_cells (zs := []) ho3, Nat.le_refl _, HB2.out.grown hg3 HB2.out.size (fun k hk => by cases hk; exact Nat.le_refl _)⟩
  clear ho3 hg3
  go_wp2
  go_ret
  exact ⟨_, rfl, HE.out⟩
theorem cell_good {g off cap : Nat} {zs : List Nat} (i : Nat) {w : World} (hb : BytesAt w (some ⟨g, off, none⟩) zs) (hg : Good zs) (hcap : 512 ≤ cap) (hc63 : cap ≤ 9223372036854775807) (hin : i < rd zs 14 2) :
    Calls Try.prog 23 #[.slice (some ⟨g, off, none⟩) 512 cap, .int .i64 (i : Int)] w fun e w' => ∃ v, e = .returned v ∧ BytesOut w (cellOf zs i) v w' := by
  have h2 := hg.2.2.1
  have h3 := hg.2.2.2.1
  have h4 := good_cell hg i hin
  by_cases h : rd zs (28 + 4 * i) 2 = 0
  · exact cell_zero i hb hg.1 hcap (by omega) (by omega) h
  · exact cell_pos i hb hg.1 hcap hc63 (by omega) h4 (by omega)

theorem info22 : (Try.prog.info? 24).map (fun i => (i.zero, i.size, i.bytes)) = some (some (.slice none 0 0), 1, 24) := by kernel_rfl
theorem own_row {w : World} {B g n : Nat} {t : TypeId} {xs : List Value} (h : w.ownsRow B t 1 (.slice (some ⟨g, 0, none⟩) n n) n xs) : Cells w g t xs.toArray := by
  rcases h.2 with ⟨h', _⟩ | ⟨g', cap', cur, h', _, hg, _, _, hcs, htake⟩
  · simp at h'
  · simp only [Value.slice.injEq, Option.some.injEq, Addr.mk.injEq, and_true, true_and] at h'
    obtain ⟨rfl, rfl⟩ := h'
    rw [List.take_of_length_le (by simp; omega)] at htake
    have e : cur = xs.toArray := by
      rw [← Array.toArray_toList (xs := cur), htake]
    rw [← e]
    exact hg
/-- A row of byte slices: the blocks and the bytes. -/
def rowsL (xs : List (Nat × List Nat)) : List Value := xs.map fun x => Value.slice (some ⟨x.1, 0, none⟩) x.2.length x.2.length
def RowsPart (w : World) (G c : Nat) (xs : List (Nat × List Nat)) : Prop := Cells w G 24 (rowsL xs ++ List.replicate (c - xs.length) (Value.slice none 0 0)).toArray ∧ ∀ x ∈ xs, Cells w x.1 5 (u8c x.2) ∧ G < x.1
theorem rowsPart_below {w w' : World} {G c : Nat} {xs : List (Nat × List Nat)} (h : RowsPart w G c xs) (hb : Below w.heap.size w w') : RowsPart w' G c xs :=
  ⟨by unfold Cells; rw [hb.block G (Array.getElem?_eq_some_iff.1 h.1).1]; exact h.1, fun x hx => ⟨by unfold Cells; rw [hb.block x.1 (Array.getElem?_eq_some_iff.1 (h.2 x hx).1).1]; exact (h.2 x hx).1, (h.2 x hx).2⟩⟩
theorem rowsPart_set {w : World} {G c : Nat} {xs : List (Nat × List Nat)} (h : RowsPart w G c xs) (g : Nat) (l : List Nat) (hg : Cells w g 5 (u8c l)) (hgt : G < g) (hlt : xs.length < c) :
    RowsPart (w.setCell ⟨G, xs.length, none⟩ (Value.slice (some ⟨g, 0, none⟩) l.length l.length)) G c (xs ++ [(g, l)]) := by
  refine ⟨?_, fun x hx => ?_⟩
  · have := cells_setCell (o := xs.length) (v := Value.slice (some ⟨g, 0, none⟩) l.length l.length) h.1
    rw [show c - xs.length = (c - (xs ++ [(g, l)]).length) + 1 from by simp; omega, List.replicate_succ] at this
    have e : ((rowsL xs ++ (Value.slice none 0 0 :: List.replicate (c - (xs ++ [(g, l)]).length) (Value.slice none 0 0))).toArray.setIfInBounds xs.length (Value.slice (some ⟨g, 0, none⟩) l.length l.length)) = (rowsL (xs ++ [(g, l)]) ++ List.replicate (c - (xs ++ [(g, l)]).length) (Value.slice none 0 0)).toArray := by
      have hl : (rowsL xs).length = xs.length := by simp [rowsL]
      rw [List.setIfInBounds_toArray]
      congr 1
      rw [← hl, List.set_append_right _ _ (Nat.le_refl _), Nat.sub_self, List.set_cons_zero]
      simp [rowsL]
    rw [e] at this
    exact this
  · simp only [List.mem_append, List.mem_singleton] at hx
    rcases hx with hx | rfl
    · exact ⟨cells_setOther (h.2 x hx).1 (by have := (h.2 x hx).2; omega), (h.2 x hx).2⟩
    · exact ⟨cells_setOther hg (by omega), hgt⟩
theorem rowsPart_next {w : World} {G c : Nat} {xs : List (Nat × List Nat)} (h : RowsPart w G c xs) (hlt : xs.length < c) : w.cell? ⟨G, xs.length, none⟩ = some (Value.slice none 0 0) := by
  rw [cell_of_row w G xs.length _ _ _ h.1, List.getElem?_toArray]
  have hl : (rowsL xs).length = xs.length := by simp [rowsL]
  rw [List.getElem?_append_right (by omega), hl, Nat.sub_self, List.getElem?_replicate, if_pos (by omega)]
/-- What Cells tells of a good page. -/
def CellsOut (w : World) (c : Nat) (ls : List (List Nat)) (e : Ending) (w' : World) : Prop :=
  ∃ G xs, e = .returned (.tuple #[.slice (some ⟨G, 0, none⟩) c c, .int .i64 0]) ∧ RowsPart w' G c xs ∧ xs.length = c ∧ xs.map (·.2) = ls ∧ w.heap.size ≤ G ∧ Below w.heap.size w w'
set_option maxHeartbeats 1000000 in
theorem cells_good {g off cap : Nat} {zs : List Nat} {w : World} (hb : BytesAt w (some ⟨g, off, none⟩) zs) (hg : Good zs) (hcap : 512 ≤ cap) (hc63 : cap ≤ 9223372036854775807) :
    Calls Try.prog 11 #[.slice (some ⟨g, off, none⟩) 512 cap] w (CellsOut w (rd zs 14 2) ((List.range (rd zs 14 2)).map (cellOf zs))) := by
  obtain ⟨i0, hi, hz0, hz1, hz2⟩ := info_parts info22
  have hl : zs.length = 512 := hg.1
  have HO : Hid (Calls Try.prog 16 #[.slice (some ⟨g, off, none⟩) 512 cap] w (OpenedGood w zs)) := by
    have := open_good (cap := cap) hb hg
    rw [hl] at this
    exact Lib.hid this
  have HONE := Lib.hid (hd_one (hdOf zs))
  have h2 := hg.2.2.1
  have h3 := hg.2.2.2.1
  have HCL : Hid (∀ V i, Below w.heap.size w V → i < rd zs 14 2 → Calls Try.prog 23 #[.slice (some ⟨g, off, none⟩) 512 cap, .int .i64 (i : Int)] V fun e w' => ∃ v, e = .returned v ∧ BytesOut V (cellOf zs i) v w') :=
    Lib.hid (fun V i hV hin => cell_good i (bytes_below hb hV) hg hcap hc63 hin)
  obtain ⟨c, hcc⟩ : ∃ c, c = rd zs 14 2 := ⟨_, rfl⟩
  have HCC := Lib.hid hcc
  rw [← hcc] at h2 HCL ⊢
  have h26 : 26 + 4 * c ≤ 512 := by omega
  have hbt : i0.bytes * c ≤ 281474976710656 := by rw [hz2]; omega
  have HBT := Lib.hid hbt
  have HMX : Hid (c ≤ maxLen) := Lib.hid (by unfold maxLen; omega)
  clear hb hg hl hcc h2 h3 hbt
  go_enter Try.func11, Try.ntmps11
  go_wp2_with (first | (go_at_call 16; refine HO.out.mono ?_; rintro e w' ⟨rfl, hbel⟩; have HB := Lib.hid hbel; clear hbel) | (refine wpList_store_row rfl 44 (.tmp 4) _ rfl w'.heap.size (hdOf zs).cells rfl rfl 44 _ (cells_new w' 44 head0) (size58 _ rfl) rfl HONE.out ?_; have HH1 : Hid (Cells ((w'.alloc (.cells #[.int .u32 0, .int .u32 0, .int .u32 0, .int .u64 0, .int .u8 0, .int .u8 0, .int .i64 0, .int .i64 0] 44)).setRow w'.heap.size (hdOf zs).cells) w'.heap.size 44 (hdOf zs).cells) := Lib.hid (setRow_heap _ _ _ (hdOf zs).cells _ _ (cells_new w' 44 head0)); have HB1 : Hid (Below w.heap.size w ((w'.alloc (.cells #[.int .u32 0, .int .u32 0, .int .u32 0, .int .u64 0, .int .u8 0, .int .u8 0, .int .i64 0, .int .i64 0] 44)).setRow w'.heap.size (hdOf zs).cells)) := Lib.hid (below_head HB.out HB.out.size (hdOf zs).cells); generalize (w'.alloc (.cells #[.int .u32 0, .int .u32 0, .int .u32 0, .int .u64 0, .int .u8 0, .int .u8 0, .int .i64 0, .int .i64 0] 44)).setRow w'.heap.size (hdOf zs).cells = V at HH1 HB1 ⊢; have c6 : V.cell? ⟨w'.heap.size, 6, none⟩ = some (.int .i64 (c : Int)) := by (rw [HCC.out]; exact (cell_of_row V w'.heap.size 6 _ _ _ HH1.out).trans rfl)) | (at_make; refine wpList_make_full _ rfl _ _ 28 rfl _ 24 i0 (.slice none 0 0) 1 Try.underlying28 hi hz0 hz1 .i64 .i64 c c c rfl rfl rfl rfl HBT.out HMX.out (Nat.le_refl _) ?_; intro w2 ho2 hg2; rw [show (madeCells (Value.cells (.slice none 0 0)) (c * 1)).toList = List.replicate c (Value.slice none 0 0) from by (rw [show Value.cells (.slice none 0 0) = #[.slice none 0 0] from rfl, toList_madeCells_one, Nat.mul_one])] at ho2; have HP0 : Hid (RowsPart w2 V.heap.size c []) := Lib.hid ⟨own_row ho2, fun x hx => by cases hx⟩; have HB2 := Lib.hid (HB1.out.grown hg2 HB1.out.size (fun k hk => by cases hk)); have HS2 : Hid (w.heap.size ≤ V.heap.size) := Lib.hid HB1.out.size; clear ho2 hg2))
  obtain ⟨G, hGG⟩ : ∃ G, G = V.heap.size := ⟨_, rfl⟩
  rw [← hGG] at HP0 HS2 ⊢
  clear hGG c6 HO HONE HBT hi hz0 hz1 hz2
  go_loopw [7, 20] (fun _ i wr => ∃ (k : Nat) (xs : List (Nat × List Nat)), k ≤ c ∧ i = .int .i64 k ∧ Hid (RowsPart wr G c xs ∧ xs.length = k ∧ xs.map (·.2) = (List.range k).map (cellOf zs)) ∧ Hid (Below w.heap.size w wr)) (fun _ i _ => (c - (intOf i)).toNat)
  case atStart => exact ⟨0, [], by omega, rfl, Lib.hid ⟨HP0.out, rfl, rfl⟩, HB2⟩
  case round =>
    obtain ⟨k, xs, hk, rfl, HP, HBr⟩ := hrel
    by_cases hlt : k < c
    · have HCK := Lib.hid (HCL.out wr k HBr.out hlt)
      have hxl := HP.out.2.1
      obtain ⟨l, hl⟩ : ∃ l, l = cellOf zs k := ⟨_, rfl⟩
      rw [← hl] at HCK
      have HLE := Lib.hid hl
      have HXL := Lib.hid hxl
      clear hl hxl
      go_wp2_with (go_at_call 23; refine HCK.out.mono ?_; rintro e w5 ⟨v, rfl, g5, rfl, hc5, hs5, hb5⟩; have HP5 := Lib.hid (rowsPart_below HP.out.1 hb5); have HB5 : Hid (Below w.heap.size w w5) := Lib.hid (HBr.out.trans (hb5.mono HBr.out.size)); have HC5 := Lib.hid hc5; have HG5 : Hid (G < g5) := Lib.hid (Nat.lt_of_lt_of_le (Array.getElem?_eq_some_iff.1 HP.out.1.1).1 hs5); have hold : w5.cell? ⟨G, k, none⟩ = some (Value.slice none 0 0) := (by have := rowsPart_next HP5.out (by rw [HXL.out]; exact hlt); rwa [HXL.out] at this); have hfz := frozen_of_row w5 G k _ _ HP5.out.1; clear hc5 hs5 hb5)
      go_roundw
      case rel =>
        refine ⟨k + 1, xs ++ [(g5, l)], by omega, by go_num, Lib.hid ⟨?_, by simp [HXL.out], ?_⟩, Lib.hid (HB5.out.setCell HS2.out _)⟩
        · have := rowsPart_set HP5.out g5 l HC5.out HG5.out (by rw [HXL.out]; exact hlt)
          rwa [HXL.out] at this
        · rw [List.map_append, HP.out.2.2, List.range_succ, List.map_append]
          simp [HLE.out]
      case measure => simp [intOf]; omega
    · obtain rfl : k = c := by omega
      have HE : Hid (CellsOut w k ((List.range k).map (cellOf zs)) (.returned (.tuple #[.slice (some ⟨G, 0, none⟩) k k, .int .i64 0])) wr) := Lib.hid ⟨G, xs, rfl, HP.out.1, HP.out.2.1, HP.out.2.2, HS2.out, HBr.out⟩
      go_wp2
      go_ret2
      exact HE.out
end Go.Proofs.Ytaadeoobmclpcaa
