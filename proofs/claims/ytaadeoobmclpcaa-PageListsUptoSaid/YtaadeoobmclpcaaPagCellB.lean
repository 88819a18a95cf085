/- A cell of any size; all cells, each for itself: contracts. -/
import Derived.Test.YtaadeoobmclpcaaPagCompact
namespace Go.Proofs.Ytaadeoobmclpcaa
open Go.ChangeShapes Go.WideShapes Go.ChangeAt Go.RowKit

set_option maxHeartbeats 1000000 in
theorem Cell_any {g off cap : Nat} {zs : List Nat} (i : Nat) {w : World} (hb : BytesAt w (some ⟨g, off, none⟩) zs) (hg : Good zs) (hcap : 512 ≤ cap) (hc63 : cap ≤ 9223372036854775807) (hin : i < rd zs 14 2) :
    Calls Try.prog 14 #[.slice (some ⟨g, off, none⟩) 512 cap, .int .i64 (i : Int)] w fun e w' => ∃ v, e = .returned (.tuple #[v, .int .i64 0]) ∧ BytesOut w (cellOf zs i) v w' := by
  have hl : zs.length = 512 := hg.1
  have HO : Hid (Calls Try.prog 16 #[.slice (some ⟨g, off, none⟩) 512 cap] w (OpenedGood w zs)) := by
    have := open_good (cap := cap) hb hg
    rw [hl] at this
    exact Lib.hid this
  have HONE := Lib.hid (hd_one (hdOf zs))
  have h2 := hg.2.2.1
  have h3 := hg.2.2.2.1
  have HCL : Hid (∀ V, Below w.heap.size w V → Calls Try.prog 23 #[.slice (some ⟨g, off, none⟩) 512 cap, .int .i64 (i : Int)] V fun e w' => ∃ v, e = .returned v ∧ BytesOut V (cellOf zs i) v w') :=
    Lib.hid (fun V hV => cell_good i (bytes_below hb hV) hg hcap hc63 hin)
  obtain ⟨c, hcc⟩ : ∃ c, c = rd zs 14 2 := ⟨_, rfl⟩
  have HCC := Lib.hid hcc
  rw [← hcc] at hin h2
  have h26 : 26 + 4 * c ≤ 512 := by omega
  clear hb hg hl hcc h2 h3
  go_enter Try.func14, Try.ntmps14
  go_wp2_with (first | (go_at_call 16; refine HO.out.mono ?_; rintro e w' ⟨rfl, hbel⟩; have HB := Lib.hid hbel; clear hbel) | (refine wpList_store_row rfl 44 (.tmp 6) _ rfl w'.heap.size (hdOf zs).cells rfl rfl 44 _ (cells_new w' 44 head0) (size58 _ rfl) rfl HONE.out ?_; have HH1 : Hid (Cells ((w'.alloc (.cells #[.int .u32 0, .int .u32 0, .int .u32 0, .int .u64 0, .int .u8 0, .int .u8 0, .int .i64 0, .int .i64 0] 44)).setRow w'.heap.size (hdOf zs).cells) w'.heap.size 44 (hdOf zs).cells) := Lib.hid (setRow_heap _ _ _ (hdOf zs).cells _ _ (cells_new w' 44 head0)); have HB1 : Hid (Below w.heap.size w ((w'.alloc (.cells #[.int .u32 0, .int .u32 0, .int .u32 0, .int .u64 0, .int .u8 0, .int .u8 0, .int .i64 0, .int .i64 0] 44)).setRow w'.heap.size (hdOf zs).cells)) := Lib.hid (below_head HB.out HB.out.size (hdOf zs).cells); generalize (w'.alloc (.cells #[.int .u32 0, .int .u32 0, .int .u32 0, .int .u64 0, .int .u8 0, .int .u8 0, .int .i64 0, .int .i64 0] 44)).setRow w'.heap.size (hdOf zs).cells = V at HH1 HB1 ⊢; have c6 : V.cell? ⟨w'.heap.size, 6, none⟩ = some (.int .i64 (c : Int)) := by (rw [HCC.out]; exact (cell_of_row V w'.heap.size 6 _ _ _ HH1.out).trans rfl)) | (go_at_call 23; refine (HCL.out _ HB1.out).mono ?_; rintro e w4 ⟨v, rfl, hv⟩; have HV := Lib.hid hv; clear hv))
  go_ret2
  obtain ⟨g', rfl, hc', hs', hb'⟩ := HV.out
  exact ⟨_, rfl, g', rfl, hc', Nat.le_trans HB1.out.size hs', HB1.out.trans (hb'.mono HB1.out.size)⟩
theorem nodup_more {w : World} {G c : Nat} {xs : List (Nat × List Nat)} (h : RowsPart w G c xs) (hn : (xs.map (·.1)).Nodup) {g : Nat} (hg : w.heap.size ≤ g) (l : List Nat) : ((xs ++ [(g, l)]).map (·.1)).Nodup := by
  rw [List.map_append, List.nodup_append]
  refine ⟨hn, by simp, ?_⟩
  intro a ha b hb
  simp only [List.map_cons, List.map_nil, List.mem_singleton] at hb
  subst hb
  obtain ⟨x, hx, rfl⟩ := List.mem_map.1 ha
  have := (Array.getElem?_eq_some_iff.1 (h.2 x hx).1).1
  omega
/-- What Cells tells of a good page: each cell's bytes lie for themselves. -/
def CellsApart (w : World) (c : Nat) (ls : List (List Nat)) (e : Ending) (w' : World) : Prop :=
  ∃ G xs, e = .returned (.tuple #[.slice (some ⟨G, 0, none⟩) c c, .int .i64 0]) ∧ RowsPart w' G c xs ∧ xs.length = c ∧ xs.map (·.2) = ls ∧ w.heap.size ≤ G ∧ Below w.heap.size w w' ∧ (xs.map (·.1)).Nodup
set_option maxHeartbeats 1000000 in
theorem cells_apart {g off cap : Nat} {zs : List Nat} {w : World} (hb : BytesAt w (some ⟨g, off, none⟩) zs) (hg : Good zs) (hcap : 512 ≤ cap) (hc63 : cap ≤ 9223372036854775807) :
    Calls Try.prog 11 #[.slice (some ⟨g, off, none⟩) 512 cap] w (CellsApart w (rd zs 14 2) ((List.range (rd zs 14 2)).map (cellOf zs))) := by
  obtain ⟨i0, hi, hz0, hz1, hz2⟩ := info_parts info22
  have hl : zs.length = 512 := hg.1
  have HO : Hid (Calls Try.prog 16 #[.slice (some ⟨g, off, none⟩) 512 cap] w (OpenedGood w zs)) := by
    have := open_good (cap := cap) hb hg
    rw [hl] at this
    exact Lib.hid this
  have HONE := Lib.hid (hd_one (hdOf zs))
  have h2 := hg.2.2.1
  have h3 := hg.2.2.2.1
  have HCL : Hid (∀ V i, Below w.heap.size w V → i < rd zs 14 2 → Calls Try.prog 23 #[.slice (some ⟨g, off, none⟩) 512 cap, .int .i64 (i : Int)] V fun e w' => ∃ v, e = .returned v ∧ BytesOut V (cellOf zs i) v w') :=
    Lib.hid (fun V i hV hin => cell_good i (bytes_below hb hV) hg hcap hc63 hin)
  obtain ⟨c, hcc⟩ : ∃ c, c = rd zs 14 2 := ⟨_, rfl⟩
  have HCC := Lib.hid hcc
  rw [← hcc] at h2 HCL ⊢
  have h26 : 26 + 4 * c ≤ 512 := by omega
  have hbt : i0.bytes * c ≤ 281474976710656 := by rw [hz2]; omega
  have HBT := Lib.hid hbt
  have HMX : Hid (c ≤ maxLen) := Lib.hid (by unfold maxLen; omega)
  clear hb hg hl hcc h2 h3 hbt
  go_enter Try.func11, Try.ntmps11
  go_wp2_with (first | (go_at_call 16; refine HO.out.mono ?_; rintro e w' ⟨rfl, hbel⟩; have HB := Lib.hid hbel; clear hbel) | (refine wpList_store_row rfl 44 (.tmp 4) _ rfl w'.heap.size (hdOf zs).cells rfl rfl 44 _ (cells_new w' 44 head0) (size58 _ rfl) rfl HONE.out ?_; have HH1 : Hid (Cells ((w'.alloc (.cells #[.int .u32 0, .int .u32 0, .int .u32 0, .int .u64 0, .int .u8 0, .int .u8 0, .int .i64 0, .int .i64 0] 44)).setRow w'.heap.size (hdOf zs).cells) w'.heap.size 44 (hdOf zs).cells) := Lib.hid (setRow_heap _ _ _ (hdOf zs).cells _ _ (cells_new w' 44 head0)); have HB1 : Hid (Below w.heap.size w ((w'.alloc (.cells #[.int .u32 0, .int .u32 0, .int .u32 0, .int .u64 0, .int .u8 0, .int .u8 0, .int .i64 0, .int .i64 0] 44)).setRow w'.heap.size (hdOf zs).cells)) := Lib.hid (below_head HB.out HB.out.size (hdOf zs).cells); generalize (w'.alloc (.cells #[.int .u32 0, .int .u32 0, .int .u32 0, .int .u64 0, .int .u8 0, .int .u8 0, .int .i64 0, .int .i64 0] 44)).setRow w'.heap.size (hdOf zs).cells = V at HH1 HB1 ⊢; have c6 : V.cell? ⟨w'.heap.size, 6, none⟩ = some (.int .i64 (c : Int)) := by (rw [HCC.out]; exact (cell_of_row V w'.heap.size 6 _ _ _ HH1.out).trans rfl)) | (at_make; refine wpList_make_full _ rfl _ _ 28 rfl _ 24 i0 (.slice none 0 0) 1 Try.underlying28 hi hz0 hz1 .i64 .i64 c c c rfl rfl rfl rfl HBT.out HMX.out (Nat.le_refl _) ?_; intro w2 ho2 hg2; rw [show (madeCells (Value.cells (.slice none 0 0)) (c * 1)).toList = List.replicate c (Value.slice none 0 0) from by (rw [show Value.cells (.slice none 0 0) = #[.slice none 0 0] from rfl, toList_madeCells_one, Nat.mul_one])] at ho2; have HP0 : Hid (RowsPart w2 V.heap.size c []) := Lib.hid ⟨own_row ho2, fun x hx => by cases hx⟩; have HB2 := Lib.hid (HB1.out.grown hg2 HB1.out.size (fun k hk => by cases hk)); have HS2 : Hid (w.heap.size ≤ V.heap.size) := Lib.hid HB1.out.size; clear ho2 hg2))
  obtain ⟨G, hGG⟩ : ∃ G, G = V.heap.size := ⟨_, rfl⟩
  rw [← hGG] at HP0 HS2 ⊢
  clear hGG c6 HO HONE HBT hi hz0 hz1 hz2
  go_loopw [7, 20] (fun _ i wr => ∃ (k : Nat) (xs : List (Nat × List Nat)), k ≤ c ∧ i = .int .i64 k ∧ Hid (RowsPart wr G c xs ∧ xs.length = k ∧ xs.map (·.2) = (List.range k).map (cellOf zs) ∧ (xs.map (·.1)).Nodup) ∧ Hid (Below w.heap.size w wr)) (fun _ i _ => (c - (intOf i)).toNat)
  case atStart => exact ⟨0, [], by omega, rfl, Lib.hid ⟨HP0.out, rfl, rfl, List.nodup_nil⟩, HB2⟩
  case round =>
    obtain ⟨k, xs, hk, rfl, HP, HBr⟩ := hrel
    by_cases hlt : k < c
    · have HCK := Lib.hid (HCL.out wr k HBr.out hlt)
      have hxl := HP.out.2.1
      obtain ⟨l, hl⟩ : ∃ l, l = cellOf zs k := ⟨_, rfl⟩
      rw [← hl] at HCK
      have HLE := Lib.hid hl
      have HXL := Lib.hid hxl
      clear hl hxl
      go_wp2_with (go_at_call 23; refine HCK.out.mono ?_; rintro e w5 ⟨v, rfl, g5, rfl, hc5, hs5, hb5⟩; have HP5 := Lib.hid (rowsPart_below HP.out.1 hb5); have HB5 : Hid (Below w.heap.size w w5) := Lib.hid (HBr.out.trans (hb5.mono HBr.out.size)); have HC5 := Lib.hid hc5; have HG5 : Hid (G < g5) := Lib.hid (Nat.lt_of_lt_of_le (Array.getElem?_eq_some_iff.1 HP.out.1.1).1 hs5); have hold : w5.cell? ⟨G, k, none⟩ = some (Value.slice none 0 0) := (by have := rowsPart_next HP5.out (by rw [HXL.out]; exact hlt); rwa [HXL.out] at this); have hfz := frozen_of_row w5 G k _ _ HP5.out.1; have HND : Hid (((xs ++ [(g5, l)]).map (·.1)).Nodup) := Lib.hid (nodup_more HP.out.1 HP.out.2.2.2 hs5 l); clear hc5 hs5 hb5)
      go_roundw
      case rel =>
        refine ⟨k + 1, xs ++ [(g5, l)], by omega, by go_num, Lib.hid ⟨?_, by simp [HXL.out], ?_, HND.out⟩, Lib.hid (HB5.out.setCell HS2.out _)⟩
        · have := rowsPart_set HP5.out g5 l HC5.out HG5.out (by rw [HXL.out]; exact hlt)
          rwa [HXL.out] at this
        · rw [List.map_append, HP.out.2.2.1, List.range_succ, List.map_append]
          simp [HLE.out]
      case measure => simp [intOf]; omega
    · obtain rfl : k = c := by omega
      have HE : Hid (CellsApart w k ((List.range k).map (cellOf zs)) (.returned (.tuple #[.slice (some ⟨G, 0, none⟩) k k, .int .i64 0])) wr) := Lib.hid ⟨G, xs, rfl, HP.out.1, HP.out.2.1, HP.out.2.2.1, HS2.out, HBr.out, HP.out.2.2.2⟩
      go_wp2
      go_ret2
      exact HE.out
end Go.Proofs.Ytaadeoobmclpcaa
