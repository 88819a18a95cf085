/- The key of bytes: contract of Of. -/
import Derived.Test.YtpbdchcocadnkaaDoorKeyBOf
namespace Go.Proofs.YtpbdchcocadnkaaDoor
open Go.ChangeShapes Go.WideShapes Go.ChangeAt Go.RowKit

set_option maxHeartbeats 1000000 in
set_option maxRecDepth 20000 in
theorem of_bytes {w : World} {m xc : Nat} {x : Option Addr} {l : List Nat} (hx : BytesAt w x l) (hl : l.length = m) (hm : m ≤ 140737488351232) :
    Calls Tryd.prog 12 #[.agg #[.int .i64 6, .int .u64 0, .slice x m xc, .slice none 0 0, .slice none 0 0]] w fun e w' => Below w.heap.size w w' ∧ ((∃ k : Int, k ≠ 0 ∧ e = .returned (.tuple #[.slice none 0 0, .int .i64 k])) ∨ ∃ a n c, e = .returned (.tuple #[.slice a n c, .int .i64 0]) ∧ Own w w' a n c ([80] ++ esc l ++ [0, 0]) ∧ n ≤ 96) := by
  have HX : Hid (∀ V, Below w.heap.size w V → BytesAt V x l) := Lib.hid (fun V hV => bytes_below hx hV)
  have HG : Hid (∀ V, Calls Tryd.prog 18 #[.agg #[.int .i64 6, .int .u64 0, .slice x m xc, .slice none 0 0, .slice none 0 0]] V fun e w' => e = .returned (.int .i64 (if m ≤ 4093 then 0 else 2)) ∧ Below V.heap.size V w') := Lib.hid (fun V => good_bytes hm)
  have hbw : l ≠ [] → ∀ ad, x = some ad → ad.block < w.heap.size := fun h0 ad e => by
    obtain ⟨bb, off, e', hc, _⟩ := byte_at hx hl 0 (by cases l with | nil => exact absurd rfl h0 | cons _ _ => simp at hl; omega)
    rw [e] at e'
    cases e'
    exact World.block_lt_of_cell? w _ hc
  have HL := Lib.hid hl
  generalize hQ : (fun (e : Ending) (w' : World) => Below w.heap.size w w' ∧ ((∃ k : Int, k ≠ 0 ∧ e = .returned (.tuple #[.slice none 0 0, .int .i64 k])) ∨ ∃ a n c, e = .returned (.tuple #[.slice a n c, .int .i64 0]) ∧ Own w w' a n c ([80] ++ esc l ++ [0, 0]) ∧ n ≤ 96)) = Q
  have HQ := Lib.hid hQ
  clear hQ hx hl
  go_enter Tryd.func12, Tryd.ntmps12
  go_wp2_with fail
  have HB1 : Hid (Below w.heap.size w (w.alloc (.cells #[.int .i64 6, .int .u64 0, .slice x m xc, .slice none 0 0, .slice none 0 0] 35))) := Lib.hid (below_alloc _ _)
  have HV1 : Hid (Cells (w.alloc (.cells #[.int .i64 6, .int .u64 0, .slice x m xc, .slice none 0 0, .slice none 0 0] 35)) w.heap.size 35 #[.int .i64 6, .int .u64 0, .slice x m xc, .slice none 0 0, .slice none 0 0]) := Lib.hid (cells_new _ _ _)
  generalize w.alloc (.cells #[.int .i64 6, .int .u64 0, .slice x m xc, .slice none 0 0, .slice none 0 0] 35) = w1 at HB1 HV1 ⊢
  refine (HG.out w1).mono ?_
  rintro e w2 ⟨rfl, hb2⟩
  have HB2 := Lib.hid (HB1.out.trans (hb2.mono HB1.out.size))
  have HV2 := Lib.hid (cells_below HV1.out hb2)
  clear hb2
  by_cases h4 : m ≤ 4093
  case neg =>
    rw [if_neg h4]
    go_wp2
    rw [← HQ.out]
    exact ⟨HB2.out, .inl ⟨2, by omega, rfl⟩⟩
  rw [if_pos h4]
  go_wp2_with fail
  have HC3 : Hid (Cells (w2.alloc (.cells #[.slice none 0 0, .map none] 45)) w2.heap.size 45 #[.slice none 0 0, .map none]) := Lib.hid (cells_new _ _ _)
  have HV3 : Hid (Cells (w2.alloc (.cells #[.slice none 0 0, .map none] 45)) w.heap.size 35 #[.int .i64 6, .int .u64 0, .slice x m xc, .slice none 0 0, .slice none 0 0]) := Lib.hid (cells_alloc HV2.out _)
  have HB3 : Hid (Below w.heap.size w (w2.alloc (.cells #[.slice none 0 0, .map none] 45))) := Lib.hid (below_alloc' HB2.out _)
  have hpp : w.heap.size ≤ w2.heap.size := HB2.out.size
  have hgp : w.heap.size ≠ w2.heap.size := by have := (Array.getElem?_eq_some_iff.1 HV2.out).1; omega
  have hp3 : w2.heap.size < (w2.alloc (.cells #[.slice none 0 0, .map none] 45)).heap.size := by rw [size_alloc]; omega
  generalize w2.alloc (.cells #[.slice none 0 0, .map none] 45) = w3 at HC3 HV3 HB3 hp3 ⊢
  generalize w2.heap.size = p at HC3 hpp hgp hp3 ⊢
  refine (writes_any w3 p).mono ?_
  rintro e w4 ⟨rfl, hm4, hb4⟩
  have hc4 := cells_below HC3.out hb4
  have hmp : w3.heap.size ≠ p := by omega
  have HM4 := Lib.hid hm4
  have HC4 := Lib.hid hc4
  have HV4 := Lib.hid (cells_below HV3.out hb4)
  have HB4 := Lib.hid (HB3.out.trans (hb4.mono HB3.out.size))
  have p1 : w4.cell? ⟨p, 1, none⟩ = some (.map none) := by rw [cell_of_row w4 p 1 _ _ _ hc4]; rfl
  have pz : w4.frozen? ⟨p, 1, none⟩ = false := frozen_of_row _ _ _ _ _ hc4
  clear hm4 hb4 hc4
  generalize w3.heap.size = mb at HM4 hmp ⊢
  have HC5 : Hid (Cells (w4.setCell ⟨p, 1, none⟩ (.map (some mb))) p 45 #[.slice none 0 0, .map (some mb)]) := Lib.hid (cells_setCell (o := 1) HC4.out)
  have HM5 : Hid (ByAt (w4.setCell ⟨p, 1, none⟩ (.map (some mb))) p mb) := Lib.hid (by_turned HM4.out ((Turned.refl (fun k => k = p) w4).setCell (p := ⟨p, 1, none⟩) (.inl rfl) _) hmp)
  have hv5 : Cells (w4.setCell ⟨p, 1, none⟩ (.map (some mb))) w.heap.size 35 #[.int .i64 6, .int .u64 0, .slice x m xc, .slice none 0 0, .slice none 0 0] := cells_setOther HV4.out hgp
  have HB5 : Hid (Below w.heap.size w (w4.setCell ⟨p, 1, none⟩ (.map (some mb)))) := Lib.hid (HB4.out.setCell hpp _)
  have v0 : (w4.setCell ⟨p, 1, none⟩ (.map (some mb))).cell? ⟨w.heap.size, 0, none⟩ = some (.int .i64 6) := by rw [cell_of_row _ w.heap.size 0 _ _ _ hv5]; rfl
  have v1 : (w4.setCell ⟨p, 1, none⟩ (.map (some mb))).cell? ⟨w.heap.size, 1, none⟩ = some (.int .u64 0) := by rw [cell_of_row _ w.heap.size 1 _ _ _ hv5]; rfl
  have v2 : (w4.setCell ⟨p, 1, none⟩ (.map (some mb))).cell? ⟨w.heap.size, 2, none⟩ = some (.slice x m xc) := by rw [cell_of_row _ w.heap.size 2 _ _ _ hv5]; rfl
  have v3 : (w4.setCell ⟨p, 1, none⟩ (.map (some mb))).cell? ⟨w.heap.size, 3, none⟩ = some (.slice none 0 0) := by rw [cell_of_row _ w.heap.size 3 _ _ _ hv5]; rfl
  have v4 : (w4.setCell ⟨p, 1, none⟩ (.map (some mb))).cell? ⟨w.heap.size, 4, none⟩ = some (.slice none 0 0) := by rw [cell_of_row _ w.heap.size 4 _ _ _ hv5]; rfl
  have HVT : Hid (Calls Tryd.prog 20 #[.pointer (some ⟨p, 0, none⟩), .agg #[.int .i64 6, .int .u64 0, .slice x m xc, .slice none 0 0, .slice none 0 0]] (w4.setCell ⟨p, 1, none⟩ (.map (some mb))) fun e w' => e = .returned (.tuple #[]) ∧ ∃ a' n' c', Wri (w4.setCell ⟨p, 1, none⟩ (.map (some mb))) w' p (.map (some mb)) a' n' c' ([80] ++ esc l ++ [0, 0])) := Lib.hid (value_bytes HC5.out HM5.out hmp (HX.out _ HB5.out) (fun h0 ad e => by have := hbw h0 ad e; omega) HL.out (by omega))
  go_wp2_with fail
  refine HVT.out.mono ?_
  rintro e w6 ⟨rfl, a6, n6, c6, h6⟩
  have f0 := wri_0 h6
  have H6 := Lib.hid h6
  have HB6 : Hid (Below w.heap.size w w6) := Lib.hid (Turned.to_below HB5.out h6.2.2 (fun k e => by omega) HB5.out.size)
  clear h6 v0 v1 v2 v3 v4
  by_cases h96 : 96 < n6
  · go_wp2
    rw [← HQ.out]
    exact ⟨HB6.out, .inl ⟨14, by omega, rfl⟩⟩
  · go_wp2
    rw [← HQ.out]
    exact ⟨HB6.out, .inr ⟨a6, n6, c6, rfl, own_mono H6.out.2.1 HB5.out.size, by omega⟩⟩
end Go.Proofs.YtpbdchcocadnkaaDoor
