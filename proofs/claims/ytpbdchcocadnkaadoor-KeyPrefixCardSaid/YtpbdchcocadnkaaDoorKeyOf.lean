/- A text's key: contracts of value and Of. -/
import Derived.Test.YtpbdchcocadnkaaDoorKeyWri
namespace Go.Proofs.YtpbdchcocadnkaaDoor
open Go.ChangeShapes Go.WideShapes Go.ChangeAt Go.RowKit

theorem infoF : (Tryd.prog.info? 47).map (·.zero) = some (some .nilFunc) := by kernel_rfl
theorem zeroF (V : World) : (zeroValue 47).run Tryd.prog V = .ok .nilFunc V := by
  obtain ⟨i, hi, hz⟩ := Option.map_eq_some_iff.1 infoF
  simp [zeroValue, typeInfo, hi, hz]
theorem by_look {V : World} {p mb : Nat} (h : ByAt V p mb) : (Instr.lookup 43 (.map (some mb)) (.int .u8 64) false).run Tryd.prog V = .ok (.func (.func 27) #[.pointer (some ⟨p, 0, none⟩)] #[]) V := by
  obtain ⟨v, ps, hrun, hv⟩ := h.lookup keysU8 Tryd.underlying43 (zeroF V) (zd := .held .nilFunc) (zp := []) rfl (key := .int .u8 64) (kl := .int .u8 64) rfl
  rw [byD_text] at hv
  rw [hrun]
  cases v <;> simp [asFn, fnAt] at hv
  obtain ⟨⟨rfl, rfl, rfl⟩, _⟩ := hv
  rfl
theorem by_below {V V' : World} {p mb : Nat} (h : ByAt V p mb) (hb : Below V.heap.size V V') : ByAt V' p mb := h.kept (row := none) ⟨hb.os, hb.tape, hb.output, hb.size, fun k hk _ => hb.block k hk⟩ (by simp)
theorem by_turned {V V' : World} {p mb : Nat} (h : ByAt V p mb) (ht : Turned (fun k => k = p) V V') (hp : mb ≠ p) : ByAt V' p mb := h.kept (row := some p) ⟨ht.os, ht.tape, ht.output, ht.size, fun k hk hn => ht.block k hk (fun e => hn (by rw [e]))⟩ (fun e => hp (Option.some.inj e))
theorem wri_below {W w w' : World} {p n c : Nat} {mv : Value} {a : Option Addr} {k : List Nat} (h : Wri W w p mv a n c k) (hb : Below w.heap.size w w') : Wri W w' p mv a n c k := ⟨cells_below h.1 hb, own_under h.2.1 hb, h.2.2.below hb⟩
set_option maxHeartbeats 1000000 in
set_option maxRecDepth 20000 in
theorem text_any {W w : World} {p n c xc m : Nat} {mv : Value} {a x : Option Addr} {k l : List Nat} (hW : Wri W w p mv a n c k) (hp : p < W.heap.size) (hx : BytesAt W x l) (hxp : ∀ ad, x = some ad → ad.block ≠ p) (hl : l.length = m) (hb : n + 2 * m + 2 ≤ 1048576) :
    Calls Tryd.prog 27 #[.pointer (some ⟨p, 0, none⟩), .agg #[.int .i64 5, .int .u64 0, .slice x m xc, .slice none 0 0, .slice none 0 0]] w fun e w' => e = .returned (.tuple #[]) ∧ ∃ a' n' c', Wri W w' p mv a' n' c' (k ++ esc l ++ [0, 0]) := by
  have HE : Hid (∀ V, Below w.heap.size w V → Calls Tryd.prog 41 #[.pointer (some ⟨p, 0, none⟩), .slice x m xc] V fun e w' => e = .returned (.tuple #[]) ∧ ∃ a' n' c', Wri W w' p mv a' n' c' (k ++ esc l ++ [0, 0])) := Lib.hid (fun V hV => escaped_any (wri_below hW hV) hp hx hxp hl hb)
  have HB : Hid (∀ o : Obj, Below w.heap.size w (w.alloc o)) := Lib.hid (fun o => below_alloc _ _)
  generalize hQ : (fun (e : Ending) (w' : World) => e = .returned (.tuple #[]) ∧ ∃ a' n' c', Wri W w' p mv a' n' c' (k ++ esc l ++ [0, 0])) = Q at HE
  have HQ := Lib.hid hQ
  clear hQ hW hp hx hxp hl hb
  go_enter Tryd.func27, Tryd.ntmps27
  go_wp2_with (go_at_call 41; (with_reducible refine (HE.out _ (HB.out _)).mono ?_); rintro e w2 h2; rw [← HQ.out] at h2; obtain ⟨rfl, h2⟩ := h2; have H2 := Lib.hid h2; clear h2)
  go_end0
  rw [← HQ.out]
  exact ⟨rfl, H2.out⟩
theorem class_text (w : World) : Calls Tryd.prog 30 #[.int .i64 5] w fun e w' => e = .returned (.int .u8 64) ∧ w = w' := by
  go_enter Tryd.func30, Tryd.ntmps30
  go_wp2
  go_ret
  exact ⟨rfl, rfl⟩
/-- What value looks at: the map's function, the value's five cells. -/
structure Sees (V : World) (p mb g xc m : Nat) (x : Option Addr) : Prop where
  c1 : V.cell? ⟨p, 1, none⟩ = some (.map (some mb))
  lk : (Instr.lookup 43 (.map (some mb)) (.int .u8 64) false).run Tryd.prog V = .ok (.func (.func 27) #[.pointer (some ⟨p, 0, none⟩)] #[]) V
  v0 : V.cell? ⟨g, 0, none⟩ = some (.int .i64 5)
  v1 : V.cell? ⟨g, 1, none⟩ = some (.int .u64 0)
  v2 : V.cell? ⟨g, 2, none⟩ = some (.slice x m xc)
  v3 : V.cell? ⟨g, 3, none⟩ = some (.slice none 0 0)
  v4 : V.cell? ⟨g, 4, none⟩ = some (.slice none 0 0)
theorem sees_of {W V : World} {p mb g n c xc m : Nat} {a x : Option Addr} {k : List Nat} (h : Wri W V p (.map (some mb)) a n c k) (hm : ByAt W p mb) (hmp : mb ≠ p) (hg : Cells W g 35 #[.int .i64 5, .int .u64 0, .slice x m xc, .slice none 0 0, .slice none 0 0]) (hgp : g ≠ p) : Sees V p mb g xc m x := by
  have hg' := cells_turned hg h.2.2 hgp
  exact ⟨by rw [cell_of_row V p 1 _ _ _ h.1]; rfl, by_look (by_turned hm h.2.2 hmp), by rw [cell_of_row V g 0 _ _ _ hg']; rfl, by rw [cell_of_row V g 1 _ _ _ hg']; rfl, by rw [cell_of_row V g 2 _ _ _ hg']; rfl, by rw [cell_of_row V g 3 _ _ _ hg']; rfl, by rw [cell_of_row V g 4 _ _ _ hg']; rfl⟩
theorem own_nil (W w : World) : Own W w none 0 0 [] := ⟨rfl, (fun x hx => by cases hx), none, slc_nil w 1, fun b e => by cases e⟩
set_option maxHeartbeats 1000000 in
set_option maxRecDepth 20000 in
theorem value_text {w : World} {p mb xc m : Nat} {x : Option Addr} {l : List Nat} (hC : Cells w p 45 #[.slice none 0 0, .map (some mb)]) (hm : ByAt w p mb) (hmp : mb ≠ p) (hx : BytesAt w x l) (hxp : ∀ ad, x = some ad → ad.block ≠ p) (hl : l.length = m) (hb : m ≤ 4096) :
    Calls Tryd.prog 20 #[.pointer (some ⟨p, 0, none⟩), .agg #[.int .i64 5, .int .u64 0, .slice x m xc, .slice none 0 0, .slice none 0 0]] w fun e w' => e = .returned (.tuple #[]) ∧ ∃ a' n' c', Wri w w' p (.map (some mb)) a' n' c' ([64] ++ esc l ++ [0, 0]) := by
  have HR := Lib.hid rowyU
  have hpw : p < w.heap.size := (Array.getElem?_eq_some_iff.1 hC).1
  have HW1 : Hid (Wri (w.alloc (.cells #[.int .i64 5, .int .u64 0, .slice x m xc, .slice none 0 0, .slice none 0 0] 35)) (w.alloc (.cells #[.int .i64 5, .int .u64 0, .slice x m xc, .slice none 0 0, .slice none 0 0] 35)) p (.map (some mb)) none 0 0 []) := Lib.hid ⟨cells_alloc hC _, own_nil _ _, Turned.refl _ _⟩
  have HP : Hid (p < (w.alloc (.cells #[.int .i64 5, .int .u64 0, .slice x m xc, .slice none 0 0, .slice none 0 0] 35)).heap.size) := Lib.hid (by rw [size_alloc]; omega)
  have HBY1 : Hid (ByAt (w.alloc (.cells #[.int .i64 5, .int .u64 0, .slice x m xc, .slice none 0 0, .slice none 0 0] 35)) p mb) := Lib.hid (by_below hm (below_alloc _ _))
  have HV1 : Hid (Cells (w.alloc (.cells #[.int .i64 5, .int .u64 0, .slice x m xc, .slice none 0 0, .slice none 0 0] 35)) w.heap.size 35 #[.int .i64 5, .int .u64 0, .slice x m xc, .slice none 0 0, .slice none 0 0]) := Lib.hid (cells_new _ _ _)
  have HMP := Lib.hid hmp
  have HGP : Hid (w.heap.size ≠ p) := Lib.hid (by omega)
  have HB1 : Hid (Below w.heap.size w (w.alloc (.cells #[.int .i64 5, .int .u64 0, .slice x m xc, .slice none 0 0, .slice none 0 0] 35))) := Lib.hid (below_alloc _ _)
  have HTX : Hid (∀ V a n c, n ≤ 8 → Wri (w.alloc (.cells #[.int .i64 5, .int .u64 0, .slice x m xc, .slice none 0 0, .slice none 0 0] 35)) V p (.map (some mb)) a n c [64] → Calls Tryd.prog 27 #[.pointer (some ⟨p, 0, none⟩), .agg #[.int .i64 5, .int .u64 0, .slice x m xc, .slice none 0 0, .slice none 0 0]] V fun e w' => e = .returned (.tuple #[]) ∧ ∃ a' n' c', Wri (w.alloc (.cells #[.int .i64 5, .int .u64 0, .slice x m xc, .slice none 0 0, .slice none 0 0] 35)) w' p (.map (some mb)) a' n' c' ([64] ++ esc l ++ [0, 0])) := Lib.hid (fun V a n c hn h => text_any h (by rw [size_alloc]; omega) (bytes_below hx (below_alloc _ _)) hxp hl (by omega))
  generalize hQ : (fun (e : Ending) (w' : World) => e = .returned (.tuple #[]) ∧ ∃ a' n' c', Wri w w' p (.map (some mb)) a' n' c' ([64] ++ esc l ++ [0, 0])) = Q
  have HQ := Lib.hid hQ
  clear hQ hC hx hxp hl hm
  go_enter Tryd.func20, Tryd.ntmps20
  go_wp2_with fail
  generalize w.alloc (.cells #[.int .i64 5, .int .u64 0, .slice x m xc, .slice none 0 0, .slice none 0 0] 35) = w1 at HW1 HBY1 HV1 HTX HP HB1 ⊢
  have w0 := wri_0 HW1.out
  refine (class_text _).mono ?_
  rintro e w' ⟨rfl, rfl⟩
  go_wp2_with (at_builtin; refine wpList_slc HR.out rfl (.tmp 12) (.tmp 14) 22 rfl rfl rfl (slc_nil _ 1) (bytes_src Tryd.underlying22 (const_one w1 64 (by decide)) rfl) (rfl : 0 + 1 = 1) (by unfold maxLen; decide) (by decide) ?_; intro a8 c8 b8 w8 h1 h2 h3; obtain ⟨hc, ho, ht⟩ := grow_at (m := [64]) (k := []) HW1.out.1 HP.out HW1.out.2.2 (below_alloc _ _) rfl (rfl : 0 + 1 = 1) (fun x hx => by cases hx) (by decide) (fun b e => by cases e) h1 h2 h3; have s8 : w8.cell? ⟨p, 0, none⟩ = some (.slice none 0 0) := (by rw [cell_of_row w8 p 0 _ _ _ hc]; rfl); have z8 : w8.frozen? ⟨p, 0, none⟩ = false := frozen_of_row _ _ _ _ _ hc; have HW8 := Lib.hid (wri_set hc ho ht HP.out); clear h1 h2 h3 hc ho ht)
  clear s8 z8 w0
  generalize w8.setCell ⟨p, 0, none⟩ (.slice a8 1 c8) = w9 at HW8 ⊢
  obtain ⟨c1, lk, v0, v1, v2, v3, v4⟩ := sees_of HW8.out HBY1.out HMP.out HV1.out HGP.out
  have HW10 : Hid (Wri w1 w9.drew p (.map (some mb)) a8 1 c8 [64]) := Lib.hid (wri_below HW8.out (Below.drew (Below.refl _ _)))
  obtain ⟨-, lk', -, -, -, -, -⟩ := sees_of HW10.out HBY1.out HMP.out HV1.out HGP.out
  go_region_held3 (fun V => V.cell? ⟨p, 1, none⟩ = some (.map (some mb)) ∧ (Instr.lookup 43 (.map (some mb)) (.int .u8 64) false).run Tryd.prog V = .ok (.func (.func 27) #[.pointer (some ⟨p, 0, none⟩)] #[]) V ∧ V.cell? ⟨w.heap.size, 0, none⟩ = some (.int .i64 5) ∧ V.cell? ⟨w.heap.size, 1, none⟩ = some (.int .u64 0) ∧ V.cell? ⟨w.heap.size, 2, none⟩ = some (.slice x m xc) ∧ V.cell? ⟨w.heap.size, 3, none⟩ = some (.slice none 0 0) ∧ V.cell? ⟨w.heap.size, 4, none⟩ = some (.slice none 0 0)) (first | exact ⟨d1, ld, d2, d3, d4, d5, d6⟩ | exact ⟨c1, lk', v0, v1, v2, v3, v4⟩ | exact ⟨c1, lk, v0, v1, v2, v3, v4⟩) ((go_at_call 27; refine (HTX.out _ a8 1 c8 (by decide) HW10.out).mono ?_; rintro e w2 ⟨rfl, a2, n2, c2, h2⟩; obtain ⟨d1, ld, d2, d3, d4, d5, d6⟩ := sees_of h2 HBY1.out HMP.out HV1.out HGP.out; have H2 := Lib.hid h2; clear h2))
  go_end0
  rw [← HQ.out]
  obtain ⟨h1, h2, h3⟩ := H2.out
  exact ⟨rfl, a2, n2, c2, h1, own_mono h2 HB1.out.size, (Turned.of_below HB1.out).trans h3 (fun i hi => .inl hi)⟩
/-- The key of the text "a". -/
def key97 : List Nat := [64, 97, 0, 0]
theorem key97_is : [64] ++ esc [97] ++ [0, 0] = key97 := rfl
set_option maxHeartbeats 1000000 in
set_option maxRecDepth 20000 in
theorem of_a {w : World} {b off xc : Nat} (hc : w.cell? ⟨b, off, none⟩ = some (.int .u8 97)) (h1 : 1 ≤ xc) :
    Calls Tryd.prog 12 #[.agg #[.int .i64 5, .int .u64 0, .slice (some ⟨b, off, none⟩) 1 xc, .slice none 0 0, .slice none 0 0]] w fun e w' => ∃ a c, e = .returned (.tuple #[.slice a 4 c, .int .i64 0]) ∧ Own w w' a 4 c key97 ∧ Below w.heap.size w w' := by
  have HX : Hid (∀ V, Below w.heap.size w V → BytesAt V (some ⟨b, off, none⟩) [97]) := Lib.hid (fun V hV => ⟨by decide, by show 1 ≤ maxLen; unfold maxLen; decide, fun j hj => ⟨b, off, rfl, by
    have hj0 : j = 0 := by simpa using hj
    subst hj0
    exact (hV.cell (World.block_lt_of_cell? w _ hc)).trans hc⟩⟩)
  have HG : Hid (∀ V, Below w.heap.size w V → Calls Tryd.prog 18 #[.agg #[.int .i64 5, .int .u64 0, .slice (some ⟨b, off, none⟩) 1 xc, .slice none 0 0, .slice none 0 0]] V fun e w' => e = .returned (.int .i64 0) ∧ Below V.heap.size V w') := Lib.hid (fun V hV => good_text (x := 97) (by decide) ((hV.cell (World.block_lt_of_cell? w _ hc)).trans hc) h1)
  have hbw : b < w.heap.size := World.block_lt_of_cell? w _ hc
  generalize hQ : (fun (e : Ending) (w' : World) => ∃ a c, e = .returned (.tuple #[.slice a 4 c, .int .i64 0]) ∧ Own w w' a 4 c key97 ∧ Below w.heap.size w w') = Q
  have HQ := Lib.hid hQ
  clear hQ hc h1
  go_enter Tryd.func12, Tryd.ntmps12
  go_wp2_with fail
  have HB1 : Hid (Below w.heap.size w (w.alloc (.cells #[.int .i64 5, .int .u64 0, .slice (some ⟨b, off, none⟩) 1 xc, .slice none 0 0, .slice none 0 0] 35))) := Lib.hid (below_alloc _ _)
  have HV1 : Hid (Cells (w.alloc (.cells #[.int .i64 5, .int .u64 0, .slice (some ⟨b, off, none⟩) 1 xc, .slice none 0 0, .slice none 0 0] 35)) w.heap.size 35 #[.int .i64 5, .int .u64 0, .slice (some ⟨b, off, none⟩) 1 xc, .slice none 0 0, .slice none 0 0]) := Lib.hid (cells_new _ _ _)
  generalize w.alloc (.cells #[.int .i64 5, .int .u64 0, .slice (some ⟨b, off, none⟩) 1 xc, .slice none 0 0, .slice none 0 0] 35) = w1 at HB1 HV1 ⊢
  refine (HG.out w1 HB1.out).mono ?_
  rintro e w2 ⟨rfl, hb2⟩
  have HB2 := Lib.hid (HB1.out.trans (hb2.mono HB1.out.size))
  have HV2 := Lib.hid (cells_below HV1.out hb2)
  clear hb2
  go_wp2_with fail
  have HC3 : Hid (Cells (w2.alloc (.cells #[.slice none 0 0, .map none] 45)) w2.heap.size 45 #[.slice none 0 0, .map none]) := Lib.hid (cells_new _ _ _)
  have HV3 : Hid (Cells (w2.alloc (.cells #[.slice none 0 0, .map none] 45)) w.heap.size 35 #[.int .i64 5, .int .u64 0, .slice (some ⟨b, off, none⟩) 1 xc, .slice none 0 0, .slice none 0 0]) := Lib.hid (cells_alloc HV2.out _)
  have HB3 : Hid (Below w.heap.size w (w2.alloc (.cells #[.slice none 0 0, .map none] 45))) := Lib.hid (below_alloc' HB2.out _)
  have hpp : w.heap.size ≤ w2.heap.size := HB2.out.size
  have hgp : w.heap.size ≠ w2.heap.size := by have := (Array.getElem?_eq_some_iff.1 HV2.out).1; omega
  have hp3 : w2.heap.size < (w2.alloc (.cells #[.slice none 0 0, .map none] 45)).heap.size := by rw [size_alloc]; omega
  generalize w2.alloc (.cells #[.slice none 0 0, .map none] 45) = w3 at HC3 HV3 HB3 hp3 ⊢
  generalize w2.heap.size = p at HC3 hpp hgp hp3 ⊢
  refine (writes_any w3 p).mono ?_
  rintro e w4 ⟨rfl, hm4, hb4⟩
  have hc4 := cells_below HC3.out hb4
  have hmp : w3.heap.size ≠ p := by omega
  have HM4 := Lib.hid hm4
  have HC4 := Lib.hid hc4
  have HV4 := Lib.hid (cells_below HV3.out hb4)
  have HB4 := Lib.hid (HB3.out.trans (hb4.mono HB3.out.size))
  have p1 : w4.cell? ⟨p, 1, none⟩ = some (.map none) := by rw [cell_of_row w4 p 1 _ _ _ hc4]; rfl
  have pz : w4.frozen? ⟨p, 1, none⟩ = false := frozen_of_row _ _ _ _ _ hc4
  clear hm4 hb4 hc4
  generalize w3.heap.size = mb at HM4 hmp ⊢
  have HC5 : Hid (Cells (w4.setCell ⟨p, 1, none⟩ (.map (some mb))) p 45 #[.slice none 0 0, .map (some mb)]) := Lib.hid (cells_setCell (o := 1) HC4.out)
  have HM5 : Hid (ByAt (w4.setCell ⟨p, 1, none⟩ (.map (some mb))) p mb) := Lib.hid (by_turned HM4.out ((Turned.refl (fun k => k = p) w4).setCell (p := ⟨p, 1, none⟩) (.inl rfl) _) hmp)
  have hv5 : Cells (w4.setCell ⟨p, 1, none⟩ (.map (some mb))) w.heap.size 35 #[.int .i64 5, .int .u64 0, .slice (some ⟨b, off, none⟩) 1 xc, .slice none 0 0, .slice none 0 0] := cells_setOther HV4.out hgp
  have HB5 : Hid (Below w.heap.size w (w4.setCell ⟨p, 1, none⟩ (.map (some mb)))) := Lib.hid (HB4.out.setCell hpp _)
  have v0 : (w4.setCell ⟨p, 1, none⟩ (.map (some mb))).cell? ⟨w.heap.size, 0, none⟩ = some (.int .i64 5) := by rw [cell_of_row _ w.heap.size 0 _ _ _ hv5]; rfl
  have v1 : (w4.setCell ⟨p, 1, none⟩ (.map (some mb))).cell? ⟨w.heap.size, 1, none⟩ = some (.int .u64 0) := by rw [cell_of_row _ w.heap.size 1 _ _ _ hv5]; rfl
  have v2 : (w4.setCell ⟨p, 1, none⟩ (.map (some mb))).cell? ⟨w.heap.size, 2, none⟩ = some (.slice (some ⟨b, off, none⟩) 1 xc) := by rw [cell_of_row _ w.heap.size 2 _ _ _ hv5]; rfl
  have v3 : (w4.setCell ⟨p, 1, none⟩ (.map (some mb))).cell? ⟨w.heap.size, 3, none⟩ = some (.slice none 0 0) := by rw [cell_of_row _ w.heap.size 3 _ _ _ hv5]; rfl
  have v4 : (w4.setCell ⟨p, 1, none⟩ (.map (some mb))).cell? ⟨w.heap.size, 4, none⟩ = some (.slice none 0 0) := by rw [cell_of_row _ w.heap.size 4 _ _ _ hv5]; rfl
  have HVT : Hid (Calls Tryd.prog 20 #[.pointer (some ⟨p, 0, none⟩), .agg #[.int .i64 5, .int .u64 0, .slice (some ⟨b, off, none⟩) 1 xc, .slice none 0 0, .slice none 0 0]] (w4.setCell ⟨p, 1, none⟩ (.map (some mb))) fun e w' => e = .returned (.tuple #[]) ∧ ∃ a' n' c', Wri (w4.setCell ⟨p, 1, none⟩ (.map (some mb))) w' p (.map (some mb)) a' n' c' ([64] ++ esc [97] ++ [0, 0])) := Lib.hid (value_text HC5.out HM5.out hmp (HX.out _ HB5.out) (fun ad e => by cases e; show b ≠ p; omega) rfl (by decide))
  go_wp2_with fail
  refine HVT.out.mono ?_
  rintro e w6 ⟨rfl, a6, n6, c6, h6⟩
  rw [key97_is] at h6
  obtain rfl : n6 = 4 := h6.2.1.1.symm
  have f0 := wri_0 h6
  have H6 := Lib.hid h6
  clear h6 v0 v1 v2 v3 v4
  go_wp2
  rw [← HQ.out]
  exact ⟨a6, c6, rfl, own_mono H6.out.2.1 HB5.out.size, Turned.to_below HB5.out H6.out.2.2 (fun k e => by omega) HB5.out.size⟩
end Go.Proofs.YtpbdchcocadnkaaDoor
