/- A text's key is read back: contracts of package key's reader. -/
import Derived.Test.YtpbdchcocadnkaaDoorKeyOf
namespace Go.Proofs.YtpbdchcocadnkaaDoor
open Go.ChangeShapes Go.WideShapes Go.ChangeAt Go.RowKit

/-- A reader at p of the four bytes at an address, at place q. -/
def Rd (w : World) (p b off cap q : Nat) : Prop := Cells w p 58 #[.slice (some ⟨b, off, none⟩) 4 cap, .int .i64 (q : Int), .bool false, .bool false]
structure Rds (w : World) (p b off cap q : Nat) : Prop where
  r0 : w.cell? ⟨p, 0, none⟩ = some (.slice (some ⟨b, off, none⟩) 4 cap)
  r1 : w.cell? ⟨p, 1, none⟩ = some (.int .i64 (q : Int))
  r2 : w.cell? ⟨p, 2, none⟩ = some (.bool false)
  r3 : w.cell? ⟨p, 3, none⟩ = some (.bool false)
  rz : w.frozen? ⟨p, 1, none⟩ = false
  rt : w.frozen? ⟨p, 2, none⟩ = false
theorem rds_of {w : World} {p b off cap q : Nat} (h : Rd w p b off cap q) : Rds w p b off cap q :=
  ⟨by rw [cell_of_row w p 0 _ _ _ h]; rfl, by rw [cell_of_row w p 1 _ _ _ h]; rfl, by rw [cell_of_row w p 2 _ _ _ h]; rfl, by rw [cell_of_row w p 3 _ _ _ h]; rfl, frozen_of_row _ _ _ _ _ h, frozen_of_row _ _ _ _ _ h⟩
theorem rd_set {w : World} {p b off cap q : Nat} (h : Rd w p b off cap q) (r : Nat) : Rd (w.setCell ⟨p, 1, none⟩ (.int .i64 (r : Int))) p b off cap r := cells_setCell (o := 1) h
/-- What next tells. -/
def Nexts (w : World) (p b off cap q d : Nat) (e : Ending) (w' : World) : Prop := e = .returned (.int .u8 (d : Int)) ∧ Rd w' p b off cap (q + 1) ∧ Turned (fun k => k = p) w w'
set_option maxHeartbeats 1000000 in
set_option maxRecDepth 20000 in
theorem next_any {w : World} {p b off cap q d : Nat} (h : Rd w p b off cap q) (hq : q < 4) (hd : w.cell? ⟨b, off + q, none⟩ = some (.int .u8 (d : Int))) (hbp : b ≠ p) :
    Calls Tryd.prog 42 #[.pointer (some ⟨p, 0, none⟩)] w (Nexts w p b off cap q d) := by
  obtain ⟨r0, r1, r2, r3, rz, rt⟩ := rds_of h
  have H := Lib.hid h
  have hge : decide ((4 : Int) ≤ (q : Int)) = false := decide_eq_false (by omega)
  have HB := Lib.hid hbp
  generalize hQ : Nexts w p b off cap q d = Q
  have HQ := Lib.hid hQ
  clear hQ h
  go_enter Tryd.func42, Tryd.ntmps42
  go_wp2
  go_region
  go_wp2
  go_region
  have HD : Hid (Rd w.drew.drew p b off cap q) := Lib.hid (cells_drew (cells_drew H.out))
  have HT : Hid (Turned (fun k => k = p) w w.drew.drew) := Lib.hid (Turned.refl (fun k => k = p) w).drew.drew
  generalize w.drew.drew = w2 at HD HT ⊢
  clear r0 r1 r2 r3 rz rt
  obtain ⟨r0, r1, r2, r3, rz, rt⟩ := rds_of HD.out
  go_wp2
  rw [← HQ.out]
  refine ⟨rfl, ?_, HT.out.setCell (.inl rfl) _⟩
  have h := rd_set HD.out (q + 1)
  rwa [Int.natCast_add] at h
/-- Four bytes stand there: a text's key. -/
def Four (w : World) (b off : Nat) : Prop := w.cell? ⟨b, off + 0, none⟩ = some (.int .u8 ((64 : Nat) : Int)) ∧ w.cell? ⟨b, off + 1, none⟩ = some (.int .u8 ((97 : Nat) : Int)) ∧ w.cell? ⟨b, off + 2, none⟩ = some (.int .u8 ((0 : Nat) : Int)) ∧ w.cell? ⟨b, off + 3, none⟩ = some (.int .u8 ((0 : Nat) : Int))
theorem four_of {w : World} {b off : Nat} (h : BytesAt w (some ⟨b, off, none⟩) key97) : Four w b off :=
  ⟨(cell_at h (n := 4) rfl 0 (by decide)).1, (cell_at h (n := 4) rfl 1 (by decide)).1, (cell_at h (n := 4) rfl 2 (by decide)).1, (cell_at h (n := 4) rfl 3 (by decide)).1⟩
theorem four_turned {w w' : World} {b off p : Nat} (h : Four w b off) (ht : Turned (fun k => k = p) w w') (hp : b ≠ p) : Four w' b off := by
  have one : ∀ j v, w.cell? ⟨b, off + j, none⟩ = some v → w'.cell? ⟨b, off + j, none⟩ = some v := fun j v hc => by
    rw [World.cell?_of_block (a := ⟨b, off + j, none⟩) (ht.block b (World.block_lt_of_cell? w _ hc) (fun e => hp e))]
    exact hc
  exact ⟨one 0 _ h.1, one 1 _ h.2.1, one 2 _ h.2.2.1, one 3 _ h.2.2.2⟩
theorem four_below {w w' : World} {b off : Nat} (h : Four w b off) (hb : Below w.heap.size w w') : Four w' b off := by
  have one : ∀ j v, w.cell? ⟨b, off + j, none⟩ = some v → w'.cell? ⟨b, off + j, none⟩ = some v := fun j v hc => (hb.cell (World.block_lt_of_cell? w _ hc)).trans hc
  exact ⟨one 0 _ h.1, one 1 _ h.2.1, one 2 _ h.2.2.1, one 3 _ h.2.2.2⟩
/-- A reader and its bytes, seen from an elder world. -/
def Red (W w : World) (p b off cap q : Nat) : Prop := Rd w p b off cap q ∧ Four w b off ∧ Turned (fun k => k = p) W w
theorem red_next {W w w' : World} {p b off cap q d : Nat} {e : Ending} (h : Red W w p b off cap q) (hbp : b ≠ p) (hn : Nexts w p b off cap q d e w') : Red W w' p b off cap (q + 1) :=
  ⟨hn.2.1, four_turned h.2.1 hn.2.2 hbp, h.2.2.trans hn.2.2 (Grows.refl _ _)⟩
theorem red_below {W w w' : World} {p b off cap q : Nat} (h : Red W w p b off cap q) (hb : Below w.heap.size w w') : Red W w' p b off cap q :=
  ⟨cells_below h.1 hb, four_below h.2.1 hb, h.2.2.below hb⟩
set_option maxHeartbeats 1000000 in
set_option maxRecDepth 20000 in
theorem rescaped_any {w : World} {p b off cap : Nat} (h : Rd w p b off cap 1) (hf : Four w b off) (hbp : b ≠ p) (hpw : p < w.heap.size) :
    Calls Tryd.prog 44 #[.pointer (some ⟨p, 0, none⟩)] w fun e w' => ∃ a c, e = .returned (.slice a 1 c) ∧ Own w w' a 1 c [97] ∧ Red w w' p b off cap 4 := by
  have HR := Lib.hid rowyU
  have HN : Hid (∀ (V : World) (q d : Nat), Red w V p b off cap q → q < 4 → V.cell? ⟨b, off + q, none⟩ = some (.int .u8 (d : Int)) → Calls Tryd.prog 42 #[.pointer (some ⟨p, 0, none⟩)] V (Nexts V p b off cap q d)) := Lib.hid (fun V q d h hq hd => next_any h.1 hq hd hbp)
  have H1 : Hid (Red w w p b off cap 1) := Lib.hid ⟨h, hf, Turned.refl _ _⟩
  have HBP := Lib.hid hbp
  have HPW := Lib.hid hpw
  obtain ⟨r0, r1, r2, r3, rz, rt⟩ := rds_of h
  generalize hQ : (fun (e : Ending) (w' : World) => ∃ a c, e = .returned (.slice a 1 c) ∧ Own w w' a 1 c [97] ∧ Red w w' p b off cap 4) = Q
  have HQ := Lib.hid hQ
  clear hQ h hf hbp hpw
  go_enter Tryd.func44, Tryd.ntmps44
  go_wp2
  refine wp_loop_rounds 2 ?_
  rw [rounds_succ]
  go_wp2_with fail
  refine (HN.out w 1 97 H1.out (by decide) H1.out.2.1.2.1).mono ?_
  rintro e w2 hn
  have H2 := Lib.hid (red_next H1.out HBP.out hn)
  have he := hn.1
  rw [show ((97 : Nat) : Int) = 97 from rfl] at he
  subst he
  clear hn r0 r1 r2 r3 rz rt
  go_wp2_with (at_builtin; refine wpList_slc HR.out rfl (.tmp 20) (.tmp 22) 22 rfl rfl rfl (slc_nil _ 1) (bytes_src Tryd.underlying22 (const_one w2 97 (by decide)) rfl) (rfl : 0 + 1 = 1) (by unfold maxLen; decide) (by decide) ?_; intro a3 c3 b3 w3 h1 h2 h3; obtain ⟨hc, ho, ht⟩ := grow_at (m := [97]) (k := []) H2.out.1 HPW.out H2.out.2.2 (below_alloc _ _) rfl (rfl : 0 + 1 = 1) (fun x hx => by cases hx) (by decide) (fun b e => by cases e) h1 h2 h3; have hb3 : Below w2.heap.size w2 w3 := (below_alloc w2 _).trans ((h2.mono (fun k e => by cases e)).none_below.mono (below_alloc w2 _).size); have H3 := Lib.hid (red_below H2.out hb3); have HO3 := Lib.hid ho; clear h1 h2 h3 hc ho ht hb3)
  obtain ⟨r0, r1, r2, r3, rz, rt⟩ := rds_of H3.out.1
  rw [rounds_succ]
  go_wp2_with fail
  refine (HN.out w3 2 0 H3.out (by decide) H3.out.2.1.2.2.1).mono ?_
  rintro e w4 hn
  have H4 := Lib.hid (red_next H3.out HBP.out hn)
  have HO4 := Lib.hid (own_away HO3.out hn.2.2 HPW.out)
  have he := hn.1
  rw [show ((0 : Nat) : Int) = 0 from rfl] at he
  subst he
  clear hn r0 r1 r2 r3 rz rt
  go_wp2_with fail
  refine (HN.out w4 3 0 H4.out (by decide) H4.out.2.1.2.2.2).mono ?_
  rintro e w5 hn
  have H5 := Lib.hid (red_next H4.out HBP.out hn)
  have HO5 := Lib.hid (own_away HO4.out hn.2.2 HPW.out)
  have he := hn.1
  rw [show ((0 : Nat) : Int) = 0 from rfl] at he
  subst he
  clear hn
  go_wp2
  rw [← HQ.out]
  exact ⟨a3, c3, rfl, HO5.out, H5.out⟩
/-- Five cells written over with a text's. -/
def set5 (w : World) (g : Nat) (v : Value) : World := ((((w.setCell ⟨g, 0, none⟩ (.int .i64 5)).setCell ⟨g, 1, none⟩ (.int .u64 0)).setCell ⟨g, 2, none⟩ v).setCell ⟨g, 3, none⟩ (.slice none 0 0)).setCell ⟨g, 4, none⟩ (.slice none 0 0)
theorem set5_is (w : World) (g : Nat) (v : Value) : ((((w.setCell ⟨g, 0, none⟩ (.int .i64 5)).setCell ⟨g, 1, none⟩ (.int .u64 0)).setCell ⟨g, 2, none⟩ v).setCell ⟨g, 3, none⟩ (.slice none 0 0)).setCell ⟨g, 4, none⟩ (.slice none 0 0) = set5 w g v := rfl
theorem set5_turned (w : World) (g : Nat) (v : Value) : Turned (fun k => k = g) w (set5 w g v) :=
  (((((Turned.refl (fun k => k = g) w).setCell (p := ⟨g, 0, none⟩) (.inl rfl) _).setCell (p := ⟨g, 1, none⟩) (.inl rfl) _).setCell (p := ⟨g, 2, none⟩) (.inl rfl) _).setCell (p := ⟨g, 3, none⟩) (.inl rfl) _).setCell (p := ⟨g, 4, none⟩) (.inl rfl) _
theorem set5_cells {w : World} {g : Nat} {t : TypeId} {x0 x1 x2 x3 x4 v : Value} (h : Cells w g t #[x0, x1, x2, x3, x4]) : Cells (set5 w g v) g t #[.int .i64 5, .int .u64 0, v, .slice none 0 0, .slice none 0 0] :=
  cells_setCell (o := 4) (cells_setCell (o := 3) (cells_setCell (o := 2) (cells_setCell (o := 1) (cells_setCell (o := 0) h))))
structure Five (w : World) (g : Nat) (x0 x1 x2 x3 x4 : Value) : Prop where
  a0 : w.cell? ⟨g, 0, none⟩ = some x0
  a1 : w.cell? ⟨g, 1, none⟩ = some x1
  a2 : w.cell? ⟨g, 2, none⟩ = some x2
  a3 : w.cell? ⟨g, 3, none⟩ = some x3
  a4 : w.cell? ⟨g, 4, none⟩ = some x4
  z0 : w.frozen? ⟨g, 0, none⟩ = false
  z1 : w.frozen? ⟨g, 1, none⟩ = false
  z2 : w.frozen? ⟨g, 2, none⟩ = false
  z3 : w.frozen? ⟨g, 3, none⟩ = false
  z4 : w.frozen? ⟨g, 4, none⟩ = false
theorem five_of {w : World} {g : Nat} {t : TypeId} {x0 x1 x2 x3 x4 : Value} (h : Cells w g t #[x0, x1, x2, x3, x4]) : Five w g x0 x1 x2 x3 x4 :=
  ⟨by rw [cell_of_row w g 0 _ _ _ h]; rfl, by rw [cell_of_row w g 1 _ _ _ h]; rfl, by rw [cell_of_row w g 2 _ _ _ h]; rfl, by rw [cell_of_row w g 3 _ _ _ h]; rfl, by rw [cell_of_row w g 4 _ _ _ h]; rfl, frozen_of_row _ _ _ _ _ h, frozen_of_row _ _ _ _ _ h, frozen_of_row _ _ _ _ _ h, frozen_of_row _ _ _ _ _ h, frozen_of_row _ _ _ _ _ h⟩
theorem red_away {W w w' : World} {p b off cap q g : Nat} (h : Red W w p b off cap q) (ht : Turned (fun k => k = g) w w') (hp : p ≠ g) (hb : b ≠ g) (hg : W.heap.size ≤ g) : Red W w' p b off cap q :=
  ⟨cells_turned h.1 ht hp, four_turned h.2.1 ht hb, h.2.2.trans ht (fun k e => .inr (by omega))⟩
set_option maxHeartbeats 1000000 in
set_option maxRecDepth 20000 in
theorem rvalue_any {w : World} {p b off cap : Nat} (h : Rd w p b off cap 0) (hf : Four w b off) (hbp : b ≠ p) :
    Calls Tryd.prog 31 #[.pointer (some ⟨p, 0, none⟩)] w fun e w' => ∃ a c, e = .returned (.agg #[.int .i64 5, .int .u64 0, .slice a 1 c, .slice none 0 0, .slice none 0 0]) ∧ Own w w' a 1 c [97] ∧ Red w w' p b off cap 4 := by
  have hpw : p < w.heap.size := (Array.getElem?_eq_some_iff.1 h).1
  have HN : Hid (∀ V, Red w V p b off cap 0 → Calls Tryd.prog 42 #[.pointer (some ⟨p, 0, none⟩)] V (Nexts V p b off cap 0 64)) := Lib.hid (fun V h => next_any h.1 (by decide) h.2.1.1 hbp)
  have HE : Hid (∀ V, Red w V p b off cap 1 → Calls Tryd.prog 44 #[.pointer (some ⟨p, 0, none⟩)] V fun e w' => ∃ a c, e = .returned (.slice a 1 c) ∧ Own V w' a 1 c [97] ∧ Red V w' p b off cap 4) := Lib.hid (fun V h => rescaped_any h.1 h.2.1 hbp (Nat.lt_of_lt_of_le hpw h.2.2.size))
  have H1 : Hid (Red w (w.alloc (.cells #[.int .i64 0, .int .u64 0, .slice none 0 0, .slice none 0 0, .slice none 0 0] 35)) p b off cap 0) := Lib.hid (red_below ⟨h, hf, Turned.refl _ _⟩ (below_alloc _ _))
  have HV1 : Hid (Cells (w.alloc (.cells #[.int .i64 0, .int .u64 0, .slice none 0 0, .slice none 0 0, .slice none 0 0] 35)) w.heap.size 35 #[.int .i64 0, .int .u64 0, .slice none 0 0, .slice none 0 0, .slice none 0 0]) := Lib.hid (cells_new _ _ _)
  have HBP := Lib.hid hbp
  have HBW : Hid (b ≠ w.heap.size) := Lib.hid (Nat.ne_of_lt (World.block_lt_of_cell? w _ hf.1))
  have HPW := Lib.hid hpw
  generalize hQ : (fun (e : Ending) (w' : World) => ∃ a c, e = .returned (.agg #[.int .i64 5, .int .u64 0, .slice a 1 c, .slice none 0 0, .slice none 0 0]) ∧ Own w w' a 1 c [97] ∧ Red w w' p b off cap 4) = Q
  have HQ := Lib.hid hQ
  clear hQ h hf hbp hpw
  go_enter Tryd.func31, Tryd.ntmps31
  go_wp2_with fail
  generalize w.alloc (.cells #[.int .i64 0, .int .u64 0, .slice none 0 0, .slice none 0 0, .slice none 0 0] 35) = w1 at H1 HV1 ⊢
  refine (HN.out w1 H1.out).mono ?_
  rintro e w2 hn
  have H2 := Lib.hid (red_next H1.out HBP.out hn)
  have HV2 := Lib.hid (cells_turned HV1.out hn.2.2 (by have := HPW.out; omega))
  have he := hn.1
  rw [show ((64 : Nat) : Int) = 64 from rfl] at he
  subst he
  clear hn
  go_wp2_with fail
  refine (HE.out w2 H2.out).mono ?_
  rintro e w3 ⟨a3, c3, rfl, ho3, hr3⟩
  have hg2 : w.heap.size < w2.heap.size := (Array.getElem?_eq_some_iff.1 HV2.out).1
  have hV3 := cells_turned HV2.out hr3.2.2 (by have := HPW.out; omega)
  have HV3 := Lib.hid hV3
  have HO3 := Lib.hid ho3
  have H3 : Hid (Red w w3 p b off cap 4) := Lib.hid ⟨hr3.1, hr3.2.1, H2.out.2.2.trans hr3.2.2 (Grows.refl _ _)⟩
  obtain ⟨a0, a1, a2, a3', a4, z0, z1, z2, z3, z4⟩ := five_of hV3
  clear ho3 hr3 hV3
  go_wp2
  have hAs := set5_cells (v := .slice a3 1 c3) HV3.out
  have hTs := set5_turned w3 w.heap.size (.slice a3 1 c3)
  rw [set5_is]
  (try simp only [Exit.inBlock, Exit.then])
  refine bodyPost_ret (results_cell_row rfl _ _ w.heap.size 35 _ (0, 0) _ rfl hAs Tryd.underlying35 rfl (by kernel_rfl)) rfl ?_
  rw [← HQ.out]
  exact ⟨a3, c3, rfl, own_mono (own_away HO3.out hTs hg2) (Nat.le_of_lt hg2), red_away H3.out hTs (by have := HPW.out; omega) (HBW.out) (Nat.le_refl _)⟩
end Go.Proofs.YtpbdchcocadnkaaDoor
