/- P14.1, P14.2: what is asked for of one name changes nothing of another one: the walk. -/
import Derived.Test.YthanjncpgcmnaaaLckTwo
import Derived.Deep.RegionWith
import Derived.Deep.DrawnRows
import Derived.Deep.DeepCutAuto
namespace Go.Proofs.Ythanjncpgcmnaaa
open Go.ChangeShapes Go.WideShapes Go.ChangeAt Go.RowKit
attribute [local go_sem ↓] Go.wp_at_zero Go.wp_at_succ
/-- The numbers that owners get. -/
theorem even_own (oo : Nat) (_h : oo < 18446744073709551616) : ∃ e1 e : Nat, IntKind.u64.wrap ((oo : Int) * 2) = (e1 : Int) ∧ IntKind.u64.wrap ((e1 : Int) + 2) = (e : Int) ∧ e % 2 = 0 ∧ e < top ∧ IntKind.u64.wrap ((e : Int) + 1) = ((e + 1 : Nat) : Int) ∧ e + 1 < top := by
  refine ⟨(oo * 2) % 18446744073709551616, ((oo * 2) % 18446744073709551616 + 2) % 18446744073709551616, ?_, ?_, ?_, ?_, ?_, ?_⟩
  · rw [IntKind.wrap_u64]; omega
  · rw [IntKind.wrap_u64]; omega
  · omega
  · unfold top; omega
  · rw [IntKind.wrap_u64]; omega
  · unfold top; omega
theorem named (c : UInt8) (nm : ByteArray) (h : nm.size ≤ 140737488351232) : ∃ s, ({ data := #[c] } : ByteArray) ++ nm = s ∧ s.size ≤ maxLen ∧ s.data.toList.head? = some c := by
  refine ⟨_, rfl, ?_, ?_⟩
  · rw [ByteArray.size_append]
    show 1 + nm.size ≤ _
    unfold maxLen; omega
  · rw [ByteArray.data_append, Array.toList_append]; rfl
theorem victim_form {W : World} {S : St} {id : Nat} {e : Ending} {w : World} (h : VictimTells W S id e w) : ∃ (G : Nat) (b : Bool), e = .returned (.tuple #[.int .u64 (G : Int), .bool b]) := by
  rcases h.2 with ⟨_, rfl⟩ | ⟨_, G, rfl, _⟩
  · exact ⟨0, false, rfl⟩
  · exact ⟨G, true, rfl⟩
theorem victim_inj {G K : Nat} {b c : Bool} (h : Ending.returned (.tuple #[.int .u64 (G : Int), .bool b]) = .returned (.tuple #[.int .u64 (K : Int), .bool c])) : G = K ∧ b = c := by
  simp at h
  first | exact h | exact ⟨by omega, h.2⟩
theorem two_cells {w w' : World} {D : Nat} {t : TypeId} {cs : Array Value} (h : Cells w D t cs) (hk : ∀ k, k = D → w'.heap[k]? = w.heap[k]?) : Cells w' D t cs := cells_kept h (hk D rfl)
abbrev Nl : Nat → Prop := fun _ => False
set_option maxRecDepth 100000 in
set_option maxHeartbeats 8000000 in
theorem apart_walk {a : Option Addr} {n cap : Nat} {W : World} (hin : n ≤ 3518437208883 ∧ ∀ k, k < n → DeedIn2 W a k) : Calls Try.prog 10 #[.slice a n cap] W fun e w' => e = .returned (.bool true) ∧ Below W.heap.size W w' := by
  have HA := Lib.hid awake_any
  obtain ⟨hn, hd⟩ := hin
  have HD := Lib.hid hd
  clear hd
  go_enter Try.func10, Try.ntmps10
  go_wp2_with (first
    | (go_at_call 12; refine (HA.out _).mono ?_; rintro e w1 ⟨rfl, hb⟩; have B1 := Lib.hid hb; clear hb)
    | (go_at_call 11; refine (live_new W _ B1.out Nl (fun _ h => h.elim)).mono ?_; rintro e w2 ⟨g, rfl, h2, -, -⟩; have L0 := Lib.hid h2; clear h2 B1)
    | (go_at_call 11; refine (two_new L0.out).mono ?_; rintro e w3 ⟨g', rfl, h3⟩; have T0 := Lib.hid h3; clear h3 L0))
  go_loopw [5] (fun i wr => ∃ (j : Nat) (S T : St), j ≤ n ∧ i = .int .i64 (j : Int) ∧ Hid (Two W wr g g' S T (2 * j) j Nl) ∧ Hid (Rel S T)) (fun i _ => n - (intOf i).toNat)
  case atStart => exact ⟨0, S0, S0, Nat.zero_le _, rfl, T0, Lib.hid rel_S0⟩
  case round =>
    obtain ⟨j, S, T, hj, rfl, hT, hR⟩ := hrel
    by_cases hlt : j < n
    · obtain ⟨b, off, dd, oo, nm, mm, rfl, hda, hsz⟩ := HD.out j hlt
      have hdb := deed_below hda hT.out.below
      have c0 := hdb.c0; have c1 := hdb.c1; have c2 := hdb.c2; have c3 := hdb.c3
      have rd := hdb.rd; have rm := hdb.rm
      have hot : oo < 18446744073709551616 := hdb.top
      obtain ⟨e1, e, he1, he2, hev, het, he3, het3⟩ := even_own oo hot
      obtain ⟨xnm, hxn, hxs, hxx⟩ := named 120 nm hsz
      obtain ⟨ynm, hyn, hys, hyy⟩ := named 121 nm hsz
      have hX : Xn xnm := hxx
      have hY : ¬ Xn ynm := fun h => by have h : ynm.data.toList.head? = some 120 := h; rw [hyy] at h; cases h
      have hcat : ¬ 9223372036854775807 < 1 + nm.size := by omega
      obtain ⟨D, hD⟩ : ∃ D, D = wr.heap.size := ⟨_, rfl⟩
      obtain ⟨W1, hW1⟩ : ∃ W1, W1 = wr.alloc (.cells #[.int .i64 dd, .int .u64 (e : Int), .string nm, .int .i64 mm] 45) := ⟨_, rfl⟩
      have HC1 : Hid (Cells W1 D 45 #[.int .i64 dd, .int .u64 (e : Int), .string nm, .int .i64 mm]) := Lib.hid (by rw [hW1, hD]; exact cells_new wr _ _)
      have HT1 : Hid (Two W W1 g g' S T (2 * j) j (fun k => k = D)) := Lib.hid (by
        have hb := below_alloc wr (.cells #[.int .i64 dd, .int .u64 (e : Int), .string nm, .int .i64 mm] 45)
        rw [hW1]
        exact two_mono (two_below hT.out hb) (fun k hk => .inr (by rw [hk, hD, size_alloc]; omega)) (Nat.le_refl _) (Nat.le_refl _))
      have HD1 := Lib.hid hD; have HW1 := Lib.hid hW1
      have HEV := Lib.hid hev; have HET := Lib.hid het; have HET3 := Lib.hid het3; have HXS := Lib.hid hxs; have HYS := Lib.hid hys; have HX := Lib.hid hX; have HY := Lib.hid hY
      have HJ : Hid (j < 3518437208883) := Lib.hid (by omega)
      clear hdb hda hsz hxx hyy hX hY hxs hys hev het het3 hot hD hW1
      by_cases hdo : dd ≤ 4
      · obtain ⟨r, hr⟩ : ∃ r, r = (askF S e xnm mm).2 := ⟨_, rfl⟩
        obtain ⟨S1, hS1⟩ : ∃ S1, S1 = (askF S e xnm mm).1 := ⟨_, rfl⟩
        obtain ⟨T1, hT1⟩ : ∃ T1, T1 = (askF T e xnm mm).1 := ⟨_, rfl⟩
        obtain ⟨S2, hS2⟩ : ∃ S2, S2 = (askF S1 (e + 1) ynm mm).1 := ⟨_, rfl⟩
        have hra := rel_ask hR.out hT.out.le hT.out.symm.le HEV.out HX.out mm
        rw [← hr, ← hS1, ← hT1] at hra
        have HR1 := Lib.hid hra.2
        have HRT := Lib.hid hra.1
        have HQ1 : Hid (Calls Try.prog 13 #[.pointer (some ⟨g, 0, none⟩), .int .u64 (e : Int), .string xnm, .int .i64 mm] W1 (TwoGoes W W1 g g' S1 T (2 * j + 1) j (fun k => k = D) (.int .i64 r))) := Lib.hid (by rw [hr, hS1]; exact two_ask HT1.out (by have := HJ.out; omega) HET.out HXS.out mm)
        have HQ2 : Hid (∀ w, Two W w g g' S1 T (2 * j + 1) j (fun k => k = D) → Calls Try.prog 13 #[.pointer (some ⟨g', 0, none⟩), .int .u64 (e : Int), .string xnm, .int .i64 mm] w (TwoGoes W w g' g T1 S1 (j + 1) (2 * j + 1) (fun k => k = D) (.int .i64 r))) := Lib.hid (fun w h => by rw [HRT.out, hT1]; exact two_ask h.symm (by have := HJ.out; omega) HET.out HXS.out mm)
        have HQ3 : Hid (∀ w, Two W w g' g T1 S1 (j + 1) (2 * j + 1) (fun k => k = D) → (Rel S2 T1 ∧ Calls Try.prog 13 #[.pointer (some ⟨g, 0, none⟩), .int .u64 ((e + 1 : Nat) : Int), .string ynm, .int .i64 mm] w (TwoGoes W w g g' S2 T1 (2 * j + 1 + 1) (j + 1) (fun k => k = D) (.int .i64 (askF S1 (e + 1) ynm mm).2)))) := Lib.hid (fun w h => by
          rw [hS2]
          exact ⟨rel_ask_y HR1.out h.symm.le (by have := HEV.out; omega) HY.out mm, two_ask h.symm (by have := HJ.out; omega) HET3.out HYS.out mm⟩)
        clear hra hr hS1 hT1 hS2
        have HCE : Hid (∀ w : World, Cells w D 45 #[.int .i64 dd, .int .u64 (e : Int), .string nm, .int .i64 mm] → w.cell? ⟨D, 0, none⟩ = some (.int .i64 dd) ∧ w.cell? ⟨D, 1, none⟩ = some (.int .u64 (e : Int)) ∧ w.cell? ⟨D, 2, none⟩ = some (.string nm) ∧ w.cell? ⟨D, 3, none⟩ = some (.int .i64 mm)) := Lib.hid (fun w h => ⟨(cell_of_row _ _ 0 _ _ _ h).trans rfl, (cell_of_row _ _ 1 _ _ _ h).trans rfl, (cell_of_row _ _ 2 _ _ _ h).trans rfl, (cell_of_row _ _ 3 _ _ _ h).trans rfl⟩)
        rw [HD1.out, HW1.out] at HQ1
        go_wp2_with (first
          | (go_at_call 13; refine HQ1.out.mono ?_; rintro e5 w2 ⟨rfl, t2, k2⟩; rw [← HD1.out] at t2 k2 ⊢; rw [← HW1.out] at k2; have HC2 := Lib.hid (cells_kept HC1.out (k2 D rfl)); obtain ⟨f0, f1, f2, f3⟩ := HCE.out _ HC2.out; have HT2 := Lib.hid t2; clear t2 k2 HQ1)
          | (go_at_call 13; refine (HQ2.out _ HT2.out).mono ?_; rintro e5 w3 ⟨rfl, t3, k3⟩; have HC3 := Lib.hid (cells_kept HC2.out (k3 D rfl)); obtain ⟨g0, g1, g2, g3⟩ := HCE.out _ HC3.out; have HT3 := Lib.hid t3; clear t3 k3 HT2)
          | (go_at_call 13; refine (HQ3.out _ HT3.out).2.mono ?_; rintro e5 w4 ⟨rfl, t4, k4⟩; have HC4 := Lib.hid (cells_kept HC3.out (k4 D rfl)); obtain ⟨i0, i1, i2, i3⟩ := HCE.out _ HC4.out; have HT4 := Lib.hid t4; have HR2 := Lib.hid (HQ3.out _ HT3.out).1; clear t4 k4 HT3))
        have HVI1 : Hid (∀ w, Below w4.heap.size w4 w → Calls Try.prog 18 #[.pointer (some ⟨g, 0, none⟩), .int .u64 (e : Int)] w (VictimTells w S2 e)) := Lib.hid (fun w h => two_victim (two_on HT4.out h) HR2.out.is (by have := HJ.out; omega) HET.out)
        have HVI2 : Hid (∀ w, Below w4.heap.size w4 w → Calls Try.prog 18 #[.pointer (some ⟨g', 0, none⟩), .int .u64 (e : Int)] w (VictimTells w T1 e)) := Lib.hid (fun w h => two_victim (two_on HT4.out h).symm HR2.out.it (by have := HJ.out; omega) HET.out)
        have HQU1 : Hid (∀ w, Below w4.heap.size w4 w → Calls Try.prog 15 #[.pointer (some ⟨g, 0, none⟩), .string xnm] w (QueueTells w ((S2.queue xnm).map (·.1)))) := Lib.hid (fun w h => two_queue (two_on HT4.out h) (by have := HJ.out; omega) HXS.out)
        have HQU2 : Hid (∀ w, Below w4.heap.size w4 w → Calls Try.prog 15 #[.pointer (some ⟨g', 0, none⟩), .string xnm] w (QueueTells w ((S2.queue xnm).map (·.1)))) := Lib.hid (fun w h => by rw [HR2.out.queue xnm HX.out]; exact two_queue (two_on HT4.out h).symm (by have := HJ.out; omega) HXS.out)
        have HB4 : Hid (Below w4.heap.size w4 w4.drew) := Lib.hid (Below.drew (Below.refl _ w4))
        have HDL := Lib.hid (cells_lt HC4.out)
        have rne : (r != r) = false := by simp
        clear c0 c1 c2 c3 he1 he2 he3 f0 f1 f2 f3 g0 g1 g2 g3
        clear HQ2 HQ3 HRT
        refine wp_region_held_drew (S := fun w' : World => w'.cell? ⟨D, 2, none⟩ = some (.string nm)) (by kernel_rfl) i2 (fun hHeld => ?_)
        refine wpAnyH_take (i := 0) (oi := _) (v := .int .i64 r) rfl (by kernel_rfl) (by kernel_rfl) (by kernel_rfl) (fun _ _ _ h => h) (Or.inl ⟨by kernel_rfl, ?_⟩) (by assumption) ?_
        · intro w hSw; (try dsimp only at hSw); go_simp
        (try simp only [Act.put, List.setIfInBounds_toArray, List.set_cons_zero, List.set_cons_succ])
        refine wpAnyH_take (i := 1) (oi := _) (v := .int .i64 r) rfl (by kernel_rfl) (by kernel_rfl) (by kernel_rfl) (fun _ _ _ h => h) (Or.inl ⟨by kernel_rfl, ?_⟩) (by assumption) ?_
        · intro w hSw; (try dsimp only at hSw); go_simp
        (try simp only [Act.put, List.setIfInBounds_toArray, List.set_cons_zero, List.set_cons_succ])
        refine wpAnyH_take (i := 2) (oi := _) (v := .bool false) rfl (by kernel_rfl) (by kernel_rfl) (by kernel_rfl) (fun _ _ _ h => h) (Or.inl ⟨by kernel_rfl, ?_⟩) (by assumption) ?_
        · intro w hSw; (try dsimp only at hSw); go_simp
        (try simp only [Act.put, List.setIfInBounds_toArray, List.set_cons_zero, List.set_cons_succ])
        refine wpAnyH_take (i := 3) (oi := _) (v := .bool false) rfl (by kernel_rfl) (by kernel_rfl) (by kernel_rfl) (fun _ _ _ h => h) (Or.inl ⟨by kernel_rfl, ?_⟩) (by assumption) ?_
        · intro w hSw; (try dsimp only at hSw); go_simp
        (try simp only [Act.put, List.setIfInBounds_toArray, List.set_cons_zero, List.set_cons_succ])
        refine wpAnyH_take (i := 4) (oi := _) (v := (.pointer (some ⟨g, 0, none⟩))) rfl (by kernel_rfl) (by kernel_rfl) (by kernel_rfl) (fun _ _ _ h => h) (Or.inl ⟨by kernel_rfl, ?_⟩) (by assumption) ?_
        · intro w hSw; (try dsimp only at hSw); go_simp
        (try simp only [Act.put, List.setIfInBounds_toArray, List.set_cons_zero, List.set_cons_succ])
        refine wpAnyH_take (i := 5) (oi := _) (v := .pointer (some ⟨D, 2, none⟩)) rfl (by kernel_rfl) (by kernel_rfl) (by kernel_rfl) (fun _ _ _ h => h) (Or.inl ⟨by kernel_rfl, ?_⟩) (by assumption) ?_
        · intro w hSw; (try dsimp only at hSw); go_simp
        (try simp only [Act.put, List.setIfInBounds_toArray, List.set_cons_zero, List.set_cons_succ])
        refine wpAnyH_take (i := 6) (oi := _) (v := .string nm) rfl (by kernel_rfl) (by kernel_rfl) (by kernel_rfl) (fun _ _ _ h => h) (Or.inl ⟨by kernel_rfl, ?_⟩) (by assumption) ?_
        · intro w hSw; (try dsimp only at hSw); go_simp
        (try simp only [Act.put, List.setIfInBounds_toArray, List.set_cons_zero, List.set_cons_succ])
        refine wpAnyH_take (i := 7) (oi := _) (v := .string xnm) rfl (by kernel_rfl) (by kernel_rfl) (by kernel_rfl) (fun _ _ _ h => h) (Or.inl ⟨by kernel_rfl, ?_⟩) (by assumption) ?_
        · intro w hSw; (try dsimp only at hSw); go_simp
        (try simp only [Act.put, List.setIfInBounds_toArray, List.set_cons_zero, List.set_cons_succ])
        refine wpAnyH_take (i := 9) (oi := _) (v := (.pointer (some ⟨g', 0, none⟩))) rfl (by kernel_rfl) (by kernel_rfl) (by kernel_rfl) (fun _ _ _ h => h) (Or.inl ⟨by kernel_rfl, ?_⟩) (by assumption) ?_
        · intro w hSw; (try dsimp only at hSw); go_simp
        (try simp only [Act.put, List.setIfInBounds_toArray, List.set_cons_zero, List.set_cons_succ])
        refine wpAnyH_take (i := 10) (oi := _) (v := .pointer (some ⟨D, 2, none⟩)) rfl (by kernel_rfl) (by kernel_rfl) (by kernel_rfl) (fun _ _ _ h => h) (Or.inl ⟨by kernel_rfl, ?_⟩) (by assumption) ?_
        · intro w hSw; (try dsimp only at hSw); go_simp
        (try simp only [Act.put, List.setIfInBounds_toArray, List.set_cons_zero, List.set_cons_succ])
        refine wpAnyH_take (i := 11) (oi := _) (v := .string nm) rfl (by kernel_rfl) (by kernel_rfl) (by kernel_rfl) (fun _ _ _ h => h) (Or.inl ⟨by kernel_rfl, ?_⟩) (by assumption) ?_
        · intro w hSw; (try dsimp only at hSw); go_simp
        (try simp only [Act.put, List.setIfInBounds_toArray, List.set_cons_zero, List.set_cons_succ])
        refine wpAnyH_take (i := 12) (oi := _) (v := .string xnm) rfl (by kernel_rfl) (by kernel_rfl) (by kernel_rfl) (fun _ _ _ h => h) (Or.inl ⟨by kernel_rfl, ?_⟩) (by assumption) ?_
        · intro w hSw; (try dsimp only at hSw); go_simp
        (try simp only [Act.put, List.setIfInBounds_toArray, List.set_cons_zero, List.set_cons_succ])
        refine wpAnyH_ready (rs := [8]) (by kernel_rfl) (by simp) ?_
        refine AllReadyH.cons rfl (fun K hK => ?_) AllReadyH.nil
        go_simp
        go_wp2_with (go_at_call 15; refine (HQU1.out _ HB4.out).mono ?_; rintro e5 w5 ⟨v1, b1, rfl, q1⟩; have HQ1 := Lib.hid q1; have HB5 := Lib.hid (HB4.out.trans (q1.below.mono HB4.out.size)); clear q1)
        refine hK.out _ _ ((HB5.out.cell (p := ⟨D, 2, none⟩) HDL.out).trans i2) (fun hHeld => ?_)
        clear hK K
        (try simp only [Act.put, List.setIfInBounds_toArray, List.set_cons_zero, List.set_cons_succ])
        refine wpAnyH_ready (rs := [13]) (by kernel_rfl) (by simp) ?_
        refine AllReadyH.cons rfl (fun K hK => ?_) AllReadyH.nil
        go_simp
        go_wp2_with (go_at_call 15; refine (HQU2.out _ HB5.out).mono ?_; rintro e5 w6 ⟨v2, b2, rfl, q2⟩; have HB6 := Lib.hid (HB5.out.trans (q2.below.mono HB5.out.size)); have HNU := Lib.hid (numbers_same (slc_below HQ1.out.slc q2.below) q2.slc rfl); clear q2)
        refine hK.out _ _ ((HB6.out.cell (p := ⟨D, 2, none⟩) HDL.out).trans i2) (fun hHeld => ?_)
        clear hK K
        (try simp only [Act.put, List.setIfInBounds_toArray, List.set_cons_zero, List.set_cons_succ])
        refine wpAnyH_ready (rs := [14]) (by kernel_rfl) (by simp) ?_
        refine AllReadyH.cons rfl (fun K hK => ?_) AllReadyH.nil
        go_simp
        go_wp2_with (go_at_call 14; refine HNU.out.mono ?_; rintro e5 w7 ⟨rfl, hb7⟩; have HB7 := Lib.hid (HB6.out.trans (hb7.mono HB6.out.size)); clear hb7)
        refine hK.out _ _ ((HB7.out.cell (p := ⟨D, 2, none⟩) HDL.out).trans i2) (fun hHeld => ?_)
        clear hK K
        (try simp only [Act.put, List.setIfInBounds_toArray, List.set_cons_zero, List.set_cons_succ])
        refine wpAnyH_take (i := 15) (oi := _) (v := .bool false) rfl (by kernel_rfl) (by kernel_rfl) (by kernel_rfl) (fun _ _ _ h => h) (Or.inl ⟨by kernel_rfl, ?_⟩) (by assumption) ?_
        · intro w hSw; (try dsimp only at hSw); go_simp
        (try simp only [Act.put, List.setIfInBounds_toArray, List.set_cons_zero, List.set_cons_succ])
        refine wpAnyH_take (i := 16) (oi := _) (v := .bool false) rfl (by kernel_rfl) (by kernel_rfl) (by kernel_rfl) (fun _ _ _ h => h) (Or.inl ⟨by kernel_rfl, ?_⟩) (by assumption) ?_
        · intro w hSw; (try dsimp only at hSw); go_simp
        (try simp only [Act.put, List.setIfInBounds_toArray, List.set_cons_zero, List.set_cons_succ])
        refine wpAnyH_done (by kernel_rfl) ?_ _
        have j1 := (HB7.out.cell (p := ⟨D, 1, none⟩) HDL.out).trans i1
        go_wp2_with (first
          | (go_at_call 18; refine (HVI1.out _ HB7.out).mono ?_; rintro e8 w8 hv8; obtain ⟨G, bb, rfl⟩ := victim_form hv8; have HV8 := Lib.hid hv8; have HB8 := Lib.hid (HB7.out.trans (hv8.1.mono HB7.out.size)); have l1 := (HB8.out.cell (p := ⟨D, 1, none⟩) HDL.out).trans i1; clear hv8 HVI1)
          | (go_at_call 18; refine (HVI2.out _ HB8.out).mono ?_; rintro e9 w9 hv9; obtain ⟨G', bb', eq1, rfl⟩ := rel_victim HR2.out HEV.out HV8.out hv9; obtain ⟨rfl, rfl⟩ := victim_inj eq1; have HB9 := Lib.hid (HB8.out.trans (hv9.1.mono HB8.out.size)); clear hv9))
        go_roundw
        case rel => exact ⟨j + 1, S2, T1, by omega, by go_num, Lib.hid (two_mono (two_on HT4.out HB9.out) (fun _ h => h.elim) (by omega) (by omega)), HR2⟩
        case measure => simp [intOf]; omega
      · have c1' : W1.cell? ⟨D, 1, none⟩ = some (.int .u64 (e : Int)) := (cell_of_row _ _ 1 _ _ _ HC1.out).trans rfl
        have hb1 : Below W1.heap.size W1 W1.drew := Below.drew (Below.refl _ W1)
        have HFR := Lib.hid (two_free (two_on HT1.out hb1) hR.out.is (by have := HJ.out; omega) HET.out)
        clear hb1
        go_wp2_with fail
        rw [← HD1.out, ← HW1.out]
        clear c0 c1 c2 c3 he1 he2 he3 hcat
        refine wp_region_held_drew (S := fun w' : World => w'.cell? ⟨D, 1, none⟩ = some (.int .u64 (e : Int))) (by kernel_rfl) c1' (fun hHeld => ?_)
        refine wpAnyH_take (i := 0) (oi := _) (v := (.pointer (some ⟨g, 0, none⟩))) rfl (by kernel_rfl) (by kernel_rfl) (by kernel_rfl) (fun _ _ _ h => h) (Or.inl ⟨by kernel_rfl, ?_⟩) (by assumption) ?_
        · intro w hSw; (try dsimp only at hSw); go_simp
        (try simp only [Act.put, List.setIfInBounds_toArray, List.set_cons_zero, List.set_cons_succ])
        refine wpAnyH_take (i := 1) (oi := _) (v := .pointer (some ⟨D, 1, none⟩)) rfl (by kernel_rfl) (by kernel_rfl) (by kernel_rfl) (fun _ _ _ h => h) (Or.inl ⟨by kernel_rfl, ?_⟩) (by assumption) ?_
        · intro w hSw; (try dsimp only at hSw); go_simp
        (try simp only [Act.put, List.setIfInBounds_toArray, List.set_cons_zero, List.set_cons_succ])
        refine wpAnyH_take (i := 2) (oi := _) (v := .int .u64 (e : Int)) rfl (by kernel_rfl) (by kernel_rfl) (by kernel_rfl) (fun _ _ _ h => h) (Or.inl ⟨by kernel_rfl, ?_⟩) (by assumption) ?_
        · intro w hSw; (try dsimp only at hSw); go_simp
        (try simp only [Act.put, List.setIfInBounds_toArray, List.set_cons_zero, List.set_cons_succ])
        refine wpAnyH_take (i := 4) (oi := _) (v := (.pointer (some ⟨g', 0, none⟩))) rfl (by kernel_rfl) (by kernel_rfl) (by kernel_rfl) (fun _ _ _ h => h) (Or.inl ⟨by kernel_rfl, ?_⟩) (by assumption) ?_
        · intro w hSw; (try dsimp only at hSw); go_simp
        (try simp only [Act.put, List.setIfInBounds_toArray, List.set_cons_zero, List.set_cons_succ])
        refine wpAnyH_take (i := 5) (oi := _) (v := .pointer (some ⟨D, 1, none⟩)) rfl (by kernel_rfl) (by kernel_rfl) (by kernel_rfl) (fun _ _ _ h => h) (Or.inl ⟨by kernel_rfl, ?_⟩) (by assumption) ?_
        · intro w hSw; (try dsimp only at hSw); go_simp
        (try simp only [Act.put, List.setIfInBounds_toArray, List.set_cons_zero, List.set_cons_succ])
        refine wpAnyH_take (i := 6) (oi := _) (v := .int .u64 (e : Int)) rfl (by kernel_rfl) (by kernel_rfl) (by kernel_rfl) (fun _ _ _ h => h) (Or.inl ⟨by kernel_rfl, ?_⟩) (by assumption) ?_
        · intro w hSw; (try dsimp only at hSw); go_simp
        (try simp only [Act.put, List.setIfInBounds_toArray, List.set_cons_zero, List.set_cons_succ])
        refine wpAnyH_ready (rs := [3]) (by kernel_rfl) (by simp) ?_
        refine AllReadyH.cons rfl (fun K hK => ?_) AllReadyH.nil
        go_simp
        go_wp2_with (go_at_call 16; refine HFR.out.mono ?_; rintro e5 w2 ⟨ns, S', outs, v1, b1, rfl, n1, a1, s1, t1, -, k1⟩; have HC2 := Lib.hid (cells_kept HC1.out (k1 D rfl)); have HT2 := Lib.hid t1; have HN1 := Lib.hid n1; have HA1 := Lib.hid a1; have HS1 := Lib.hid s1; clear t1 n1 a1 s1 k1)
        refine hK.out _ _ ((cell_of_row _ _ 1 _ _ _ HC2.out).trans rfl) (fun hHeld => ?_)
        clear hK K
        (try simp only [Act.put, List.setIfInBounds_toArray, List.set_cons_zero, List.set_cons_succ])
        have HFU := Lib.hid (two_free HT2.out.symm hR.out.it (by have := HJ.out; omega) HET.out)
        refine wpAnyH_ready (rs := [7]) (by kernel_rfl) (by simp) ?_
        refine AllReadyH.cons rfl (fun K hK => ?_) AllReadyH.nil
        go_simp
        go_wp2_with (go_at_call 16; refine HFU.out.mono ?_; rintro e5 w3 ⟨ks, T', outs', v2, b2, rfl, n2, a2, s2, t2, z2, k2⟩; obtain ⟨eo, hr2⟩ := rel_free hR.out HEV.out HN1.out n2 HA1.out a2; subst eo; have HC3 := Lib.hid (cells_kept HC2.out (k2 D (.inl rfl))); have HT3 := Lib.hid t2; have HR4 := Lib.hid hr2; have HNU := Lib.hid (numbers_same (slc_kept HS1.out z2 (fun b e => k2 b (.inr e))) s2 rfl); clear n2 a2 s2 t2 k2 hr2)
        refine hK.out _ _ ((cell_of_row _ _ 1 _ _ _ HC3.out).trans rfl) (fun hHeld => ?_)
        clear hK K
        (try simp only [Act.put, List.setIfInBounds_toArray, List.set_cons_zero, List.set_cons_succ])
        refine wpAnyH_ready (rs := [8]) (by kernel_rfl) (by simp) ?_
        refine AllReadyH.cons rfl (fun K hK => ?_) AllReadyH.nil
        go_simp
        go_wp2_with (go_at_call 14; refine HNU.out.mono ?_; rintro e5 w4 ⟨rfl, hb4⟩; have HC4 := Lib.hid (cells_kept HC3.out (hb4.block D (cells_lt HC3.out))); have HT4 : Hid (Two W w4 g g' S' T' (2 * (j + 1)) (j + 1) Nl) := Lib.hid (two_mono (two_on HT3.out.symm hb4) (fun _ h => h.elim) (by omega) (by omega)); clear hb4)
        refine hK.out _ _ ((cell_of_row _ _ 1 _ _ _ HC4.out).trans rfl) (fun hHeld => ?_)
        clear hK K
        (try simp only [Act.put, List.setIfInBounds_toArray, List.set_cons_zero, List.set_cons_succ])
        refine wpAnyH_done (by kernel_rfl) ?_ _
        go_wp2_with fail
        go_roundw
        case rel => exact ⟨j + 1, S', T', by omega, by go_num, HT4, HR4⟩
        case measure => simp [intOf]; omega
    · have hjn : n = j := by omega
      subst hjn
      go_wp2
      go_ret
      exact ⟨rfl, hT.out.below⟩
end Go.Proofs.Ythanjncpgcmnaaa
