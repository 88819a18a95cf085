/- A lock is asked for, whatever the table: the count grows by one. -/
import Derived.Test.YthanjncpgcmnaaaLckMid
import Derived.Test.YthanjncpgcmnaaaLckWait
import Derived.Deep.RegionWith
import Derived.Deep.DrawnRows
import Derived.Deep.DeepCutAuto
namespace Go.Proofs.Ythanjncpgcmnaaa
open Go.ChangeShapes Go.WideShapes Go.ChangeAt Go.RowKit
attribute [local go_sem ↓] Go.wp_at_zero Go.wp_at_succ
/-- What a table holds where one waits at place i. -/
def linedAt (S : St) (o : Nat) (nm : ByteArray) (i m : Nat) : St := { S with queue := upd S.queue nm (mid (S.queue nm) i o m), waits := upd S.waits o (nm, m) }
def Queued1 (W : World) (g : Nat) (S : St) (x : Gh) (M N : Nat) (nm : ByteArray) (q : List (Nat × Nat)) (w' : World) : Prop := ∃ x', Tab w' g { S with queue := upd S.queue nm q } x' M ∧ Steps W w' x x' ∧ Owners w' x'.who x'.om S.held S.waits x'.ow N
structure Ins1 (W : World) (g : Nat) (S : St) (x : Gh) (M N : Nat) (nm : ByteArray) (q : List (Nat × Nat)) (kb c9 : Nat) (old v : Value) (V : World) : Prop where
  c9 : V.cell? ⟨c9, 0, none⟩ = some (.pointer (some ⟨kb, 0, none⟩))
  k1 : V.cell? ⟨kb, 1, none⟩ = some old
  kf : V.frozen? ⟨kb, 1, none⟩ = false
  done : Queued1 W g S x M N nm q (V.setCell ⟨kb, 1, none⟩ v)
theorem owners_below {w w' : World} {who : Nat → Tag} {om : Nat} {held : Nat → ByteArray → Nat} {waits : Nat → ByteArray × Nat} {ow : Nat → Option OwG} {N : Nat} (H : Owners w who om held waits ow N) (hb : Below w.heap.size w w') (hlt : ∀ b, who b ≠ .out → b < w.heap.size) : Owners w' who om held waits ow N :=
  H.kept (Ext.refl _ _) (fun b h => hb.block b (hlt b (fun e => by rw [e] at h; cases h))) (Nat.le_refl _)
theorem ins_one {W : World} {g : Nat} {S : St} {x : Gh} {M N : Nat} (H : Tab W g S x M) (HO : Owners W x.who x.om S.held S.waits x.ow N) (hM : M < 8796093022207) {nm : ByteArray} {k : LkG} (hk : x.lk nm = some k) {c9 : Nat} (h9 : W.cell? ⟨c9, 0, none⟩ = some (.pointer (some ⟨k.b, 0, none⟩))) (ho9 : x.who c9 = .out)
    {n : Nat} (hn : (S.queue nm).length = n) {i : Nat} (hi : i ≤ n) {ni : Int} (hni : (i : Int) = ni) (hroom : k.cnt + n + 1 ≤ M) {o m : Nat} (ho : o < top) (hm : 1 ≤ m ∧ m ≤ 4) :
    ∀ V, Below W.heap.size W V → Cells V W.heap.size 74 #[.int .u64 (o : Int), .int .i64 (m : Int)] →
      Calls Try.prog 34 #[k.qv, .int .i64 ni, .slice (some ⟨W.heap.size, 0, none⟩) 1 1] V (fun e w' => ∃ a n' c, e = .returned (.slice a n' c) ∧ Ins1 W g S x M N nm (mid (S.queue nm) i o m) k.b c9 k.qv (.slice a n' c) w') := fun V hb hc => by
  subst hni
  have h := H.locks.each nm k hk
  have hs := slc_below h.slc hb
  rw [hn] at hs
  refine (insert_at hs hn hi (by omega) hc (fun e => Nat.lt_irrefl _ (slc_lt h.slc _ e))).mono ?_
  rintro e w' ⟨v, qb', rfl, h1, h2, h3⟩
  have hT : Turned (fun b => x.who b = .qb nm) W w' := (Turned.of_below hb).trans (h2.mono (E' := fun b => x.who b = .qb nm) (fun b e => h.tq b e)) (Grows.refl _ _)
  have hkb : x.who k.b ≠ .qb nm := by rw [h.tb]; simp
  have hkl := cells_kept h.cells (hT.block _ (cells_lt h.cells) hkb)
  obtain ⟨x', t1, t2, t3, -⟩ := set_queueN H (Nat.le_refl _) hk hT h1 (by
    rcases h3 with e | ⟨b, e, hb'⟩
    · exact .inl e
    · exact .inr (.inr ⟨b, e, Nat.le_trans hb.size hb'⟩)) (fun p hp => by
    rcases List.mem_append.1 hp with hp | hp
    · exact h.qs p (List.mem_of_mem_take hp)
    · rcases List.mem_cons.1 hp with hp | hp
      · subst hp; exact ⟨ho, hm⟩
      · exact h.qs p (List.mem_of_mem_drop hp)) (by rw [mid_len _ (by omega), hn]; omega)
  obtain ⟨ao', cap', rfl, -⟩ := slc_form h1
  refine ⟨_, _, _, rfl, cell_turned h9 hT (by rw [ho9]; simp), ?_, frozen_of_row _ _ _ _ _ hkl, x', t1, t2, ?_⟩
  · rw [cell_of_row _ _ _ _ _ _ hkl]; rfl
  · rw [t3, t2.om]
    refine HO.kept t2.ext (fun b hbo => ?_) (Nat.le_refl _)
    have hbl : b < W.heap.size := H.lt b (fun e => by rw [e] at hbo; cases hbo)
    rw [Below.heap_setCell _ _ _ _ (fun e => by rw [show b = k.b from e, h.tb] at hbo; cases hbo)]
    exact hT.block b hbl (fun e => by rw [e] at hbo; cases hbo)
section
variable {w : World} {g : Nat} {S : St} {x : Gh} {N : Nat} (H : Tab w g S x N)
include H
set_option maxRecDepth 100000 in
set_option maxHeartbeats 4000000 in
/-- One that holds nothing there, where others wait. -/
theorem ask_line1 (o : Nat) (nm : ByteArray) (m : Nat) (hN : N + 20 < 8796093022208) (ho : o < top) (h0 : o ≠ 0) (hn : nm.size ≤ maxLen) (hm : isM (m : Int) = true) (hw : (S.waits o).2 = 0) (hh : S.hold nm o = 0) (hW : 1 ≤ m ∧ m ≤ 4) (hq : S.queue nm ≠ []) :
    Calls Try.prog 13 #[.pointer (some ⟨g, 0, none⟩), .int .u64 (o : Int), .string nm, .int .i64 (m : Int)] w (Does w g (linedAt S o nm (S.queue nm).length m) x (N + 1) (.int .i64 10)) := by
  obtain ⟨c0, c1⟩ := tab_cells H
  have HM := Lib.hid isMode_any
  have qM := mapNil
  have HW := waiting_any H ho
  rw [hw, decide_eq_false (by simp)] at HW
  have HW' := Lib.hid HW
  have d : ((o : Int) == 0) = false := by simp; omega
  have HI := Lib.hid hm
  have HL := Lib.hid (lock_one H (by omega) hn)
  have HO := Lib.hid ho; have HH := Lib.hid hh; have HWW := Lib.hid hW; have HNM := Lib.hid hn; have HN := Lib.hid hN
  obtain ⟨n, hqn⟩ : ∃ n, n = (S.queue nm).length := ⟨_, rfl⟩
  rw [← hqn]
  have hn0 : n ≠ 0 := by rw [hqn]; simpa using hq
  have d2 : ((n : Int) == 0) = false := by simp; omega
  have HQN := Lib.hid hqn
  generalize hR : Does w g (linedAt S o nm n m) x (N + 1) (.int .i64 10) = R
  have HR := Lib.hid hR
  clear H c1 hm h0 HW hw ho hN hn hh hR hW hq hqn hn0
  go_enter Try.func13, Try.ntmps13
  go_wp2_with (first
    | (go_at_call 27; refine (HM.out _ _).mono ?_; rintro e w' ⟨rfl, rfl⟩; rw [HI.out])
    | (go_at_call 28; refine HW'.out.mono ?_; rintro e w' ⟨rfl, rfl⟩)
    | (go_at_call 29; refine HL.out.mono ?_; rintro e w1 ⟨k, x1, rfl, h1, hk1, hc1, hO1, s1⟩; have H1 := Lib.hid h1; have S1 := Lib.hid s1; have HC := Lib.hid hc1; have hb1 := below_alloc w1 (.cells #[.pointer (some ⟨k.b, 0, none⟩)] 63); have h2 := h1.below hb1; have HO2 := Lib.hid (owners_below hO1 hb1 h1.lt); obtain ⟨k0, k1⟩ := lk_cells (h2.locks.each nm k hk1); have hlo := look_hold_ok (h2.locks.each nm k hk1) HO.out; rw [HH.out, decide_eq_false (by simp)] at hlo; have hqv := slc_form (h2.locks.each nm k hk1).slc; rw [← HQN.out] at hqv HC; obtain ⟨ao, cap, hv, -⟩ := hqv; rw [hv] at k1; have HV := Lib.hid hv; clear hv; have H2' := Lib.hid h2; have HK := Lib.hid hk1; clear h1 s1 h2 hk1 hc1 hO1 hb1))
  have c9 := cell_of_row _ _ 0 _ _ _ (cells_new w1 63 #[.pointer (some ⟨k.b, 0, none⟩)])
  simp only [List.getElem?_toArray, List.getElem?_cons_zero] at c9
  have hs := size_alloc w1 (.cells #[.pointer (some ⟨k.b, 0, none⟩)] 63)
  have S2 : Hid (Steps w (w1.alloc (.cells #[.pointer (some ⟨k.b, 0, none⟩)] 63)) x x1) := Lib.hid (S1.out.trans (Steps.below _ (below_alloc _ _)))
  have H2 := H2'
  have HO3 := HO2
  clear H2' HO2
  generalize w1.alloc (.cells #[.pointer (some ⟨k.b, 0, none⟩)] 63) = W3 at *
  have hlt9 : w1.heap.size < W3.heap.size := by omega
  have kf : W3.frozen? ⟨k.b, 1, none⟩ = false := frozen_of_row _ _ _ _ _ (H2.out.locks.each nm k HK.out).cells
  have ho9 : x1.who w1.heap.size = .out := by
    cases hw : x1.who w1.heap.size with
    | out => rfl
    | _ => exact absurd (H1.out.lt _ (by rw [hw]; simp)) (Nat.lt_irrefl _)
  have HINS := Lib.hid (ins_one H2.out HO3.out (by have := HN.out; omega) HK.out c9 ho9 HQN.out.symm (i := n) (Nat.le_refl _) (ni := (n : Int)) rfl (by have := HC.out; omega) HO.out HWW.out)
  rw [HV.out] at HINS
  have hltk : k.b < W3.heap.size := cells_lt (H2.out.locks.each nm k HK.out).cells
  go_cut [] from 99 to 111 (fun wx => Hid (Queued1 W3 g S x1 (N + 1) N nm (mid (S.queue nm) n o m) wx))
  case first =>
    have HA9 : Hid ((W3.alloc (.cells #[.int .u64 (o : Int), .int .i64 (m : Int)] 74)).cell? ⟨w1.heap.size, 0, none⟩ = some (.pointer (some ⟨k.b, 0, none⟩))) := Lib.hid (((below_alloc W3 _).cell hlt9).trans c9)
    have kA : (W3.alloc (.cells #[.int .u64 (o : Int), .int .i64 (m : Int)] 74)).cell? ⟨k.b, 1, none⟩ = some (.slice ao n cap) := ((below_alloc W3 _).cell hltk).trans k1
    have HBW : Hid (Below W3.heap.size W3 (W3.alloc (.cells #[.int .u64 (o : Int), .int .i64 (m : Int)] 74)).drew) := Lib.hid (Below.drew (below_alloc W3 _))
    have HCC : Hid (Cells (W3.alloc (.cells #[.int .u64 (o : Int), .int .i64 (m : Int)] 74)).drew W3.heap.size 74 #[.int .u64 (o : Int), .int .i64 (m : Int)]) := Lib.hid (cells_drew (cells_new W3 74 _))
    have HNE : Hid (k.b ≠ w1.heap.size) := Lib.hid (fun e => by rw [← e, (H2.out.locks.each nm k HK.out).tb] at ho9; cases ho9)
    have HKF := Lib.hid kf
    clear HM HW' HI HL HO HH HWW HNM HN HR HQN HC HO3 H1 S2 d2 hs S1
    clear k0 hlo c0 qM d kf ho9 hlt9 hltk
    refine wp_region_held_drew (S := fun w' : World => w'.cell? ⟨w1.heap.size, 0, none⟩ = some (.pointer (some ⟨k.b, 0, none⟩))) (by kernel_rfl) c9 (fun hHeld => ?_)
    refine wpAnyH_take (i := 0) (oi := _) (v := .pointer (some ⟨k.b, 0, none⟩)) rfl (by kernel_rfl) (by kernel_rfl) (by kernel_rfl) (fun _ _ _ h => h) (Or.inl ⟨by rfl, ?_⟩) (by assumption) ?_
    · intro w hSw; (try dsimp only at hSw); go_simp
    (try simp only [Act.put, List.setIfInBounds_toArray])
    refine wpAnyH_take (i := 1) (oi := _) (v := .pointer (some ⟨k.b, 0, none⟩)) rfl (by kernel_rfl) (by kernel_rfl) (by kernel_rfl) (fun _ _ _ h => h) (Or.inl ⟨by rfl, ?_⟩) (by assumption) ?_
    · intro w hSw; (try dsimp only at hSw); go_simp
    (try simp only [Act.put])
    refine wpAnyH_take (i := 2) (oi := _) (v := .pointer (some ⟨k.b, 0, none⟩)) rfl (by kernel_rfl) (by kernel_rfl) (by kernel_rfl) (fun _ _ _ h => h) (Or.inl ⟨by rfl, ?_⟩) (by assumption) ?_
    · intro w hSw; (try dsimp only at hSw); go_simp
    (try simp only [Act.put])
    refine wpAnyH_take (i := 3) (oi := _) (v := .pointer (some ⟨k.b, 1, none⟩)) rfl (by kernel_rfl) (by kernel_rfl) (by kernel_rfl) (fun _ _ _ h => h) (Or.inl ⟨by rfl, ?_⟩) (by assumption) ?_
    · intro w hSw; (try dsimp only at hSw); go_simp
    (try simp only [Act.put])
    refine wpAnyH_take (i := 5) (oi := _) (v := .int .i64 (n : Int)) rfl (by kernel_rfl) (by kernel_rfl) (by kernel_rfl) (fun _ _ _ h => h) (Or.inl ⟨by rfl, ?_⟩) (by assumption) ?_
    · intro w hSw; (try dsimp only at hSw); go_simp
    (try simp only [Act.put])
    refine wpAnyH_take (i := 6) (oi := _) (v := .int .u64 (o : Int)) rfl (by kernel_rfl) (by kernel_rfl) (by kernel_rfl) (fun _ _ _ h => h) (Or.inl ⟨by rfl, ?_⟩) (by assumption) ?_
    · intro w hSw; (try dsimp only at hSw); go_simp
    (try simp only [Act.put])
    refine wpAnyH_take (i := 7) (oi := _) (v := .int .i64 (m : Int)) rfl (by kernel_rfl) (by kernel_rfl) (by kernel_rfl) (fun _ _ _ h => h) (Or.inl ⟨by rfl, ?_⟩) (by assumption) ?_
    · intro w hSw; (try dsimp only at hSw); go_simp
    (try simp only [Act.put])
    refine wpAnyH_take (i := 8) (oi := _) (v := .agg #[.int .u64 (o : Int), .int .i64 (m : Int)]) rfl (by kernel_rfl) (by kernel_rfl) (by kernel_rfl) (fun _ _ _ h => h) (Or.inl ⟨by rfl, ?_⟩) (by assumption) ?_
    · intro w hSw; (try dsimp only at hSw); go_simp
    (try simp only [Act.put])
    refine wpAnyH_ready (rs := [4, 9]) (by kernel_rfl) (by simp) ?_
    refine AllReadyH.cons rfl (fun K hK => ?_) (AllReadyH.cons rfl (fun K hK => ?_) AllReadyH.nil)
    · skip
      go_simp
      refine hK.out _ _ (hHeld) (fun hHeld => ?_)
      clear hK K
      (try simp only [Act.put, List.setIfInBounds_toArray, List.set_cons_zero, List.set_cons_succ])
      refine wpAnyH_ready (rs := [9]) (by kernel_rfl) (by simp) ?_
      refine AllReadyH.cons rfl (fun K hK => ?_) AllReadyH.nil
      go_simp
      refine hK.out _ _ (HA9.out) (fun hHeld => ?_)
      clear hK K
      (try simp only [Act.put, List.setIfInBounds_toArray, List.set_cons_zero, List.set_cons_succ])
      refine wpAnyH_ready (rs := [10]) (by kernel_rfl) (by simp) ?_
      refine AllReadyH.cons rfl (fun K hK => ?_) AllReadyH.nil
      go_simp
      go_wp2_with (go_at_call 34; refine (HINS.out _ HBW.out HCC.out).mono ?_; rintro e w5 ⟨va, vn, vc, rfl, h5⟩; have d9 := h5.c9; have d1 := h5.k1; have df := h5.kf; have H5 := Lib.hid h5.done; clear h5)
      refine hK.out _ _ (by assumption) (fun hHeld => ?_)
      clear hK K
      (try simp only [Act.put, List.setIfInBounds_toArray, List.set_cons_zero, List.set_cons_succ])
      refine wpAnyH_take (i := 11) (oi := _) (v := .pointer (some ⟨k.b, 0, none⟩)) rfl (by kernel_rfl) (by kernel_rfl) (by kernel_rfl) (fun _ _ _ h => h) (Or.inl ⟨by rfl, ?_⟩) (by assumption) ?_
      · intro w hSw; (try dsimp only at hSw); go_simp
      (try simp only [Act.put, List.setIfInBounds_toArray])
      refine wpAnyH_take (i := 12) (oi := _) (v := .pointer (some ⟨k.b, 1, none⟩)) rfl (by kernel_rfl) (by kernel_rfl) (by kernel_rfl) (fun _ _ _ h => h) (Or.inl ⟨by rfl, ?_⟩) (by assumption) ?_
      · intro w hSw; (try dsimp only at hSw); go_simp
      (try simp only [Act.put])
      refine wpAnyH_ready (rs := [13]) (by kernel_rfl) (by simp) ?_
      refine AllReadyH.cons rfl (fun K hK => ?_) AllReadyH.nil
      go_simp
      refine hK.out _ _ ((World.cell?_setCell_far _ ⟨k.b, 1, none⟩ _ _ HNE.out).trans d9) (fun hHeld => ?_)
      refine wpAnyH_done (by kernel_rfl) ?_ _
      (go_wp2_with fail; go_meet; exact H5)
    · skip
      go_simp
      refine hK.out _ _ (HA9.out) (fun hHeld => ?_)
      clear hK K
      (try simp only [Act.put, List.setIfInBounds_toArray, List.set_cons_zero, List.set_cons_succ])
      refine wpAnyH_ready (rs := [4]) (by kernel_rfl) (by simp) ?_
      refine AllReadyH.cons rfl (fun K hK => ?_) AllReadyH.nil
      go_simp
      refine hK.out _ _ (HA9.out) (fun hHeld => ?_)
      clear hK K
      (try simp only [Act.put, List.setIfInBounds_toArray, List.set_cons_zero, List.set_cons_succ])
      refine wpAnyH_ready (rs := [10]) (by kernel_rfl) (by simp) ?_
      refine AllReadyH.cons rfl (fun K hK => ?_) AllReadyH.nil
      go_simp
      go_wp2_with (go_at_call 34; refine (HINS.out _ HBW.out HCC.out).mono ?_; rintro e w5 ⟨va, vn, vc, rfl, h5⟩; have d9 := h5.c9; have d1 := h5.k1; have df := h5.kf; have H5 := Lib.hid h5.done; clear h5)
      refine hK.out _ _ (by assumption) (fun hHeld => ?_)
      clear hK K
      (try simp only [Act.put, List.setIfInBounds_toArray, List.set_cons_zero, List.set_cons_succ])
      refine wpAnyH_take (i := 11) (oi := _) (v := .pointer (some ⟨k.b, 0, none⟩)) rfl (by kernel_rfl) (by kernel_rfl) (by kernel_rfl) (fun _ _ _ h => h) (Or.inl ⟨by rfl, ?_⟩) (by assumption) ?_
      · intro w hSw; (try dsimp only at hSw); go_simp
      (try simp only [Act.put, List.setIfInBounds_toArray])
      refine wpAnyH_take (i := 12) (oi := _) (v := .pointer (some ⟨k.b, 1, none⟩)) rfl (by kernel_rfl) (by kernel_rfl) (by kernel_rfl) (fun _ _ _ h => h) (Or.inl ⟨by rfl, ?_⟩) (by assumption) ?_
      · intro w hSw; (try dsimp only at hSw); go_simp
      (try simp only [Act.put])
      refine wpAnyH_ready (rs := [13]) (by kernel_rfl) (by simp) ?_
      refine AllReadyH.cons rfl (fun K hK => ?_) AllReadyH.nil
      go_simp
      refine hK.out _ _ ((World.cell?_setCell_far _ ⟨k.b, 1, none⟩ _ _ HNE.out).trans d9) (fun hHeld => ?_)
      refine wpAnyH_done (by kernel_rfl) ?_ _
      (go_wp2_with fail; go_meet; exact H5)
  case rest =>
    obtain ⟨x5, h5, s5, o5⟩ := hcut.out
    have HOW := Lib.hid (owner_one h5 o5 (Nat.le_refl _) (by have := HN.out; omega) HO.out)
    have S5 := Lib.hid s5
    clear h5 s5 o5 hcut k0 k1 hlo c0 c9 kf
    go_wp2_with (go_at_call 35; refine HOW.out.mono ?_; rintro e w6 ⟨kk, x6, rfl, h6, hk6, hc6, -, s6⟩; obtain ⟨i0, i1, i2, jf⟩ := ow_cells (h6.owners.each o kk hk6); have H6 := Lib.hid h6; have HK6 := Lib.hid hk6; have HC6 := Lib.hid hc6; have S6 := Lib.hid s6; clear h6 hk6 hc6 s6)
    rw [← HR.out]
    obtain ⟨h7, s7⟩ := set_waits_one (o := o) (nm := nm) (m := m) H6.out HK6.out HC6.out HNM.out HWW.out.2
    exact ⟨_, rfl, h7, ((S2.out.trans S5.out).trans S6.out).trans s7⟩
set_option maxRecDepth 100000 in
set_option maxHeartbeats 4000000 in
/-- One that holds nothing there, where nobody waits. -/
theorem ask_new1 (o : Nat) (nm : ByteArray) (m : Nat) (hN : N + 20 < 8796093022208) (ho : o < top) (h0 : o ≠ 0) (hn : nm.size ≤ maxLen) (hm : isM (m : Int) = true) (hw : (S.waits o).2 = 0) (hh : S.hold nm o = 0) (hW : 1 ≤ m ∧ m ≤ 4) (hq : S.queue nm = []) (hL : ¬ Lets (S.hold nm) o m) :
    Calls Try.prog 13 #[.pointer (some ⟨g, 0, none⟩), .int .u64 (o : Int), .string nm, .int .i64 (m : Int)] w (Does w g (linedAt S o nm (S.queue nm).length m) x (N + 1) (.int .i64 10)) := by
  obtain ⟨c0, c1⟩ := tab_cells H
  have HM := Lib.hid isMode_any
  have qM := mapNil
  have HW := waiting_any H ho
  rw [hw, decide_eq_false (by simp)] at HW
  have HW' := Lib.hid HW
  have d : ((o : Int) == 0) = false := by simp; omega
  have HI := Lib.hid hm
  have HL := Lib.hid (lock_one H (by omega) hn)
  have HO := Lib.hid ho; have HH := Lib.hid hh; have HWW := Lib.hid hW; have HNM := Lib.hid hn; have HN := Lib.hid hN
  obtain ⟨n, hqn⟩ : ∃ n, n = (S.queue nm).length := ⟨_, rfl⟩
  rw [← hqn]
  have hn0 : n = 0 := by rw [hqn, hq]; rfl
  subst hn0
  have HQN := Lib.hid hqn
  have HLL := Lib.hid hL
  generalize hR : Does w g (linedAt S o nm 0 m) x (N + 1) (.int .i64 10) = R
  have HR := Lib.hid hR
  clear H c1 hm h0 HW hw ho hN hn hh hR hW hq hqn hL
  go_enter Try.func13, Try.ntmps13
  go_wp2_with (first
    | (go_at_call 27; refine (HM.out _ _).mono ?_; rintro e w' ⟨rfl, rfl⟩; rw [HI.out])
    | (go_at_call 28; refine HW'.out.mono ?_; rintro e w' ⟨rfl, rfl⟩)
    | (go_at_call 29; refine HL.out.mono ?_; rintro e w1 ⟨k, x1, rfl, h1, hk1, hc1, hO1, s1⟩; have H1 := Lib.hid h1; have S1 := Lib.hid s1; have HC := Lib.hid hc1; have hb1 := below_alloc w1 (.cells #[.pointer (some ⟨k.b, 0, none⟩)] 63); have h2 := h1.below hb1; have HO2 := Lib.hid (owners_below hO1 hb1 h1.lt); obtain ⟨k0', k1'⟩ := lk_cells (h2.locks.each nm k hk1); have hlo := look_hold_ok (h2.locks.each nm k hk1) HO.out; rw [HH.out, decide_eq_false (by simp)] at hlo; have hqv := slc_form (h2.locks.each nm k hk1).slc; rw [← HQN.out] at hqv HC; obtain ⟨ao, cap, hv, -⟩ := hqv; rw [hv] at k1'; have HV := Lib.hid hv; clear hv; have HLe := Lib.hid (lets_any h2 hk1 HO.out (m : Int)); have H2' := Lib.hid h2; have HK := Lib.hid hk1; clear h1 s1 h2 hk1 hc1 hO1 hb1)
    | (go_at_call 30; refine HLe.out.mono ?_; rintro e W3 ⟨r, rfl, hr, hb3⟩; obtain rfl : r = false := (by cases r; rfl; exact absurd (hr.1 rfl) HLL.out); have h3 := H2'.out.below hb3; obtain ⟨k0, k1⟩ := lk_cells (h3.locks.each nm k HK.out); rw [HV.out] at k1; have c9 : W3.cell? ⟨w1.heap.size, 0, none⟩ = some (.pointer (some ⟨k.b, 0, none⟩)) := ((hb3.cell (p := ⟨w1.heap.size, 0, none⟩) (by simp)).trans ((cell_of_row _ _ 0 _ _ _ (cells_new w1 63 #[.pointer (some ⟨k.b, 0, none⟩)])).trans rfl)); have hlt9 : w1.heap.size < W3.heap.size := (Nat.lt_of_lt_of_le (by rw [size_alloc]; exact Nat.lt_succ_self _) hb3.size); have H2 := Lib.hid h3; have HB3 := Lib.hid hb3; have HO3 := Lib.hid (owners_below HO2.out hb3 H2'.out.lt); clear hr hb3 h3 k0' k1' HO2))
  have S2 : Hid (Steps w W3 x x1) := Lib.hid ((S1.out.trans (Steps.below _ (below_alloc _ _))).trans (Steps.below _ HB3.out))
  have kf : W3.frozen? ⟨k.b, 1, none⟩ = false := frozen_of_row _ _ _ _ _ (H2.out.locks.each nm k HK.out).cells
  have ho9 : x1.who w1.heap.size = .out := by
    cases hw : x1.who w1.heap.size with
    | out => rfl
    | _ => exact absurd (H1.out.lt _ (by rw [hw]; simp)) (Nat.lt_irrefl _)
  have HINS := Lib.hid (ins_one H2.out HO3.out (by have := HN.out; omega) HK.out c9 ho9 HQN.out.symm (i := 0) (Nat.le_refl _) (ni := 0) rfl (by have := HC.out; omega) HO.out HWW.out)
  rw [HV.out] at HINS
  have hltk : k.b < W3.heap.size := cells_lt (H2.out.locks.each nm k HK.out).cells
  go_cut [] from 99 to 111 (fun wx => Hid (Queued1 W3 g S x1 (N + 1) N nm (mid (S.queue nm) 0 o m) wx))
  case first =>
    have HA9 : Hid ((W3.alloc (.cells #[.int .u64 (o : Int), .int .i64 (m : Int)] 74)).cell? ⟨w1.heap.size, 0, none⟩ = some (.pointer (some ⟨k.b, 0, none⟩))) := Lib.hid (((below_alloc W3 _).cell hlt9).trans c9)
    have kA : (W3.alloc (.cells #[.int .u64 (o : Int), .int .i64 (m : Int)] 74)).cell? ⟨k.b, 1, none⟩ = some (.slice ao 0 cap) := ((below_alloc W3 _).cell hltk).trans k1
    have HBW : Hid (Below W3.heap.size W3 (W3.alloc (.cells #[.int .u64 (o : Int), .int .i64 (m : Int)] 74)).drew) := Lib.hid (Below.drew (below_alloc W3 _))
    have HCC : Hid (Cells (W3.alloc (.cells #[.int .u64 (o : Int), .int .i64 (m : Int)] 74)).drew W3.heap.size 74 #[.int .u64 (o : Int), .int .i64 (m : Int)]) := Lib.hid (cells_drew (cells_new W3 74 _))
    have HNE : Hid (k.b ≠ w1.heap.size) := Lib.hid (fun e => by rw [← e, (H2.out.locks.each nm k HK.out).tb] at ho9; cases ho9)
    have HKF := Lib.hid kf
    clear HM HW' HI HL HO HH HWW HNM HN HR HQN HC HO3 H1 S2 HLL HLe HB3 H2' S1
    clear k0 hlo c0 qM d kf ho9 hlt9 hltk
    refine wp_region_held_drew (S := fun w' : World => w'.cell? ⟨w1.heap.size, 0, none⟩ = some (.pointer (some ⟨k.b, 0, none⟩))) (by kernel_rfl) c9 (fun hHeld => ?_)
    refine wpAnyH_take (i := 0) (oi := _) (v := .pointer (some ⟨k.b, 0, none⟩)) rfl (by kernel_rfl) (by kernel_rfl) (by kernel_rfl) (fun _ _ _ h => h) (Or.inl ⟨by rfl, ?_⟩) (by assumption) ?_
    · intro w hSw; (try dsimp only at hSw); go_simp
    (try simp only [Act.put, List.setIfInBounds_toArray])
    refine wpAnyH_take (i := 1) (oi := _) (v := .pointer (some ⟨k.b, 0, none⟩)) rfl (by kernel_rfl) (by kernel_rfl) (by kernel_rfl) (fun _ _ _ h => h) (Or.inl ⟨by rfl, ?_⟩) (by assumption) ?_
    · intro w hSw; (try dsimp only at hSw); go_simp
    (try simp only [Act.put])
    refine wpAnyH_take (i := 2) (oi := _) (v := .pointer (some ⟨k.b, 0, none⟩)) rfl (by kernel_rfl) (by kernel_rfl) (by kernel_rfl) (fun _ _ _ h => h) (Or.inl ⟨by rfl, ?_⟩) (by assumption) ?_
    · intro w hSw; (try dsimp only at hSw); go_simp
    (try simp only [Act.put])
    refine wpAnyH_take (i := 3) (oi := _) (v := .pointer (some ⟨k.b, 1, none⟩)) rfl (by kernel_rfl) (by kernel_rfl) (by kernel_rfl) (fun _ _ _ h => h) (Or.inl ⟨by rfl, ?_⟩) (by assumption) ?_
    · intro w hSw; (try dsimp only at hSw); go_simp
    (try simp only [Act.put])
    refine wpAnyH_take (i := 5) (oi := _) (v := .int .i64 0) rfl (by kernel_rfl) (by kernel_rfl) (by kernel_rfl) (fun _ _ _ h => h) (Or.inl ⟨by rfl, ?_⟩) (by assumption) ?_
    · intro w hSw; (try dsimp only at hSw); go_simp
    (try simp only [Act.put])
    refine wpAnyH_take (i := 6) (oi := _) (v := .int .u64 (o : Int)) rfl (by kernel_rfl) (by kernel_rfl) (by kernel_rfl) (fun _ _ _ h => h) (Or.inl ⟨by rfl, ?_⟩) (by assumption) ?_
    · intro w hSw; (try dsimp only at hSw); go_simp
    (try simp only [Act.put])
    refine wpAnyH_take (i := 7) (oi := _) (v := .int .i64 (m : Int)) rfl (by kernel_rfl) (by kernel_rfl) (by kernel_rfl) (fun _ _ _ h => h) (Or.inl ⟨by rfl, ?_⟩) (by assumption) ?_
    · intro w hSw; (try dsimp only at hSw); go_simp
    (try simp only [Act.put])
    refine wpAnyH_take (i := 8) (oi := _) (v := .agg #[.int .u64 (o : Int), .int .i64 (m : Int)]) rfl (by kernel_rfl) (by kernel_rfl) (by kernel_rfl) (fun _ _ _ h => h) (Or.inl ⟨by rfl, ?_⟩) (by assumption) ?_
    · intro w hSw; (try dsimp only at hSw); go_simp
    (try simp only [Act.put])
    refine wpAnyH_ready (rs := [4, 9]) (by kernel_rfl) (by simp) ?_
    refine AllReadyH.cons rfl (fun K hK => ?_) (AllReadyH.cons rfl (fun K hK => ?_) AllReadyH.nil)
    · skip
      go_simp
      refine hK.out _ _ (hHeld) (fun hHeld => ?_)
      clear hK K
      (try simp only [Act.put, List.setIfInBounds_toArray, List.set_cons_zero, List.set_cons_succ])
      refine wpAnyH_ready (rs := [9]) (by kernel_rfl) (by simp) ?_
      refine AllReadyH.cons rfl (fun K hK => ?_) AllReadyH.nil
      go_simp
      refine hK.out _ _ (HA9.out) (fun hHeld => ?_)
      clear hK K
      (try simp only [Act.put, List.setIfInBounds_toArray, List.set_cons_zero, List.set_cons_succ])
      refine wpAnyH_ready (rs := [10]) (by kernel_rfl) (by simp) ?_
      refine AllReadyH.cons rfl (fun K hK => ?_) AllReadyH.nil
      go_simp
      go_wp2_with (go_at_call 34; refine (HINS.out _ HBW.out HCC.out).mono ?_; rintro e w5 ⟨va, vn, vc, rfl, h5⟩; have d9 := h5.c9; have d1 := h5.k1; have df := h5.kf; have H5 := Lib.hid h5.done; clear h5)
      refine hK.out _ _ (by assumption) (fun hHeld => ?_)
      clear hK K
      (try simp only [Act.put, List.setIfInBounds_toArray, List.set_cons_zero, List.set_cons_succ])
      refine wpAnyH_take (i := 11) (oi := _) (v := .pointer (some ⟨k.b, 0, none⟩)) rfl (by kernel_rfl) (by kernel_rfl) (by kernel_rfl) (fun _ _ _ h => h) (Or.inl ⟨by rfl, ?_⟩) (by assumption) ?_
      · intro w hSw; (try dsimp only at hSw); go_simp
      (try simp only [Act.put, List.setIfInBounds_toArray])
      refine wpAnyH_take (i := 12) (oi := _) (v := .pointer (some ⟨k.b, 1, none⟩)) rfl (by kernel_rfl) (by kernel_rfl) (by kernel_rfl) (fun _ _ _ h => h) (Or.inl ⟨by rfl, ?_⟩) (by assumption) ?_
      · intro w hSw; (try dsimp only at hSw); go_simp
      (try simp only [Act.put])
      refine wpAnyH_ready (rs := [13]) (by kernel_rfl) (by simp) ?_
      refine AllReadyH.cons rfl (fun K hK => ?_) AllReadyH.nil
      go_simp
      refine hK.out _ _ ((World.cell?_setCell_far _ ⟨k.b, 1, none⟩ _ _ HNE.out).trans d9) (fun hHeld => ?_)
      refine wpAnyH_done (by kernel_rfl) ?_ _
      (go_wp2_with fail; go_meet; exact H5)
    · skip
      go_simp
      refine hK.out _ _ (HA9.out) (fun hHeld => ?_)
      clear hK K
      (try simp only [Act.put, List.setIfInBounds_toArray, List.set_cons_zero, List.set_cons_succ])
      refine wpAnyH_ready (rs := [4]) (by kernel_rfl) (by simp) ?_
      refine AllReadyH.cons rfl (fun K hK => ?_) AllReadyH.nil
      go_simp
      refine hK.out _ _ (HA9.out) (fun hHeld => ?_)
      clear hK K
      (try simp only [Act.put, List.setIfInBounds_toArray, List.set_cons_zero, List.set_cons_succ])
      refine wpAnyH_ready (rs := [10]) (by kernel_rfl) (by simp) ?_
      refine AllReadyH.cons rfl (fun K hK => ?_) AllReadyH.nil
      go_simp
      go_wp2_with (go_at_call 34; refine (HINS.out _ HBW.out HCC.out).mono ?_; rintro e w5 ⟨va, vn, vc, rfl, h5⟩; have d9 := h5.c9; have d1 := h5.k1; have df := h5.kf; have H5 := Lib.hid h5.done; clear h5)
      refine hK.out _ _ (by assumption) (fun hHeld => ?_)
      clear hK K
      (try simp only [Act.put, List.setIfInBounds_toArray, List.set_cons_zero, List.set_cons_succ])
      refine wpAnyH_take (i := 11) (oi := _) (v := .pointer (some ⟨k.b, 0, none⟩)) rfl (by kernel_rfl) (by kernel_rfl) (by kernel_rfl) (fun _ _ _ h => h) (Or.inl ⟨by rfl, ?_⟩) (by assumption) ?_
      · intro w hSw; (try dsimp only at hSw); go_simp
      (try simp only [Act.put, List.setIfInBounds_toArray])
      refine wpAnyH_take (i := 12) (oi := _) (v := .pointer (some ⟨k.b, 1, none⟩)) rfl (by kernel_rfl) (by kernel_rfl) (by kernel_rfl) (fun _ _ _ h => h) (Or.inl ⟨by rfl, ?_⟩) (by assumption) ?_
      · intro w hSw; (try dsimp only at hSw); go_simp
      (try simp only [Act.put])
      refine wpAnyH_ready (rs := [13]) (by kernel_rfl) (by simp) ?_
      refine AllReadyH.cons rfl (fun K hK => ?_) AllReadyH.nil
      go_simp
      refine hK.out _ _ ((World.cell?_setCell_far _ ⟨k.b, 1, none⟩ _ _ HNE.out).trans d9) (fun hHeld => ?_)
      refine wpAnyH_done (by kernel_rfl) ?_ _
      (go_wp2_with fail; go_meet; exact H5)
  case rest =>
    obtain ⟨x5, h5, s5, o5⟩ := hcut.out
    have HOW := Lib.hid (owner_one h5 o5 (Nat.le_refl _) (by have := HN.out; omega) HO.out)
    have S5 := Lib.hid s5
    clear h5 s5 o5 hcut k0 k1 hlo c0 c9 kf
    go_wp2_with (go_at_call 35; refine HOW.out.mono ?_; rintro e w6 ⟨kk, x6, rfl, h6, hk6, hc6, -, s6⟩; obtain ⟨i0, i1, i2, jf⟩ := ow_cells (h6.owners.each o kk hk6); have H6 := Lib.hid h6; have HK6 := Lib.hid hk6; have HC6 := Lib.hid hc6; have S6 := Lib.hid s6; clear h6 hk6 hc6 s6)
    rw [← HR.out]
    obtain ⟨h7, s7⟩ := set_waits_one (o := o) (nm := nm) (m := m) H6.out HK6.out HC6.out HNM.out HWW.out.2
    exact ⟨_, rfl, h7, ((S2.out.trans S5.out).trans S6.out).trans s7⟩
set_option maxRecDepth 100000 in
set_option maxHeartbeats 4000000 in
/-- One that wants more. -/
theorem ask_turn1 (o : Nat) (nm : ByteArray) (m : Nat) (W : Nat) (hN : N + 20 < 8796093022208) (ho : o < top) (h0 : o ≠ 0) (hn : nm.size ≤ maxLen) (hm : isM (m : Int) = true) (hw : (S.waits o).2 = 0) (hh : S.hold nm o ≠ 0) (hj : joi (S.hold nm o) m = (W : Int)) (hne : W ≠ S.hold nm o) (hW : 1 ≤ W ∧ W ≤ 4) (hL : ¬ Lets (S.hold nm) o W) :
    Calls Try.prog 13 #[.pointer (some ⟨g, 0, none⟩), .int .u64 (o : Int), .string nm, .int .i64 (m : Int)] w (Does w g (linedAt S o nm (fst0 (S.hold nm) (S.queue nm)) W) x (N + 1) (.int .i64 10)) := by
  obtain ⟨c0, c1⟩ := tab_cells H
  have HM := Lib.hid isMode_any
  have qM := mapNil
  have HW := waiting_any H ho
  rw [hw, decide_eq_false (by simp)] at HW
  have HW' := Lib.hid HW
  have d : ((o : Int) == 0) = false := by simp; omega
  have HI := Lib.hid hm
  have HL := Lib.hid (lock_one H (by omega) hn)
  have HO := Lib.hid ho; have HH := Lib.hid hh; have HWW := Lib.hid hW; have HNM := Lib.hid hn; have HN := Lib.hid hN
  obtain ⟨n, hqn⟩ : ∃ n, n = (S.queue nm).length := ⟨_, rfl⟩
  have HJ := Lib.hid joi_any
  have d2 : ((W : Int) == (S.hold nm o : Int)) = false := by simp; omega
  have HJJ := Lib.hid hj
  have HQN := Lib.hid hqn
  have HLL := Lib.hid hL
  generalize hR : Does w g (linedAt S o nm (fst0 (S.hold nm) (S.queue nm)) W) x (N + 1) (.int .i64 10) = R
  have HR := Lib.hid hR
  clear H c1 hm h0 HW hw ho hN hn hh hR hW hqn hL hj hne
  go_enter Try.func13, Try.ntmps13
  go_wp2_with (first
    | (go_at_call 27; refine (HM.out _ _).mono ?_; rintro e w' ⟨rfl, rfl⟩; rw [HI.out])
    | (go_at_call 28; refine HW'.out.mono ?_; rintro e w' ⟨rfl, rfl⟩)
    | (go_at_call 19; refine (HJ.out _ _ _).mono ?_; rintro e w' ⟨rfl, rfl⟩; rw [HJJ.out])
    | (go_at_call 29; refine HL.out.mono ?_; rintro e w1 ⟨k, x1, rfl, h1, hk1, hc1, hO1, s1⟩; have H1 := Lib.hid h1; have S1 := Lib.hid s1; have HC := Lib.hid hc1; have hb1 := below_alloc w1 (.cells #[.pointer (some ⟨k.b, 0, none⟩)] 63); have h2 := h1.below hb1; have HO2 := Lib.hid (owners_below hO1 hb1 h1.lt); obtain ⟨k0', k1'⟩ := lk_cells (h2.locks.each nm k hk1); have hlo := look_hold_ok (h2.locks.each nm k hk1) HO.out; rw [decide_eq_true HH.out] at hlo; have hqv := slc_form (h2.locks.each nm k hk1).slc; rw [← HQN.out] at hqv HC; obtain ⟨ao, cap, hv, -⟩ := hqv; rw [hv] at k1'; have HV := Lib.hid hv; clear hv; have HLe := Lib.hid (lets_any h2 hk1 HO.out (W : Int)); have H2' := Lib.hid h2; have HK := Lib.hid hk1; clear h1 s1 h2 hk1 hc1 hO1 hb1)
    | (go_at_call 30; refine HLe.out.mono ?_; rintro e W2 ⟨r, rfl, hr, hb3⟩; obtain rfl : r = false := (by cases r; rfl; exact absurd (hr.1 rfl) HLL.out); have h3 := H2'.out.below hb3; obtain ⟨k0, k1⟩ := lk_cells (h3.locks.each nm k HK.out); rw [HV.out] at k1; have c9 : W2.cell? ⟨w1.heap.size, 0, none⟩ = some (.pointer (some ⟨k.b, 0, none⟩)) := ((hb3.cell (p := ⟨w1.heap.size, 0, none⟩) (by simp)).trans ((cell_of_row _ _ 0 _ _ _ (cells_new w1 63 #[.pointer (some ⟨k.b, 0, none⟩)])).trans rfl)); have hlt9 : w1.heap.size < W2.heap.size := (Nat.lt_of_lt_of_le (by rw [size_alloc]; exact Nat.lt_succ_self _) hb3.size); have H2 := Lib.hid h3; have HB3 := Lib.hid hb3; have HIX := Lib.hid (index_more h3 HK.out c9 HV.out HQN.out.symm); have HO3 := Lib.hid (owners_below HO2.out hb3 H2'.out.lt); clear hr hb3 h3 k0' k1' HO2)
    | (go_at_call 32; refine HIX.out.mono ?_; rintro e W3 ⟨r9, rfl, hb4, hi4⟩; have h4 := H2.out.below hb4; have c9' := c9; have l9' := hlt9; clear c9 hlt9 k0 k1; have HO4 := Lib.hid (owners_below HO3.out hb4 H2.out.lt); clear HO3; have HB4 := Lib.hid hb4; have HI4 := Lib.hid hi4; clear hi4; have HO3 := HO4; clear HO4; have H5 := H2; clear H2; have H2 := Lib.hid h4; obtain ⟨k0, k1⟩ := lk_cells (h4.locks.each nm k HK.out); rw [HV.out] at k1; have hlt9 : w1.heap.size < W3.heap.size := Nat.lt_of_lt_of_le l9' hb4.size; have c9 : W3.cell? ⟨w1.heap.size, 0, none⟩ = some (.pointer (some ⟨k.b, 0, none⟩)) := (hb4.cell (p := ⟨w1.heap.size, 0, none⟩) l9').trans c9'; clear hb4 h4 c9' l9'))
  · have he4 : fst0 (S.hold nm) (S.queue nm) = n := by
      rcases HI4.out with ⟨e, _⟩ | ⟨_, e⟩
      · omega
      · exact e
    have S2 : Hid (Steps w W3 x x1) := Lib.hid (((S1.out.trans (Steps.below _ (below_alloc _ _))).trans (Steps.below _ HB3.out)).trans (Steps.below _ HB4.out))
    obtain ⟨i, hi⟩ : ∃ i, i = fst0 (S.hold nm) (S.queue nm) := ⟨_, rfl⟩
    rw [← hi] at HI4 HR he4
    clear hi
    subst he4
    clear HI4
    rw [show decide (r9 < 0) = true from decide_eq_true (by omega)]
    have kf : W3.frozen? ⟨k.b, 1, none⟩ = false := frozen_of_row _ _ _ _ _ (H2.out.locks.each nm k HK.out).cells
    have ho9 : x1.who w1.heap.size = .out := by
      cases hw : x1.who w1.heap.size with
      | out => rfl
      | _ => exact absurd (H1.out.lt _ (by rw [hw]; simp)) (Nat.lt_irrefl _)
    have HINS := Lib.hid (ins_one H2.out HO3.out (by have := HN.out; omega) HK.out c9 ho9 HQN.out.symm (i := i) (Nat.le_refl _) (ni := (i : Int)) rfl (by have := HC.out; omega) HO.out HWW.out)
    rw [HV.out] at HINS
    have hltk : k.b < W3.heap.size := cells_lt (H2.out.locks.each nm k HK.out).cells
    go_cut [] from 99 to 111 (fun wx => Hid (Queued1 W3 g S x1 (N + 1) N nm (mid (S.queue nm) i o W) wx))
    case first =>
      have HA9 : Hid ((W3.alloc (.cells #[.int .u64 (o : Int), .int .i64 (W : Int)] 74)).cell? ⟨w1.heap.size, 0, none⟩ = some (.pointer (some ⟨k.b, 0, none⟩))) := Lib.hid (((below_alloc W3 _).cell hlt9).trans c9)
      have kA : (W3.alloc (.cells #[.int .u64 (o : Int), .int .i64 (W : Int)] 74)).cell? ⟨k.b, 1, none⟩ = some (.slice ao i cap) := ((below_alloc W3 _).cell hltk).trans k1
      have HBW : Hid (Below W3.heap.size W3 (W3.alloc (.cells #[.int .u64 (o : Int), .int .i64 (W : Int)] 74)).drew) := Lib.hid (Below.drew (below_alloc W3 _))
      have HCC : Hid (Cells (W3.alloc (.cells #[.int .u64 (o : Int), .int .i64 (W : Int)] 74)).drew W3.heap.size 74 #[.int .u64 (o : Int), .int .i64 (W : Int)]) := Lib.hid (cells_drew (cells_new W3 74 _))
      have HNE : Hid (k.b ≠ w1.heap.size) := Lib.hid (fun e => by rw [← e, (H2.out.locks.each nm k HK.out).tb] at ho9; cases ho9)
      have HKF := Lib.hid kf
      clear HM HW' HI HL HO HH HWW HNM HN HR HQN HC HO3 H1 S2 HLL HLe HB3 H2' S1 HB4 HIX H5 HJ HJJ d2
      clear k0 hlo c0 qM d kf ho9 hlt9 hltk
      refine wp_region_held_drew (S := fun w' : World => w'.cell? ⟨w1.heap.size, 0, none⟩ = some (.pointer (some ⟨k.b, 0, none⟩))) (by kernel_rfl) c9 (fun hHeld => ?_)
      refine wpAnyH_take (i := 0) (oi := _) (v := .pointer (some ⟨k.b, 0, none⟩)) rfl (by kernel_rfl) (by kernel_rfl) (by kernel_rfl) (fun _ _ _ h => h) (Or.inl ⟨by rfl, ?_⟩) (by assumption) ?_
      · intro w hSw; (try dsimp only at hSw); go_simp
      (try simp only [Act.put, List.setIfInBounds_toArray])
      refine wpAnyH_take (i := 1) (oi := _) (v := .pointer (some ⟨k.b, 0, none⟩)) rfl (by kernel_rfl) (by kernel_rfl) (by kernel_rfl) (fun _ _ _ h => h) (Or.inl ⟨by rfl, ?_⟩) (by assumption) ?_
      · intro w hSw; (try dsimp only at hSw); go_simp
      (try simp only [Act.put])
      refine wpAnyH_take (i := 2) (oi := _) (v := .pointer (some ⟨k.b, 0, none⟩)) rfl (by kernel_rfl) (by kernel_rfl) (by kernel_rfl) (fun _ _ _ h => h) (Or.inl ⟨by rfl, ?_⟩) (by assumption) ?_
      · intro w hSw; (try dsimp only at hSw); go_simp
      (try simp only [Act.put])
      refine wpAnyH_take (i := 3) (oi := _) (v := .pointer (some ⟨k.b, 1, none⟩)) rfl (by kernel_rfl) (by kernel_rfl) (by kernel_rfl) (fun _ _ _ h => h) (Or.inl ⟨by rfl, ?_⟩) (by assumption) ?_
      · intro w hSw; (try dsimp only at hSw); go_simp
      (try simp only [Act.put])
      refine wpAnyH_take (i := 5) (oi := _) (v := .int .i64 (i : Int)) rfl (by kernel_rfl) (by kernel_rfl) (by kernel_rfl) (fun _ _ _ h => h) (Or.inl ⟨by rfl, ?_⟩) (by assumption) ?_
      · intro w hSw; (try dsimp only at hSw); go_simp
      (try simp only [Act.put])
      refine wpAnyH_take (i := 6) (oi := _) (v := .int .u64 (o : Int)) rfl (by kernel_rfl) (by kernel_rfl) (by kernel_rfl) (fun _ _ _ h => h) (Or.inl ⟨by rfl, ?_⟩) (by assumption) ?_
      · intro w hSw; (try dsimp only at hSw); go_simp
      (try simp only [Act.put])
      refine wpAnyH_take (i := 7) (oi := _) (v := .int .i64 (W : Int)) rfl (by kernel_rfl) (by kernel_rfl) (by kernel_rfl) (fun _ _ _ h => h) (Or.inl ⟨by rfl, ?_⟩) (by assumption) ?_
      · intro w hSw; (try dsimp only at hSw); go_simp
      (try simp only [Act.put])
      refine wpAnyH_take (i := 8) (oi := _) (v := .agg #[.int .u64 (o : Int), .int .i64 (W : Int)]) rfl (by kernel_rfl) (by kernel_rfl) (by kernel_rfl) (fun _ _ _ h => h) (Or.inl ⟨by rfl, ?_⟩) (by assumption) ?_
      · intro w hSw; (try dsimp only at hSw); go_simp
      (try simp only [Act.put])
      refine wpAnyH_ready (rs := [4, 9]) (by kernel_rfl) (by simp) ?_
      refine AllReadyH.cons rfl (fun K hK => ?_) (AllReadyH.cons rfl (fun K hK => ?_) AllReadyH.nil)
      · skip
        go_simp
        refine hK.out _ _ (hHeld) (fun hHeld => ?_)
        clear hK K
        (try simp only [Act.put, List.setIfInBounds_toArray, List.set_cons_zero, List.set_cons_succ])
        refine wpAnyH_ready (rs := [9]) (by kernel_rfl) (by simp) ?_
        refine AllReadyH.cons rfl (fun K hK => ?_) AllReadyH.nil
        go_simp
        refine hK.out _ _ (HA9.out) (fun hHeld => ?_)
        clear hK K
        (try simp only [Act.put, List.setIfInBounds_toArray, List.set_cons_zero, List.set_cons_succ])
        refine wpAnyH_ready (rs := [10]) (by kernel_rfl) (by simp) ?_
        refine AllReadyH.cons rfl (fun K hK => ?_) AllReadyH.nil
        go_simp
        go_wp2_with (go_at_call 34; refine (HINS.out _ HBW.out HCC.out).mono ?_; rintro e w5 ⟨va, vn, vc, rfl, h5⟩; have d9 := h5.c9; have d1 := h5.k1; have df := h5.kf; have H5 := Lib.hid h5.done; clear h5)
        refine hK.out _ _ (by assumption) (fun hHeld => ?_)
        clear hK K
        (try simp only [Act.put, List.setIfInBounds_toArray, List.set_cons_zero, List.set_cons_succ])
        refine wpAnyH_take (i := 11) (oi := _) (v := .pointer (some ⟨k.b, 0, none⟩)) rfl (by kernel_rfl) (by kernel_rfl) (by kernel_rfl) (fun _ _ _ h => h) (Or.inl ⟨by rfl, ?_⟩) (by assumption) ?_
        · intro w hSw; (try dsimp only at hSw); go_simp
        (try simp only [Act.put, List.setIfInBounds_toArray])
        refine wpAnyH_take (i := 12) (oi := _) (v := .pointer (some ⟨k.b, 1, none⟩)) rfl (by kernel_rfl) (by kernel_rfl) (by kernel_rfl) (fun _ _ _ h => h) (Or.inl ⟨by rfl, ?_⟩) (by assumption) ?_
        · intro w hSw; (try dsimp only at hSw); go_simp
        (try simp only [Act.put])
        refine wpAnyH_ready (rs := [13]) (by kernel_rfl) (by simp) ?_
        refine AllReadyH.cons rfl (fun K hK => ?_) AllReadyH.nil
        go_simp
        refine hK.out _ _ ((World.cell?_setCell_far _ ⟨k.b, 1, none⟩ _ _ HNE.out).trans d9) (fun hHeld => ?_)
        refine wpAnyH_done (by kernel_rfl) ?_ _
        (go_wp2_with fail; go_meet; exact H5)
      · skip
        go_simp
        refine hK.out _ _ (HA9.out) (fun hHeld => ?_)
        clear hK K
        (try simp only [Act.put, List.setIfInBounds_toArray, List.set_cons_zero, List.set_cons_succ])
        refine wpAnyH_ready (rs := [4]) (by kernel_rfl) (by simp) ?_
        refine AllReadyH.cons rfl (fun K hK => ?_) AllReadyH.nil
        go_simp
        refine hK.out _ _ (HA9.out) (fun hHeld => ?_)
        clear hK K
        (try simp only [Act.put, List.setIfInBounds_toArray, List.set_cons_zero, List.set_cons_succ])
        refine wpAnyH_ready (rs := [10]) (by kernel_rfl) (by simp) ?_
        refine AllReadyH.cons rfl (fun K hK => ?_) AllReadyH.nil
        go_simp
        go_wp2_with (go_at_call 34; refine (HINS.out _ HBW.out HCC.out).mono ?_; rintro e w5 ⟨va, vn, vc, rfl, h5⟩; have d9 := h5.c9; have d1 := h5.k1; have df := h5.kf; have H5 := Lib.hid h5.done; clear h5)
        refine hK.out _ _ (by assumption) (fun hHeld => ?_)
        clear hK K
        (try simp only [Act.put, List.setIfInBounds_toArray, List.set_cons_zero, List.set_cons_succ])
        refine wpAnyH_take (i := 11) (oi := _) (v := .pointer (some ⟨k.b, 0, none⟩)) rfl (by kernel_rfl) (by kernel_rfl) (by kernel_rfl) (fun _ _ _ h => h) (Or.inl ⟨by rfl, ?_⟩) (by assumption) ?_
        · intro w hSw; (try dsimp only at hSw); go_simp
        (try simp only [Act.put, List.setIfInBounds_toArray])
        refine wpAnyH_take (i := 12) (oi := _) (v := .pointer (some ⟨k.b, 1, none⟩)) rfl (by kernel_rfl) (by kernel_rfl) (by kernel_rfl) (fun _ _ _ h => h) (Or.inl ⟨by rfl, ?_⟩) (by assumption) ?_
        · intro w hSw; (try dsimp only at hSw); go_simp
        (try simp only [Act.put])
        refine wpAnyH_ready (rs := [13]) (by kernel_rfl) (by simp) ?_
        refine AllReadyH.cons rfl (fun K hK => ?_) AllReadyH.nil
        go_simp
        refine hK.out _ _ ((World.cell?_setCell_far _ ⟨k.b, 1, none⟩ _ _ HNE.out).trans d9) (fun hHeld => ?_)
        refine wpAnyH_done (by kernel_rfl) ?_ _
        (go_wp2_with fail; go_meet; exact H5)
    case rest =>
      obtain ⟨x5, h5, s5, o5⟩ := hcut.out
      have HOW := Lib.hid (owner_one h5 o5 (Nat.le_refl _) (by have := HN.out; omega) HO.out)
      have S5 := Lib.hid s5
      clear h5 s5 o5 hcut k0 k1 hlo c0 c9 kf
      go_wp2_with (go_at_call 35; refine HOW.out.mono ?_; rintro e w6 ⟨kk, x6, rfl, h6, hk6, hc6, -, s6⟩; obtain ⟨i0, i1, i2, jf⟩ := ow_cells (h6.owners.each o kk hk6); have H6 := Lib.hid h6; have HK6 := Lib.hid hk6; have HC6 := Lib.hid hc6; have S6 := Lib.hid s6; clear h6 hk6 hc6 s6)
      rw [← HR.out]
      obtain ⟨h7, s7⟩ := set_waits_one (o := o) (nm := nm) (m := W) H6.out HK6.out HC6.out HNM.out HWW.out.2
      exact ⟨_, rfl, h7, ((S2.out.trans S5.out).trans S6.out).trans s7⟩
  · have he4 : r9 = (fst0 (S.hold nm) (S.queue nm) : Int) ∧ fst0 (S.hold nm) (S.queue nm) < n := by
      rcases HI4.out with e | ⟨e, _⟩
      · exact e
      · omega
    have S2 : Hid (Steps w W3 x x1) := Lib.hid (((S1.out.trans (Steps.below _ (below_alloc _ _))).trans (Steps.below _ HB3.out)).trans (Steps.below _ HB4.out))
    obtain ⟨i, hi⟩ : ∃ i, i = fst0 (S.hold nm) (S.queue nm) := ⟨_, rfl⟩
    rw [← hi] at HI4 HR he4
    clear hi
    obtain ⟨rfl, hlt4⟩ := he4
    have HL4 := Lib.hid hlt4
    clear HI4 hlt4
    have kf : W3.frozen? ⟨k.b, 1, none⟩ = false := frozen_of_row _ _ _ _ _ (H2.out.locks.each nm k HK.out).cells
    have ho9 : x1.who w1.heap.size = .out := by
      cases hw : x1.who w1.heap.size with
      | out => rfl
      | _ => exact absurd (H1.out.lt _ (by rw [hw]; simp)) (Nat.lt_irrefl _)
    have HINS := Lib.hid (ins_one H2.out HO3.out (by have := HN.out; omega) HK.out c9 ho9 HQN.out.symm (i := i) (Nat.le_of_lt HL4.out) (ni := (i : Int)) rfl (by have := HC.out; omega) HO.out HWW.out)
    rw [HV.out] at HINS
    have hltk : k.b < W3.heap.size := cells_lt (H2.out.locks.each nm k HK.out).cells
    go_cut [] from 99 to 111 (fun wx => Hid (Queued1 W3 g S x1 (N + 1) N nm (mid (S.queue nm) i o W) wx))
    case first =>
      have HA9 : Hid ((W3.alloc (.cells #[.int .u64 (o : Int), .int .i64 (W : Int)] 74)).cell? ⟨w1.heap.size, 0, none⟩ = some (.pointer (some ⟨k.b, 0, none⟩))) := Lib.hid (((below_alloc W3 _).cell hlt9).trans c9)
      have kA : (W3.alloc (.cells #[.int .u64 (o : Int), .int .i64 (W : Int)] 74)).cell? ⟨k.b, 1, none⟩ = some (.slice ao n cap) := ((below_alloc W3 _).cell hltk).trans k1
      have HBW : Hid (Below W3.heap.size W3 (W3.alloc (.cells #[.int .u64 (o : Int), .int .i64 (W : Int)] 74)).drew) := Lib.hid (Below.drew (below_alloc W3 _))
      have HCC : Hid (Cells (W3.alloc (.cells #[.int .u64 (o : Int), .int .i64 (W : Int)] 74)).drew W3.heap.size 74 #[.int .u64 (o : Int), .int .i64 (W : Int)]) := Lib.hid (cells_drew (cells_new W3 74 _))
      have HNE : Hid (k.b ≠ w1.heap.size) := Lib.hid (fun e => by rw [← e, (H2.out.locks.each nm k HK.out).tb] at ho9; cases ho9)
      have HKF := Lib.hid kf
      clear HM HW' HI HL HO HH HWW HNM HN HR HQN HC HO3 H1 S2 HLL HLe HB3 H2' S1 HL4 HB4 HIX H5 HJ HJJ d2
      clear k0 hlo c0 qM d kf ho9 hlt9 hltk
      refine wp_region_held_drew (S := fun w' : World => w'.cell? ⟨w1.heap.size, 0, none⟩ = some (.pointer (some ⟨k.b, 0, none⟩))) (by kernel_rfl) c9 (fun hHeld => ?_)
      refine wpAnyH_take (i := 0) (oi := _) (v := .pointer (some ⟨k.b, 0, none⟩)) rfl (by kernel_rfl) (by kernel_rfl) (by kernel_rfl) (fun _ _ _ h => h) (Or.inl ⟨by rfl, ?_⟩) (by assumption) ?_
      · intro w hSw; (try dsimp only at hSw); go_simp
      (try simp only [Act.put, List.setIfInBounds_toArray])
      refine wpAnyH_take (i := 1) (oi := _) (v := .pointer (some ⟨k.b, 0, none⟩)) rfl (by kernel_rfl) (by kernel_rfl) (by kernel_rfl) (fun _ _ _ h => h) (Or.inl ⟨by rfl, ?_⟩) (by assumption) ?_
      · intro w hSw; (try dsimp only at hSw); go_simp
      (try simp only [Act.put])
      refine wpAnyH_take (i := 2) (oi := _) (v := .pointer (some ⟨k.b, 0, none⟩)) rfl (by kernel_rfl) (by kernel_rfl) (by kernel_rfl) (fun _ _ _ h => h) (Or.inl ⟨by rfl, ?_⟩) (by assumption) ?_
      · intro w hSw; (try dsimp only at hSw); go_simp
      (try simp only [Act.put])
      refine wpAnyH_take (i := 3) (oi := _) (v := .pointer (some ⟨k.b, 1, none⟩)) rfl (by kernel_rfl) (by kernel_rfl) (by kernel_rfl) (fun _ _ _ h => h) (Or.inl ⟨by rfl, ?_⟩) (by assumption) ?_
      · intro w hSw; (try dsimp only at hSw); go_simp
      (try simp only [Act.put])
      refine wpAnyH_take (i := 5) (oi := _) (v := .int .i64 (i : Int)) rfl (by kernel_rfl) (by kernel_rfl) (by kernel_rfl) (fun _ _ _ h => h) (Or.inl ⟨by rfl, ?_⟩) (by assumption) ?_
      · intro w hSw; (try dsimp only at hSw); go_simp
      (try simp only [Act.put])
      refine wpAnyH_take (i := 6) (oi := _) (v := .int .u64 (o : Int)) rfl (by kernel_rfl) (by kernel_rfl) (by kernel_rfl) (fun _ _ _ h => h) (Or.inl ⟨by rfl, ?_⟩) (by assumption) ?_
      · intro w hSw; (try dsimp only at hSw); go_simp
      (try simp only [Act.put])
      refine wpAnyH_take (i := 7) (oi := _) (v := .int .i64 (W : Int)) rfl (by kernel_rfl) (by kernel_rfl) (by kernel_rfl) (fun _ _ _ h => h) (Or.inl ⟨by rfl, ?_⟩) (by assumption) ?_
      · intro w hSw; (try dsimp only at hSw); go_simp
      (try simp only [Act.put])
      refine wpAnyH_take (i := 8) (oi := _) (v := .agg #[.int .u64 (o : Int), .int .i64 (W : Int)]) rfl (by kernel_rfl) (by kernel_rfl) (by kernel_rfl) (fun _ _ _ h => h) (Or.inl ⟨by rfl, ?_⟩) (by assumption) ?_
      · intro w hSw; (try dsimp only at hSw); go_simp
      (try simp only [Act.put])
      refine wpAnyH_ready (rs := [4, 9]) (by kernel_rfl) (by simp) ?_
      refine AllReadyH.cons rfl (fun K hK => ?_) (AllReadyH.cons rfl (fun K hK => ?_) AllReadyH.nil)
      · skip
        go_simp
        refine hK.out _ _ (hHeld) (fun hHeld => ?_)
        clear hK K
        (try simp only [Act.put, List.setIfInBounds_toArray, List.set_cons_zero, List.set_cons_succ])
        refine wpAnyH_ready (rs := [9]) (by kernel_rfl) (by simp) ?_
        refine AllReadyH.cons rfl (fun K hK => ?_) AllReadyH.nil
        go_simp
        refine hK.out _ _ (HA9.out) (fun hHeld => ?_)
        clear hK K
        (try simp only [Act.put, List.setIfInBounds_toArray, List.set_cons_zero, List.set_cons_succ])
        refine wpAnyH_ready (rs := [10]) (by kernel_rfl) (by simp) ?_
        refine AllReadyH.cons rfl (fun K hK => ?_) AllReadyH.nil
        go_simp
        go_wp2_with (go_at_call 34; refine (HINS.out _ HBW.out HCC.out).mono ?_; rintro e w5 ⟨va, vn, vc, rfl, h5⟩; have d9 := h5.c9; have d1 := h5.k1; have df := h5.kf; have H5 := Lib.hid h5.done; clear h5)
        refine hK.out _ _ (by assumption) (fun hHeld => ?_)
        clear hK K
        (try simp only [Act.put, List.setIfInBounds_toArray, List.set_cons_zero, List.set_cons_succ])
        refine wpAnyH_take (i := 11) (oi := _) (v := .pointer (some ⟨k.b, 0, none⟩)) rfl (by kernel_rfl) (by kernel_rfl) (by kernel_rfl) (fun _ _ _ h => h) (Or.inl ⟨by rfl, ?_⟩) (by assumption) ?_
        · intro w hSw; (try dsimp only at hSw); go_simp
        (try simp only [Act.put, List.setIfInBounds_toArray])
        refine wpAnyH_take (i := 12) (oi := _) (v := .pointer (some ⟨k.b, 1, none⟩)) rfl (by kernel_rfl) (by kernel_rfl) (by kernel_rfl) (fun _ _ _ h => h) (Or.inl ⟨by rfl, ?_⟩) (by assumption) ?_
        · intro w hSw; (try dsimp only at hSw); go_simp
        (try simp only [Act.put])
        refine wpAnyH_ready (rs := [13]) (by kernel_rfl) (by simp) ?_
        refine AllReadyH.cons rfl (fun K hK => ?_) AllReadyH.nil
        go_simp
        refine hK.out _ _ ((World.cell?_setCell_far _ ⟨k.b, 1, none⟩ _ _ HNE.out).trans d9) (fun hHeld => ?_)
        refine wpAnyH_done (by kernel_rfl) ?_ _
        (go_wp2_with fail; go_meet; exact H5)
      · skip
        go_simp
        refine hK.out _ _ (HA9.out) (fun hHeld => ?_)
        clear hK K
        (try simp only [Act.put, List.setIfInBounds_toArray, List.set_cons_zero, List.set_cons_succ])
        refine wpAnyH_ready (rs := [4]) (by kernel_rfl) (by simp) ?_
        refine AllReadyH.cons rfl (fun K hK => ?_) AllReadyH.nil
        go_simp
        refine hK.out _ _ (HA9.out) (fun hHeld => ?_)
        clear hK K
        (try simp only [Act.put, List.setIfInBounds_toArray, List.set_cons_zero, List.set_cons_succ])
        refine wpAnyH_ready (rs := [10]) (by kernel_rfl) (by simp) ?_
        refine AllReadyH.cons rfl (fun K hK => ?_) AllReadyH.nil
        go_simp
        go_wp2_with (go_at_call 34; refine (HINS.out _ HBW.out HCC.out).mono ?_; rintro e w5 ⟨va, vn, vc, rfl, h5⟩; have d9 := h5.c9; have d1 := h5.k1; have df := h5.kf; have H5 := Lib.hid h5.done; clear h5)
        refine hK.out _ _ (by assumption) (fun hHeld => ?_)
        clear hK K
        (try simp only [Act.put, List.setIfInBounds_toArray, List.set_cons_zero, List.set_cons_succ])
        refine wpAnyH_take (i := 11) (oi := _) (v := .pointer (some ⟨k.b, 0, none⟩)) rfl (by kernel_rfl) (by kernel_rfl) (by kernel_rfl) (fun _ _ _ h => h) (Or.inl ⟨by rfl, ?_⟩) (by assumption) ?_
        · intro w hSw; (try dsimp only at hSw); go_simp
        (try simp only [Act.put, List.setIfInBounds_toArray])
        refine wpAnyH_take (i := 12) (oi := _) (v := .pointer (some ⟨k.b, 1, none⟩)) rfl (by kernel_rfl) (by kernel_rfl) (by kernel_rfl) (fun _ _ _ h => h) (Or.inl ⟨by rfl, ?_⟩) (by assumption) ?_
        · intro w hSw; (try dsimp only at hSw); go_simp
        (try simp only [Act.put])
        refine wpAnyH_ready (rs := [13]) (by kernel_rfl) (by simp) ?_
        refine AllReadyH.cons rfl (fun K hK => ?_) AllReadyH.nil
        go_simp
        refine hK.out _ _ ((World.cell?_setCell_far _ ⟨k.b, 1, none⟩ _ _ HNE.out).trans d9) (fun hHeld => ?_)
        refine wpAnyH_done (by kernel_rfl) ?_ _
        (go_wp2_with fail; go_meet; exact H5)
    case rest =>
      obtain ⟨x5, h5, s5, o5⟩ := hcut.out
      have HOW := Lib.hid (owner_one h5 o5 (Nat.le_refl _) (by have := HN.out; omega) HO.out)
      have S5 := Lib.hid s5
      clear h5 s5 o5 hcut k0 k1 hlo c0 c9 kf
      go_wp2_with (go_at_call 35; refine HOW.out.mono ?_; rintro e w6 ⟨kk, x6, rfl, h6, hk6, hc6, -, s6⟩; obtain ⟨i0, i1, i2, jf⟩ := ow_cells (h6.owners.each o kk hk6); have H6 := Lib.hid h6; have HK6 := Lib.hid hk6; have HC6 := Lib.hid hc6; have S6 := Lib.hid s6; clear h6 hk6 hc6 s6)
      rw [← HR.out]
      obtain ⟨h7, s7⟩ := set_waits_one (o := o) (nm := nm) (m := W) H6.out HK6.out HC6.out HNM.out HWW.out.2
      exact ⟨_, rfl, h7, ((S2.out.trans S5.out).trans S6.out).trans s7⟩
set_option maxRecDepth 100000 in
set_option maxHeartbeats 2000000 in
theorem ask_more1 (o : Nat) (nm : ByteArray) (m W : Nat) (hN : N + 20 < 8796093022208) (ho : o < top) (h0 : o ≠ 0) (hn : nm.size ≤ maxLen) (hm : isM (m : Int) = true) (hw : (S.waits o).2 = 0) (hh : S.hold nm o ≠ 0) (hj : joi (S.hold nm o) m = (W : Int)) (hW : 1 ≤ W ∧ W ≤ 4) (hne : W ≠ S.hold nm o) (hL : Lets (S.hold nm) o W) :
    Calls Try.prog 13 #[.pointer (some ⟨g, 0, none⟩), .int .u64 (o : Int), .string nm, .int .i64 (m : Int)] w (Does w g (granted S o nm W) x (N + 1) (.int .i64 0)) := by
  obtain ⟨c0, c1⟩ := tab_cells H
  have HM := Lib.hid isMode_any
  have qM := mapNil
  have HJ := Lib.hid joi_any
  have HW := waiting_any H ho
  rw [hw, decide_eq_false (by simp)] at HW
  have HW' := Lib.hid HW
  have d : ((o : Int) == 0) = false := by simp; omega
  have d2 : ((W : Int) == (S.hold nm o : Int)) = false := by simp; omega
  have HI := Lib.hid hm
  have HL := Lib.hid (lock_one H (by omega) hn)
  have HO := Lib.hid ho; have HH := Lib.hid hh; have HJJ := Lib.hid hj; have HWW := Lib.hid hW; have HLL := Lib.hid hL; have HNM := Lib.hid hn; have HN := Lib.hid hN
  generalize hR : Does w g (granted S o nm W) x (N + 1) (.int .i64 0) = R
  have HR := Lib.hid hR
  clear H c1 hm h0 HW hw ho hN hn hh hj hR hL hW hne
  go_enter Try.func13, Try.ntmps13
  go_wp2_with (first
    | (go_at_call 27; refine (HM.out _ _).mono ?_; rintro e w' ⟨rfl, rfl⟩; rw [HI.out])
    | (go_at_call 28; refine HW'.out.mono ?_; rintro e w' ⟨rfl, rfl⟩)
    | (go_at_call 19; refine (HJ.out _ _ _).mono ?_; rintro e w' ⟨rfl, rfl⟩; rw [HJJ.out])
    | (go_at_call 29; refine HL.out.mono ?_; rintro e w1 ⟨k, x1, rfl, h1, hk1, hc1, hO1, s1⟩; have H1 := Lib.hid h1; have S1 := Lib.hid s1; have HC := Lib.hid hc1; have HO2 := Lib.hid (owners_below hO1 (below_alloc w1 (.cells #[.pointer (some ⟨k.b, 0, none⟩)] 63)) h1.lt); have h2 := h1.below (below_alloc w1 (.cells #[.pointer (some ⟨k.b, 0, none⟩)] 63)); obtain ⟨k0, k1⟩ := lk_cells (h2.locks.each nm k hk1); have hlo := look_hold_ok (h2.locks.each nm k hk1) HO.out; rw [decide_eq_true HH.out] at hlo; have HLe := Lib.hid (lets_any h2 hk1 HO.out (W : Int)); have H2 := Lib.hid h2; have HK := Lib.hid hk1; clear h1 s1 h2 hk1 hc1 hO1)
    | (go_at_call 30; refine HLe.out.mono ?_; rintro e w3 ⟨r, rfl, hr, hb3⟩; obtain rfl : r = true := hr.2 HLL.out; have HG := Lib.hid (grant_one (H2.out.below hb3) (owners_below HO2.out hb3 H2.out.lt) (Nat.le_refl _) (by have := HN.out; omega) HNM.out HK.out (by have := HC.out; omega) HO.out HWW.out); have HB3 := Lib.hid hb3; clear hr hb3)
    | (go_at_call 31; refine HG.out.mono ?_; rintro e w4 ⟨x4, rfl, h4, s4⟩; have H4 := Lib.hid h4; have S4 := Lib.hid s4; clear h4 s4))
  rw [← HR.out]
  exact ⟨_, rfl, H4.out, ((S1.out.trans (Steps.below _ (below_alloc _ _))).trans (Steps.below _ HB3.out)).trans S4.out⟩
set_option maxRecDepth 100000 in
set_option maxHeartbeats 2000000 in
theorem ask_first1 (o : Nat) (nm : ByteArray) (m : Nat) (hN : N + 20 < 8796093022208) (ho : o < top) (h0 : o ≠ 0) (hn : nm.size ≤ maxLen) (hm : isM (m : Int) = true) (hw : (S.waits o).2 = 0) (hh : S.hold nm o = 0) (hq : S.queue nm = []) (hW : 1 ≤ m ∧ m ≤ 4) (hL : Lets (S.hold nm) o m) :
    Calls Try.prog 13 #[.pointer (some ⟨g, 0, none⟩), .int .u64 (o : Int), .string nm, .int .i64 (m : Int)] w (Does w g (granted S o nm m) x (N + 1) (.int .i64 0)) := by
  obtain ⟨c0, c1⟩ := tab_cells H
  have HM := Lib.hid isMode_any
  have qM := mapNil
  have HW := waiting_any H ho
  rw [hw, decide_eq_false (by simp)] at HW
  have HW' := Lib.hid HW
  have d : ((o : Int) == 0) = false := by simp; omega
  have HI := Lib.hid hm
  have HL := Lib.hid (lock_one H (by omega) hn)
  have HO := Lib.hid ho; have HH := Lib.hid hh; have HWW := Lib.hid hW; have HLL := Lib.hid hL; have HNM := Lib.hid hn; have HN := Lib.hid hN; have HQ := Lib.hid hq
  generalize hR : Does w g (granted S o nm m) x (N + 1) (.int .i64 0) = R
  have HR := Lib.hid hR
  clear H c1 hm h0 HW hw ho hN hn hh hR hL hW hq
  go_enter Try.func13, Try.ntmps13
  go_wp2_with (first
    | (go_at_call 27; refine (HM.out _ _).mono ?_; rintro e w' ⟨rfl, rfl⟩; rw [HI.out])
    | (go_at_call 28; refine HW'.out.mono ?_; rintro e w' ⟨rfl, rfl⟩)
    | (go_at_call 29; refine HL.out.mono ?_; rintro e w1 ⟨k, x1, rfl, h1, hk1, hc1, hO1, s1⟩; have H1 := Lib.hid h1; have S1 := Lib.hid s1; have HC := Lib.hid hc1; have HO2 := Lib.hid (owners_below hO1 (below_alloc w1 (.cells #[.pointer (some ⟨k.b, 0, none⟩)] 63)) h1.lt); have h2 := h1.below (below_alloc w1 (.cells #[.pointer (some ⟨k.b, 0, none⟩)] 63)); obtain ⟨k0, k1⟩ := lk_cells (h2.locks.each nm k hk1); have hlo := look_hold_ok (h2.locks.each nm k hk1) HO.out; rw [HH.out, decide_eq_false (by simp)] at hlo; have hqv := slc_form (h2.locks.each nm k hk1).slc; rw [HQ.out] at hqv; obtain ⟨ao, cap, hv, -⟩ := hqv; rw [hv] at k1; simp only [List.length_nil] at k1; clear hv; have HLe := Lib.hid (lets_any h2 hk1 HO.out (m : Int)); have H2 := Lib.hid h2; have HK := Lib.hid hk1; clear h1 s1 h2 hk1 hc1 hO1)
    | (go_at_call 30; refine HLe.out.mono ?_; rintro e w3 ⟨r, rfl, hr, hb3⟩; obtain rfl : r = true := hr.2 HLL.out; have HG := Lib.hid (grant_one (H2.out.below hb3) (owners_below HO2.out hb3 H2.out.lt) (Nat.le_refl _) (by have := HN.out; omega) HNM.out HK.out (by have := HC.out; omega) HO.out HWW.out); have HB3 := Lib.hid hb3; clear hr hb3)
    | (go_at_call 31; refine HG.out.mono ?_; rintro e w4 ⟨x4, rfl, h4, s4⟩; have H4 := Lib.hid h4; have S4 := Lib.hid s4; clear h4 s4))
  rw [← HR.out]
  exact ⟨_, rfl, H4.out, ((S1.out.trans (Steps.below _ (below_alloc _ _))).trans (Steps.below _ HB3.out)).trans S4.out⟩
end
end Go.Proofs.Ythanjncpgcmnaaa
