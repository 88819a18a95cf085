/- LockKnown: the walk. -/
import Derived.Test.YthanjncpgcmnaaaLckKnA
namespace Go.Proofs.Ythanjncpgcmnaaa
open Go.ChangeShapes Go.WideShapes Go.ChangeAt Go.RowKit

abbrev NoA : Nat → Prop := fun _ => False
theorem slc_two {w : World} {c : Nat} {a b : Value} {t : TypeId} (h : Cells w c t #[a, b]) (h1 : a.oneCell' = true) (h2 : b.oneCell' = true) : Slc w (some c) 1 (.slice (some ⟨c, 0, none⟩) 2 2) 2 [a, b] :=
  ⟨rfl, fun u hu => by simp at hu; rcases hu with rfl | rfl <;> assumption, .inr ⟨c, 0, 2, rfl, rfl, cells_lt h, Nat.le_refl _, by unfold maxLen; omega, fun j u hu => by
    match j, hu with
    | 0, hu => cases hu; rw [cell_of_row _ _ _ _ _ _ h]; rfl
    | 1, hu => cases hu; rw [cell_of_row _ _ _ _ _ _ h]; rfl, fun j hj => by
    match j, hj with
    | 0, _ => exact ⟨by rw [cell_of_row _ _ _ _ _ _ h]; rfl, frozen_of_row _ _ _ _ _ h⟩
    | 1, _ => exact ⟨by rw [cell_of_row _ _ _ _ _ _ h]; rfl, frozen_of_row _ _ _ _ _ h⟩⟩⟩
theorem queue_live {w0 w : World} {g : Nat} {S : St} {N : Nat} {A : Nat → Prop} (L : Live w0 w g S N A) (hN : N < 1099511627776) {nm : ByteArray} (hn : nm.size ≤ maxLen) :
    Calls Try.prog 15 #[.pointer (some ⟨g, 0, none⟩), .string nm] w fun e w' => ∃ v bo, e = .returned v ∧ Slc w' bo 1 v ((S.queue nm).map (·.1)).length (u64s ((S.queue nm).map (·.1))) ∧ Live w0 w' g S N A := by
  have L' := L
  obtain ⟨⟨x, t, _, _⟩, _, _⟩ := L
  refine (queue_any t hN hn).mono ?_
  rintro e w' ⟨v, bo, rfl, hq⟩
  exact ⟨v, bo, rfl, hq.slc, live_on L' hq.below⟩
theorem held_live {w0 w : World} {g : Nat} {S : St} {N : Nat} {A : Nat → Prop} (L : Live w0 w g S N A) (hN : N < 1099511627776) (h1 : S.held 1 nA = 4) (h2 : ∀ n, S.held 1 n ≠ 0 ↔ n = nA) :
    Calls Try.prog 17 #[.pointer (some ⟨g, 0, none⟩), .int .u64 1] w fun e w' => ∃ b off cap, e = .returned (.slice (some ⟨b, off, none⟩) 1 cap) ∧ w'.cell? ⟨b, off, none⟩ = some (.string { data := #[97] }) ∧ w'.cell? ⟨b, off + 1, none⟩ = some (.int .i64 4) ∧ Live w0 w' g S N A := by
  have L' := L
  obtain ⟨⟨x, t, _, _⟩, _, _⟩ := L
  refine (held_any t hN (o := 1) (by decide)).mono ?_
  rintro e w' ⟨v, bo, ns, rfl, hns, hslc, hb, _⟩
  obtain rfl : ns = [nA] := names_only hns h2
  have hg : gcells (S.held 1) [nA] = [.string nA, .int .i64 4] := by simp [gcells, h1]
  rw [hg] at hslc
  obtain ⟨_, _, ⟨_, _, hz⟩ | ⟨b, off, cap, _, rfl, _, _, _, hx, _⟩⟩ := hslc
  · cases hz
  · exact ⟨b, off, cap, rfl, hx 0 _ rfl, hx 1 _ rfl, live_on L' hb⟩
theorem lk_there {w : World} {g : Nat} {S : St} {x : Gh} {N : Nat} (H : Tab w g S x N) {n : ByteArray} (h : S.queue n ≠ []) : ∃ k, x.lk n = some k := by
  cases e : x.lk n with
  | some k => exact ⟨k, rfl⟩
  | none => exact absurd (H.locks.none n e).2 h
theorem victim3 {w0 w : World} {g : Nat} {N : Nat} {A : Nat → Prop} (L : Live w0 w g U3 N A) (hN : N ≤ 1000) :
    Calls Try.prog 18 #[.pointer (some ⟨g, 0, none⟩), .int .u64 2] w fun e w' => e = .returned (.tuple #[.int .u64 0, .bool false]) ∧ Live w0 w' g U3 N A := by
  have L' := L
  obtain ⟨⟨x, t, _, _⟩, _, _⟩ := L
  refine (victim_any t hN (id := 2) (by decide) (U := [1, 2]) (fun a u h => by rw [((U3_edge a u).1 h).2]; simp) (by decide) (fun o ho => ?_)).mono ?_
  · rw [U3_waits] at ho ⊢
    by_cases e : o = 2
    · subst e
      exact lk_there t (by rw [if_pos rfl]; simp [U3, U2, U1, S0, lined, granted, upd])
    · rw [if_neg e] at ho; exact absurd rfl ho
  · rintro e w' ⟨hb, ⟨_, rfl⟩ | ⟨h, _⟩⟩
    · exact ⟨rfl, live_on L' hb⟩
    · exact absurd h U3_none
theorem victim4 {w0 w : World} {g : Nat} {N : Nat} {A : Nat → Prop} (L : Live w0 w g U4 N A) (hN : N ≤ 1000) :
    Calls Try.prog 18 #[.pointer (some ⟨g, 0, none⟩), .int .u64 1] w fun e w' => e = .returned (.tuple #[.int .u64 2, .bool true]) ∧ Live w0 w' g U4 N A := by
  have L' := L
  obtain ⟨⟨x, t, _, _⟩, _, _⟩ := L
  refine (victim_any t hN (id := 1) (by decide) (U := [1, 2]) (fun a u h => by rcases (U4_edge a u).1 h with ⟨_, h⟩ | ⟨_, h⟩ <;> rw [h] <;> simp) (by decide) (fun o ho => ?_)).mono ?_
  · rw [U4_waits] at ho ⊢
    by_cases e1 : o = 1
    · subst e1
      exact lk_there t (by rw [if_pos rfl]; simp [U4, U3, U2, U1, S0, lined, granted, upd, nBC])
    · by_cases e : o = 2
      · subst e
        exact lk_there t (by rw [if_neg e1, if_pos rfl]; simp [U4, U3, U2, U1, S0, lined, granted, upd, Ne.symm nBC])
      · rw [if_neg e1, if_neg e] at ho; exact absurd rfl ho
  · obtain ⟨r1, r2, r3⟩ := U4_ring
    rintro e w' ⟨hb, ⟨h, _⟩ | ⟨_, G, rfl, hG, hle⟩⟩
    · exact absurd r1 h
    · have h2 := hle 2 r2 r3
      have : G ≤ 2 := by
        rcases hG with hG | hG
        · omega
        · exact U4_le hG.1
      obtain rfl : G = 2 := by omega
      exact ⟨rfl, live_on L' hb⟩
set_option maxRecDepth 100000 in
set_option maxHeartbeats 8000000 in
theorem known_walk (w : World) : Calls Try.prog 3 #[] w fun e w' => e = .returned (.bool true) ∧ Below w.heap.size w w' := by
  have HA := Lib.hid awake_any
  have HT := Lib.hid tog_any
  have HJ := Lib.hid joi_any
  have ej : joi 2 3 = 4 := by decide
  have et : tog 3 2 = false := by decide
  go_enter Try.func3, Try.ntmps3
  have HN0 := Lib.hid (live_new w w (Below.refl _ _) NoA (fun _ h => h.elim))
  have H1 : Hid (∀ g w1, Live w w1 g S0 0 NoA → Calls Try.prog 13 #[.pointer (some ⟨g, 0, none⟩), .int .u64 1, .string { data := #[97] }, .int .i64 3] w1 (Goes w w1 g S1 5 NoA (.int .i64 0))) := Lib.hid (fun g w1 h => live_does h (fun x H => ask_first H 1 nA 3 (by decide) (by decide) (by decide) nA_size (by decide) rfl rfl rfl (by decide) (fun a _ h0 => absurd rfl h0)))
  have H2 : Hid (∀ g w1, Live w w1 g S1 5 NoA → Calls Try.prog 13 #[.pointer (some ⟨g, 0, none⟩), .int .u64 2, .string { data := #[97] }, .int .i64 3] w1 (Goes w w1 g S2 10 NoA (.int .i64 0))) := Lib.hid (fun g w1 h => live_does h (fun x H => ask_first H 2 nA 3 (by decide) (by decide) (by decide) nA_size (by decide) (by decide) (by decide) rfl (by decide) lets_S1))
  have H3 : Hid (∀ g w1, Live w w1 g S2 10 NoA → Calls Try.prog 13 #[.pointer (some ⟨g, 0, none⟩), .int .u64 1, .string { data := #[97] }, .int .i64 4] w1 (Goes w w1 g S3 15 NoA (.int .i64 10))) := Lib.hid (fun g w1 h => live_does h (fun x H => ask_turn H 1 nA 4 4 (by decide) (by decide) (by decide) nA_size (by decide) (by decide) (by decide) (by decide) (by decide) (by decide) rfl lets_S2))
  have H4 : Hid (∀ g w1, Live w w1 g S3 15 NoA → Calls Try.prog 13 #[.pointer (some ⟨g, 0, none⟩), .int .u64 3, .string { data := #[97] }, .int .i64 1] w1 (Goes w w1 g S4 20 NoA (.int .i64 10))) := Lib.hid (fun g w1 h => live_does h (fun x H => ask_line H 3 nA 1 (by decide) (by decide) (by decide) nA_size (by decide) (by decide) (by decide) (by decide) (by decide)))
  have H5 : Hid (∀ g w1, Live w w1 g S0 0 NoA → Calls Try.prog 13 #[.pointer (some ⟨g, 0, none⟩), .int .u64 1, .string { data := #[98] }, .int .i64 4] w1 (Goes w w1 g U1 5 NoA (.int .i64 0))) := Lib.hid (fun g w1 h => live_does h (fun x H => ask_first H 1 nB 4 (by decide) (by decide) (by decide) nB_size (by decide) rfl rfl rfl (by decide) (fun a _ h0 => absurd rfl h0)))
  have H6 : Hid (∀ g w1, Live w w1 g U1 5 NoA → Calls Try.prog 13 #[.pointer (some ⟨g, 0, none⟩), .int .u64 2, .string { data := #[99] }, .int .i64 4] w1 (Goes w w1 g U2 10 NoA (.int .i64 0))) := Lib.hid (fun g w1 h => live_does h (fun x H => ask_first H 2 nC 4 (by decide) (by decide) (by decide) nC_size (by decide) (by decide) (by decide) rfl (by decide) (fun a _ h0 => by exfalso; apply h0; simp [U1, S0, granted, upd, nBC])))
  have H7 : Hid (∀ g w1, Live w w1 g U2 10 NoA → Calls Try.prog 13 #[.pointer (some ⟨g, 0, none⟩), .int .u64 2, .string { data := #[98] }, .int .i64 3] w1 (Goes w w1 g U3 15 NoA (.int .i64 10))) := Lib.hid (fun g w1 h => live_does h (fun x H => ask_new H 2 nB 3 (by decide) (by decide) (by decide) nB_size (by decide) (by decide) (by decide) (by decide) rfl (fun h => by
    have := h 1 (by decide) (by decide)
    revert this; decide)))
  have H8 : Hid (∀ g w1, Live w w1 g U3 15 NoA → Calls Try.prog 13 #[.pointer (some ⟨g, 0, none⟩), .int .u64 1, .string { data := #[99] }, .int .i64 3] w1 (Goes w w1 g U4 20 NoA (.int .i64 10))) := Lib.hid (fun g w1 h => live_does h (fun x H => ask_new H 1 nC 3 (by decide) (by decide) (by decide) nC_size (by decide) (by decide) (by decide) (by decide) rfl (fun h => by
    have := h 2 (by decide) (by decide)
    revert this; decide)))
  have hB4 : ∀ ns S' outs, All ns (freed S4 2) S' outs → outs.length ≤ 1099511627776 := fun ns S' outs h => by
    have h1 := (all_len h (fun n hn => by show S4.queue n = []; rw [S4_queue, if_neg hn])).1
    have h2 : (freed S4 2).queue nA = [(1, 4), (3, 1)] := by show S4.queue nA = _; rw [S4_queue]; simp
    rw [h2] at h1
    simp only [List.length_cons, List.length_nil] at h1
    omega
  have HB4 := Lib.hid hB4
  have hq4 : (S4.queue nA).map (·.1) = [1, 3] := by rw [S4_queue]; simp
  have HQ4 := Lib.hid hq4
  clear hB4 hq4
  go_wp2_with (first
    | (go_at_call 11; refine HN0.out.mono ?_; rintro e w1 ⟨g, rfl, h1, -, -⟩; have L0 := Lib.hid h1; clear h1 HN0)
    | (go_at_call 12; refine (HA.out _).mono ?_; rintro e w2 ⟨rfl, hb⟩; have L00 := Lib.hid (live_on L0.out hb); clear hb L0 HA)
    | (go_at_call 13; refine (H1.out _ _ L00.out).mono ?_; rintro e w3 ⟨rfl, h3, -⟩; have L1 := Lib.hid h3; clear h3 L00)
    | (go_at_call 13; refine (H2.out _ _ L1.out).mono ?_; rintro e w4 ⟨rfl, h4, -⟩; have L2 := Lib.hid h4; clear h4 L1)
    | (go_at_call 13; refine (H3.out _ _ L2.out).mono ?_; rintro e w5 ⟨rfl, h5, -⟩; have L3 := Lib.hid h5; clear h5 L2)
    | (go_at_call 13; refine (H4.out _ _ L3.out).mono ?_; rintro e w6 ⟨rfl, h6, -⟩; have L4 := Lib.hid h6; clear h6 L3)
    | (go_at_call 15; refine (queue_live L4.out (by decide) nA_size).mono ?_; rintro e w7 ⟨qv, qb, rfl, hs7, h7⟩; rw [HQ4.out] at hs7; have LQ := Lib.hid (live_on h7 (below_alloc w7 (.cells #[.int .u64 1, .int .u64 3] 27))); have HNU := Lib.hid (numbers_same (n := 2) (slc_below hs7 (below_alloc w7 (.cells #[.int .u64 1, .int .u64 3] 27))) (slc_two (cells_new w7 27 #[.int .u64 1, .int .u64 3]) rfl rfl) rfl); clear hs7 h7 L4)
    | (go_at_call 14; refine HNU.out.mono ?_; rintro e w8 ⟨rfl, hb8⟩; have L5 := Lib.hid (live_on LQ.out hb8); clear hb8 LQ HNU)
    | (go_at_call 16; refine (live_free_any L5.out (by decide) S4_wf (id := 2) (by decide) ⟨nA, by rw [S4_held]; simp⟩ (fun n => by rw [S4_hold, S4_held]) (by rw [S4_waits]; rfl) HB4.out).mono ?_; rintro e w9 ⟨ns9, S9, outs9, v9, bo9, rfl, n9, a9, h9, s9⟩; obtain ⟨rfl, f1, f2⟩ := S4_free n9 a9; have LF := Lib.hid (live_on h9 (below_alloc w9 (.cells #[.int .u64 1] 27))); have HNV := Lib.hid (numbers_same (n := 1) (slc_below s9 (below_alloc w9 (.cells #[.int .u64 1] 27))) (slc_one (cells_new w9 27 #[.int .u64 1]) rfl) rfl); have F1 := Lib.hid f1; have F2 := Lib.hid f2; clear n9 a9 h9 s9 f1 f2 L5)
    | (go_at_call 14; refine HNV.out.mono ?_; rintro e w10 ⟨rfl, hb10⟩; have L6 := Lib.hid (live_on LF.out hb10); clear hb10 LF HNV)
    | (go_at_call 17; refine (held_live L6.out (by decide) F1.out F2.out).mono ?_; rintro e w11 ⟨b11, o11, k11, rfl, x11, y11, h11⟩; have L7 := Lib.hid h11; clear h11 L6 x11 y11)
    | (go_at_call 17; refine (held_live L7.out (by decide) F1.out F2.out).mono ?_; rintro e w12 ⟨b12, o12, k12, rfl, x12, y12, h12⟩; have L8 := Lib.hid h12; clear h12 L7)
    | (go_at_call 17; refine (held_live L8.out (by decide) F1.out F2.out).mono ?_; rintro e w13 ⟨b13, o13, k13, rfl, x13, y13, h13⟩; have L9 := Lib.hid h13; clear h13 L8)
    | (go_at_call 11; refine (live_new w w13 L9.out.below NoA (fun _ h => h.elim)).mono ?_; rintro e w14 ⟨g2, rfl, h14, -, -⟩; have M0 := Lib.hid h14; clear h14 L9)
    | (go_at_call 13; refine (H5.out _ _ M0.out).mono ?_; rintro e w15 ⟨rfl, h15, -⟩; have M1 := Lib.hid h15; clear h15 M0)
    | (go_at_call 13; refine (H6.out _ _ M1.out).mono ?_; rintro e w16 ⟨rfl, h16, -⟩; have M2 := Lib.hid h16; clear h16 M1)
    | (go_at_call 13; refine (H7.out _ _ M2.out).mono ?_; rintro e w17 ⟨rfl, h17, -⟩; have M3 := Lib.hid h17; clear h17 M2)
    | (go_at_call 18; refine (victim3 M3.out (by decide)).mono ?_; rintro e w18 ⟨rfl, h18⟩; have M4 := Lib.hid h18; clear h18 M3)
    | (go_at_call 13; refine (H8.out _ _ M4.out).mono ?_; rintro e w19 ⟨rfl, h19, -⟩; have M5 := Lib.hid h19; clear h19 M4)
    | (go_at_call 18; refine (victim4 M5.out (by decide)).mono ?_; rintro e w20 ⟨rfl, h20⟩; have M6 := Lib.hid h20; clear h20 M5)
    | (go_at_call 19; refine (HJ.out _ _ _).mono ?_; rintro e w' ⟨rfl, rfl⟩; rw [ej])
    | (go_at_call 20; refine (HT.out _ _ _).mono ?_; rintro e w21 ⟨rfl, h21⟩; rw [et]; have B21 := Lib.hid (M6.out.below.trans (h21.mono M6.out.below.size)); clear h21))
  go_ret
  exact ⟨rfl, B21.out⟩
end Go.Proofs.Ythanjncpgcmnaaa
