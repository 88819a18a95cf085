/- LockFair: a table and rows of numbers beside it; Free; two rows that are the same. -/
import Derived.Test.YthanjncpgcmnaaaLckFairA
namespace Go.Proofs.Ythanjncpgcmnaaa
open Go.ChangeShapes Go.WideShapes Go.ChangeAt Go.RowKit

theorem live_free {w0 w : World} {g : Nat} {S : St} {N : Nat} {A : Nat → Prop} (L : Live w0 w g S N A) (hN : N < 1099511627776) {id : Nat} {hs : List Nat} {q : List (Nat × Nat)} (F : Fair S (id :: hs) q) (hl : q.length ≤ 1000) (ho : id < top) :
    Calls Try.prog 16 #[.pointer (some ⟨g, 0, none⟩), .int .u64 (id : Int)] w fun e w' => ∃ S' q' outs v bo, e = .returned v ∧ Fair S' (hs ++ outs) q' ∧ q.map (·.1) = outs ++ q'.map (·.1) ∧ Done S' nA ∧
      Live w0 w' g S' N (fun k => A k ∨ bo = some k) ∧ Slc w' bo 1 v outs.length (u64s outs) ∧ (∀ b, bo = some b → w.heap.size ≤ b) ∧ ∀ k, A k → w'.heap[k]? = w.heap[k]? := by
  obtain ⟨⟨x, t, h2, h3⟩, hb, hlt⟩ := L
  obtain ⟨kk, hk⟩ : ∃ kk, x.ow id = some kk := by
    cases e : x.ow id with
    | some kk => exact ⟨kk, rfl⟩
    | none =>
      have h1 := (t.owners.none id e).1 nA
      rw [← F.cons] at h1
      exact absurd h1 ((F.hold id).2 (by simp))
  refine (free_any t hN F.wf ho hk (fun n => F.cons n id) (F.free id (F.apart id (by simp))) (fun ns S' outs h => by
    obtain ⟨q', e, _⟩ := fair_all h (fair_freed F)
    have := congrArg List.length e
    simp only [List.length_map, List.length_append] at this
    omega)).mono ?_
  rintro e w' ⟨ns, S', x', outs, v, bo, rfl, hn, hall, t', s', wf', hslc, hbo⟩
  obtain ⟨q', e1, F', hd⟩ := fair_next F hn hall
  refine ⟨S', q', outs, v, bo, rfl, F', e1, hd, ⟨⟨x', t', fun b hb' => ?_, fun b hb' => ?_⟩, Turned.to_below hb s'.turned h2 hb.size, fun b hb' => ?_⟩, hslc, fun b e => (hbo b e).1, fun k hk => s'.turned.block k (hlt k hk) (by rw [h3 k hk]; simp)⟩
  · by_cases hlt' : b < w.heap.size
    · exact h2 b (by rw [← s'.ext b hlt']; exact hb')
    · have := hb.size; omega
  · rcases hb' with hb' | hb'
    · exact (s'.ext b (hlt b hb')).trans (h3 b hb')
    · exact (hbo b hb').2
  · rcases hb' with hb' | hb'
    · exact Nat.lt_of_lt_of_le (hlt b hb') s'.turned.size
    · exact slc_lt hslc b hb'
theorem slc_same {w w' : World} {bo : Option Nat} {sz n : Nat} {v : Value} {xs : List Value} (h : Slc w bo sz v n xs) (hk : ∀ b, bo = some b → w'.heap[b]? = w.heap[b]?) : Slc w' bo sz v n xs := by
  have hlt : ∀ b, bo = some b → b < w'.heap.size := fun b e => by
    have h1 := slc_lt h b e
    have h2 := hk b e
    rw [Array.getElem?_eq_getElem h1] at h2
    exact (Array.getElem?_eq_some_iff.1 h2).1
  obtain ⟨h1, h2, h3 | ⟨b, off, cap, rfl, rfl, hb, hn, hc, hx, hsp⟩⟩ := h
  · exact ⟨h1, h2, .inl h3⟩
  · have hbk := hk b rfl
    refine ⟨h1, h2, .inr ⟨b, off, cap, rfl, rfl, hlt b rfl, hn, hc, fun j u hu => ?_, fun j hj => ?_⟩⟩
    · rw [World.cell?_of_block (a := ⟨b, off + j, none⟩) hbk]; exact hx j u hu
    · rw [World.cell?_of_block (a := ⟨b, off + j, none⟩) hbk, World.frozen?_of_block (a := ⟨b, off + j, none⟩) hbk]; exact hsp j hj
abbrev RowN := Option Nat × Value × List Nat
def nilR : RowN := (none, .slice none 0 0, [])
/-- A table, and rows of numbers beside it, each for itself. -/
structure Run (w0 w : World) (g : Nat) (S : St) (N : Nat) (r : Nat → RowN) : Prop where
  live : Live w0 w g S N (fun k => ∃ i, (r i).1 = some k)
  slc : ∀ i, Slc w (r i).1 1 (r i).2.1 (r i).2.2.length (u64s (r i).2.2)
  old : ∀ i b, (r i).1 = some b → w0.heap.size ≤ b
  apart : ∀ i j b, i ≠ j → (r i).1 = some b → (r j).1 ≠ some b
theorem run_start {w0 w : World} {g : Nat} {S : St} {N : Nat} (h : Live w0 w g S N (fun _ => False)) : Run w0 w g S N (fun _ => nilR) :=
  ⟨live_mono h (fun k ⟨i, e⟩ => by cases e) (Nat.le_refl _), fun i => slc_nil _ _, (fun i b e => by cases e), (fun i j b _ e => by cases e)⟩
theorem run_goes {w0 w w' : World} {g : Nat} {S S' : St} {N N' : Nat} {r : Nat → RowN} {v : Value} {e : Ending} (h : Run w0 w g S N r) (hg : Goes w0 w g S' N' (fun k => ∃ i, (r i).1 = some k) v e w') : Run w0 w' g S' N' r :=
  ⟨hg.2.1, fun i => slc_same (h.slc i) (fun b e => hg.2.2 b ⟨i, e⟩), h.old, h.apart⟩
theorem run_below {w0 w w' : World} {g : Nat} {S : St} {N : Nat} {r : Nat → RowN} (h : Run w0 w g S N r) (hb : Below w.heap.size w w') : Run w0 w' g S N r :=
  ⟨live_on h.live hb, fun i => slc_below (h.slc i) hb, h.old, h.apart⟩
/-- One row is written, or made anew. -/
theorem run_set {w0 w w' : World} {g : Nat} {S : St} {N : Nat} {r : Nat → RowN} (h : Run w0 w g S N r) (i : Nat) {E : Nat → Prop} (ht : Turned E w w') (hE : ∀ k, E k → (r i).1 = some k) {bo : Option Nat} {v : Value} {l : List Nat}
    (h1 : Slc w' bo 1 v l.length (u64s l)) (hbo : ∀ b, bo = some b → (r i).1 = some b ∨ w.heap.size ≤ b) : Run w0 w' g S N (upd r i (bo, v, l)) := by
  have hs := h.slc; have ho := h.old; have ha := h.apart
  obtain ⟨⟨x, t, h2, h3⟩, hb, hlt⟩ := h.live
  have hE' : ∀ k, E k → x.who k = .out ∧ w0.heap.size ≤ k := fun k e => ⟨h3 k ⟨i, hE k e⟩, ho i k (hE k e)⟩
  have hout : ∀ b, w.heap.size ≤ b → x.who b = .out := fun b hb => Classical.byContradiction fun h => by have := t.lt b h; omega
  refine ⟨⟨⟨x, t.turned ht (fun b e => (hE' b e).1), h2, fun b ⟨j, hj⟩ => ?_⟩, Turned.to_below hb ht (fun k e => (hE' k e).2) hb.size, fun b ⟨j, hj⟩ => ?_⟩, fun j => ?_, fun j b hj => ?_, fun j k b hne hj hk => ?_⟩
  · by_cases e : j = i
    · subst e; rw [upd_same] at hj
      rcases hbo b hj with h | h
      · exact h3 b ⟨j, h⟩
      · exact hout b h
    · rw [upd_other _ _ e] at hj; exact h3 b ⟨j, hj⟩
  · by_cases e : j = i
    · subst e; rw [upd_same] at hj; exact slc_lt h1 b hj
    · rw [upd_other _ _ e] at hj; exact Nat.lt_of_lt_of_le (hlt b ⟨j, hj⟩) ht.size
  · by_cases e : j = i
    · subst e; rw [upd_same]; exact h1
    · rw [upd_other _ _ e]; exact slc_turned (hs j) ht (fun b e' h' => ha j i b e e' (hE b h'))
  · by_cases e : j = i
    · subst e; rw [upd_same] at hj
      rcases hbo b hj with h | h
      · exact ho j b h
      · have := hb.size; omega
    · rw [upd_other _ _ e] at hj; exact ho j b hj
  · have key : ∀ m, m ≠ i → (r m).1 = some b → bo = some b → False := fun m hm hr hbo' => by
      rcases hbo b hbo' with h | h
      · exact ha m i b hm hr h
      · have := slc_lt (hs m) b hr; omega
    by_cases e : j = i
    · subst e
      rw [upd_same] at hj
      rw [upd_other _ _ (fun e => hne e.symm)] at hk
      exact key k (fun e => hne e.symm) hk hj
    · rw [upd_other _ _ e] at hj
      by_cases e' : k = i
      · subst e'; rw [upd_same] at hk; exact key j e hj hk
      · rw [upd_other _ _ e'] at hk; exact ha j k b hne hj hk
/-- A row goes to another's place. -/
theorem run_move {w0 w : World} {g : Nat} {S : St} {N : Nat} {r : Nat → RowN} (h : Run w0 w g S N r) {i j : Nat} (hij : i ≠ j) : Run w0 w g S N (upd (upd r i (r j)) j nilR) := by
  obtain ⟨r2, hr2⟩ : ∃ r2, r2 = upd (upd r i (r j)) j nilR := ⟨_, rfl⟩
  have hof : ∀ k, ∃ m, (r2 k = nilR) ∨ (r2 k = r m ∧ (k = i ∧ m = j ∨ k ≠ i ∧ m = k ∧ m ≠ j)) := fun k => by
    subst hr2
    by_cases e : k = j
    · exact ⟨0, .inl (by subst e; rw [upd_same])⟩
    · by_cases e' : k = i
      · exact ⟨j, .inr ⟨by rw [upd_other _ _ e, e', upd_same], .inl ⟨e', rfl⟩⟩⟩
      · exact ⟨k, .inr ⟨by rw [upd_other _ _ e, upd_other _ _ e'], .inr ⟨e', rfl, e⟩⟩⟩
  rw [← hr2]
  refine ⟨live_mono h.live (fun b ⟨k, hk⟩ => ?_) (Nat.le_refl _), fun k => ?_, fun k b hk => ?_, fun k1 k2 b hne h1 h2 => ?_⟩
  · obtain ⟨m, hm | ⟨hm, _⟩⟩ := hof k
    · rw [hm] at hk; cases hk
    · exact ⟨m, hm ▸ hk⟩
  · obtain ⟨m, hm | ⟨hm, _⟩⟩ := hof k
    · rw [hm]; exact slc_nil _ _
    · rw [hm]; exact h.slc m
  · obtain ⟨m, hm | ⟨hm, _⟩⟩ := hof k
    · rw [hm] at hk; cases hk
    · exact h.old m b (hm ▸ hk)
  · obtain ⟨m1, hm1 | ⟨hm1, c1⟩⟩ := hof k1
    · rw [hm1] at h1; cases h1
    · obtain ⟨m2, hm2 | ⟨hm2, c2⟩⟩ := hof k2
      · rw [hm2] at h2; cases h2
      · rw [hm1] at h1; rw [hm2] at h2
        exact h.apart m1 m2 b (by omega) h1 h2
/-- Free, the rows beside it; what it tells is row i. -/
theorem run_free {w0 w : World} {g : Nat} {S : St} {N : Nat} {r : Nat → RowN} (h : Run w0 w g S N r) (i : Nat) (hN : N < 1099511627776) {id : Nat} {hs : List Nat} {q : List (Nat × Nat)} (F : Fair S (id :: hs) q) (hl : q.length ≤ 1000) (ho : id < top) :
    Calls Try.prog 16 #[.pointer (some ⟨g, 0, none⟩), .int .u64 (id : Int)] w fun e w' => ∃ S' q' outs v bo, e = .returned v ∧ Fair S' (hs ++ outs) q' ∧ q.map (·.1) = outs ++ q'.map (·.1) ∧ Done S' nA ∧
      Run w0 w' g S' N (upd r i (bo, v, outs)) := by
  refine (live_free h.live hN F hl ho).mono ?_
  rintro e w' ⟨S', q', outs, v, bo, rfl, F', e1, hd, hL, hslc, hbo, hk⟩
  have hb := h.live.below
  refine ⟨S', q', outs, v, bo, rfl, F', e1, hd, live_mono hL (fun b ⟨j, hj⟩ => ?_) (Nat.le_refl _), fun j => ?_, fun j b hj => ?_, fun j k b hne hj hk' => ?_⟩
  · by_cases e : j = i
    · subst e; rw [upd_same] at hj; exact .inr hj
    · rw [upd_other _ _ e] at hj; exact .inl ⟨j, hj⟩
  · by_cases e : j = i
    · subst e; rw [upd_same]; exact hslc
    · rw [upd_other _ _ e]; exact slc_same (h.slc j) (fun b e => hk b ⟨j, e⟩)
  · by_cases e : j = i
    · subst e; rw [upd_same] at hj
      have h1 := hbo b hj; have h2 := hb.size; omega
    · rw [upd_other _ _ e] at hj; exact h.old j b hj
  · have key : ∀ m, (r m).1 = some b → bo = some b → False := fun m hr hb' => by
      have h1 := slc_lt (h.slc m) b hr; have h2 := hbo b hb'; omega
    by_cases e : j = i
    · subst e
      rw [upd_same] at hj
      rw [upd_other _ _ (fun e => hne e.symm)] at hk'
      exact key k hk' hj
    · rw [upd_other _ _ e] at hj
      by_cases e' : k = i
      · subst e'; rw [upd_same] at hk'; exact key j hj hk'
      · rw [upd_other _ _ e'] at hk'; exact h.apart j k b hne hj hk'
/-- A row of one. -/
theorem slc_one {w : World} {c : Nat} {a : Value} {t : TypeId} (h : Cells w c t #[a]) (h1 : a.oneCell' = true) : Slc w (some c) 1 (.slice (some ⟨c, 0, none⟩) 1 1) 1 [a] :=
  ⟨rfl, fun u hu => by rw [List.mem_singleton] at hu; subst hu; exact h1, .inr ⟨c, 0, 1, rfl, rfl, cells_lt h, Nat.le_refl _, by unfold maxLen; omega, fun j u hu => by
    match j, hu with
    | 0, hu => cases hu; rw [cell_of_row _ _ _ _ _ _ h]; rfl, fun j hj => by
    obtain rfl : j = 0 := by omega
    exact ⟨by rw [cell_of_row _ _ _ _ _ _ h]; rfl, frozen_of_row _ _ _ _ _ h⟩⟩⟩
set_option maxHeartbeats 1000000 in
theorem numbers_same {w : World} {b1 b2 : Option Nat} {v1 v2 : Value} {n : Nat} {l : List Nat} (h1 : Slc w b1 1 v1 n (u64s l)) (h2 : Slc w b2 1 v2 n (u64s l)) (hn : l.length = n) :
    Calls Try.prog 14 #[v1, v2] w fun e w' => e = .returned (.bool true) ∧ Below w.heap.size w w' := by
  obtain ⟨a1, c1, rfl, p1, p2, -⟩ := slc_form h1
  obtain ⟨a2, c2, rfl, -⟩ := slc_form h2
  unfold maxLen at p2
  have H1 := Lib.hid h1; have H2 := Lib.hid h2; have HN := Lib.hid hn
  clear h1 h2 hn
  go_enter Try.func14, Try.ntmps14
  go_wp2
  go_loopw [5] (fun i wr => ∃ j : Nat, j ≤ n ∧ i = .int .i64 (j : Int) ∧ Hid (Below w.heap.size w wr)) (fun i _ => n - (intOf i).toNat)
  case atStart => exact ⟨0, Nat.zero_le _, rfl, Lib.hid (Below.refl _ _)⟩
  case round =>
    obtain ⟨j, hj, rfl, hb⟩ := hrel
    by_cases hlt : j < n
    · have hjl : j < l.length := by rw [HN.out]; exact hlt
      have hu : (u64s l)[j]? = some (.int .u64 (l[j] : Int)) := by rw [u64s, List.getElem?_map, List.getElem?_eq_getElem hjl]; rfl
      obtain ⟨d1, o1, rfl, e1⟩ := slc_at (slc_below H1.out hb.out) hu hlt
      obtain ⟨d2, o2, rfl, e2⟩ := slc_at (slc_below H2.out hb.out) hu hlt
      generalize l[j] = z at e1 e2
      clear hu hjl
      go_wp2
      go_quiet (fail)
      have HB2 := Lib.hid (hb.out.trans ((below_drew1 wr nq).mono hb.out.size))
      go_wp2
      go_roundw
      case rel => exact ⟨j + 1, by omega, by go_num, HB2⟩
      case measure => simp [intOf]; omega
    · have : j = n := by omega
      subst this
      go_wp2
      go_ret
      exact ⟨rfl, hb.out⟩
end Go.Proofs.Ythanjncpgcmnaaa
