/- LockKnown: the states of chapter 14's examples. -/
import Derived.Test.YthanjncpgcmnaaaLckVict
import Derived.Test.YthanjncpgcmnaaaLckFairB
namespace Go.Proofs.Ythanjncpgcmnaaa
open Go.ChangeShapes Go.WideShapes Go.ChangeAt Go.RowKit

theorem path_front {nm : ByteArray} {S S' : St} {outs : List Nat} (h : Path nm S S' outs) : (S' = S ∧ outs = []) ∨ ∃ o m r outs', S.queue nm = (o, m) :: r ∧ Lets (S.hold nm) o m ∧ outs = o :: outs' ∧ Path nm (given S nm o m r) S' outs' := by
  induction h with
  | start => exact .inl ⟨rfl, rfl⟩
  | @snoc S1 outs o m r _ hq hl ih =>
    rcases ih with ⟨rfl, rfl⟩ | ⟨o', m', r', outs', h1, h2, rfl, h4⟩
    · exact .inr ⟨o, m, r, [], hq, hl, rfl, .start⟩
    · exact .inr ⟨o', m', r', outs' ++ [o], h1, h2, rfl, .snoc h4 hq hl⟩
theorem path_other {nm : ByteArray} {S S' : St} {outs : List Nat} (h : Path nm S S' outs) {n : ByteArray} (hn : n ≠ nm) : S'.queue n = S.queue n := by
  induction h with
  | start => rfl
  | @snoc S1 outs o m r _ _ _ ih => show upd S1.queue nm r n = _; rw [upd_other _ _ hn]; exact ih
theorem all_len {ns : List ByteArray} {S S' : St} {outs : List Nat} (h : All ns S S' outs) (he : ∀ n, n ≠ nA → S.queue n = []) : outs.length + (S'.queue nA).length = (S.queue nA).length ∧ ∀ n, n ≠ nA → S'.queue n = [] := by
  induction h with
  | start => exact ⟨by simp, he⟩
  | @snoc ns n S S1 S2 outs more _ hp _ ih =>
    obtain ⟨i1, i2⟩ := ih he
    by_cases e : n = nA
    · subst e
      have := path_len hp
      refine ⟨by rw [List.length_append]; omega, fun n hn => by rw [path_other hp hn]; exact i2 n hn⟩
    · obtain ⟨rfl, rfl⟩ := path_empty hp (i2 n e)
      exact ⟨by simpa using i1, i2⟩
theorem all_nil {ns : List ByteArray} {S S' : St} {outs : List Nat} (h : All ns S S' outs) (e : ns = []) : S = S' ∧ outs = [] := by
  cases h with
  | start => exact ⟨rfl, rfl⟩
  | snoc => simp at e
theorem all_path {ns : List ByteArray} {n : ByteArray} {S S' : St} {outs : List Nat} (h : All ns S S' outs) (e : ns = [n]) : Path n S S' outs := by
  cases h with
  | start => cases e
  | @snoc ns' n' S1 S2 S3 outs more h1 hp hd =>
    have e1 : n' = n := by
      have := congrArg List.getLast? e
      simpa using this
    have e2 : ns' = [] := by
      have := congrArg List.length e
      simp at this; exact this
    subst e1
    obtain ⟨rfl, rfl⟩ := all_nil h1 e2
    simpa using hp
theorem live_free_any {w0 w : World} {g : Nat} {S : St} {N : Nat} {A : Nat → Prop} (L : Live w0 w g S N A) (hN : N < 1099511627776) (hf : Wf S) {id : Nat} (ho : id < top) (hh : ∃ n, S.held id n ≠ 0) (hcons : ∀ n, S.hold n id = S.held id n) (hwt : (S.waits id).2 = 0)
    (hB : ∀ ns S' outs, All ns (freed S id) S' outs → outs.length ≤ 1099511627776) :
    Calls Try.prog 16 #[.pointer (some ⟨g, 0, none⟩), .int .u64 (id : Int)] w fun e w' => ∃ ns S' outs v bo, e = .returned v ∧ Names (S.held id) ns ∧ All ns (freed S id) S' outs ∧ Live w0 w' g S' N A ∧ Slc w' bo 1 v outs.length (u64s outs) := by
  obtain ⟨⟨x, t, h2, h3⟩, hb, hlt⟩ := L
  obtain ⟨kk, hk⟩ : ∃ kk, x.ow id = some kk := by
    obtain ⟨n, hn⟩ := hh
    cases e : x.ow id with
    | some kk => exact ⟨kk, rfl⟩
    | none => exact absurd ((t.owners.none id e).1 n) hn
  refine (free_any t hN hf ho hk hcons hwt hB).mono ?_
  rintro e w' ⟨ns, S', x', outs, v, bo, rfl, hn, hall, t', s', wf', hslc, hbo⟩
  refine ⟨ns, S', outs, v, bo, rfl, hn, hall, ⟨⟨x', t', fun b hb' => ?_, fun b hb' => (s'.ext b (hlt b hb')).trans (h3 b hb')⟩, Turned.to_below hb s'.turned h2 hb.size, fun b hb' => Nat.lt_of_lt_of_le (hlt b hb') s'.turned.size⟩, hslc⟩
  by_cases hlt' : b < w.heap.size
  · exact h2 b (by rw [← s'.ext b hlt']; exact hb')
  · have := hb.size; omega
def S3 : St := lined S2 1 nA 4
def S4 : St := lined S3 3 nA 1
theorem S4_queue (n : ByteArray) : S4.queue n = if n = nA then [(1, 4), (3, 1)] else [] := by
  by_cases e : n = nA <;> simp [S4, S3, S2, S1, S0, lined, granted, upd, e]
theorem S4_waits (o : Nat) : S4.waits o = if o = 3 then (nA, 1) else if o = 1 then (nA, 4) else (⟨#[]⟩, 0) := by
  by_cases e3 : o = 3
  · simp [S4, S3, S2, S1, S0, lined, granted, upd, e3]
  · by_cases e1 : o = 1
    · simp [S4, S3, S2, S1, S0, lined, granted, upd, e1]
    · by_cases e2 : o = 2 <;> simp [S4, S3, S2, S1, S0, lined, granted, upd, e3, e1, e2]
theorem S4_hold (n : ByteArray) (o : Nat) : S4.hold n o = if n = nA ∧ (o = 1 ∨ o = 2) then 3 else 0 := by
  by_cases e : n = nA
  · by_cases e1 : o = 1
    · simp [S4, S3, S2, S1, S0, lined, granted, upd, e, e1]
    · by_cases e2 : o = 2 <;> simp [S4, S3, S2, S1, S0, lined, granted, upd, e, e1, e2]
  · simp [S4, S3, S2, S1, S0, lined, granted, upd, e]
theorem S4_held (o : Nat) (n : ByteArray) : S4.held o n = if n = nA ∧ (o = 1 ∨ o = 2) then 3 else 0 := by
  by_cases e1 : o = 1
  · by_cases e : n = nA <;> simp [S4, S3, S2, S1, S0, lined, granted, upd, e, e1]
  · by_cases e2 : o = 2
    · by_cases e : n = nA <;> simp [S4, S3, S2, S1, S0, lined, granted, upd, e, e2]
    · simp [S4, S3, S2, S1, S0, lined, granted, upd, e1, e2]
theorem S4_wf : Wf S4 := ⟨fun n o m h => by
    rw [S4_queue] at h
    by_cases e : n = nA
    · subst e
      simp at h
      rcases h with ⟨rfl, rfl⟩ | ⟨rfl, rfl⟩ <;> rw [S4_waits] <;> simp
    · simp [e] at h, fun n => by
    rw [S4_queue]
    by_cases e : n = nA <;> simp [e]⟩
theorem S4_free {ns : List ByteArray} {S' : St} {outs : List Nat} (hn : Names (S4.held 2) ns) (h : All ns (freed S4 2) S' outs) : outs = [1] ∧ S'.held 1 nA = 4 ∧ ∀ n, S'.held 1 n ≠ 0 ↔ n = nA := by
  have e : ns = [nA] := names_only hn (fun nm => by rw [S4_held]; by_cases e : nm = nA <;> simp [e])
  have hp := all_path h e
  have hd := all_done h e
  have hq : (freed S4 2).queue nA = [(1, 4), (3, 1)] := by show S4.queue nA = _; rw [S4_queue]; simp
  have hlets : Lets ((freed S4 2).hold nA) 1 (4 : Nat) := fun a ha h0 => by
    exfalso; apply h0
    show (if a = 2 then 0 else S4.hold nA a) = 0
    by_cases e2 : a = 2
    · simp [e2]
    · rw [S4_hold]; simp [ha, e2]
  rcases path_front hp with ⟨rfl, _⟩ | ⟨o, m, r, outs', h1, _, rfl, h4⟩
  · exfalso
    rcases hd with hd | ⟨o, m, r, hd, hl⟩
    · rw [hq] at hd; cases hd
    · rw [hq] at hd; cases hd; exact hl hlets
  · rw [hq] at h1; cases h1
    have hq2 : (given (freed S4 2) nA 1 4 [(3, 1)]).queue nA = [(3, 1)] := by show upd (freed S4 2).queue nA [(3, 1)] nA = _; rw [upd_same]
    have hh2 : (given (freed S4 2) nA 1 4 [(3, 1)]).hold nA 1 = 4 := by show upd (freed S4 2).hold nA (upd ((freed S4 2).hold nA) 1 4) nA 1 = 4; rw [upd_same, upd_same]
    rcases path_front h4 with ⟨rfl, rfl⟩ | ⟨o, m, r, outs2, h1, h2, _, _⟩
    · refine ⟨rfl, ?_, fun n => ?_⟩
      · show upd (freed S4 2).held 1 (upd ((freed S4 2).held 1) nA 4) 1 nA = 4
        rw [upd_same, upd_same]
      · show upd (freed S4 2).held 1 (upd ((freed S4 2).held 1) nA 4) 1 n ≠ 0 ↔ _
        rw [upd_same]
        by_cases e : n = nA
        · subst e; rw [upd_same]; simp
        · rw [upd_other _ _ e]
          have : (freed S4 2).held 1 n = 0 := by
            show upd S4.held 2 (fun _ => 0) 1 n = 0
            rw [upd_other _ _ (by decide), S4_held]; simp [e]
          simp [this, e]
    · exfalso
      rw [hq2] at h1; cases h1
      have := h2 1 (by decide) (by rw [hh2]; decide)
      rw [hh2] at this
      revert this; decide
def nB : ByteArray := ⟨#[98]⟩
def nC : ByteArray := ⟨#[99]⟩
theorem nBC : nC ≠ nB := by decide
theorem nB_size : nB.size ≤ maxLen := by decide
theorem nC_size : nC.size ≤ maxLen := by decide
def U1 : St := granted S0 1 nB 4
def U2 : St := granted U1 2 nC 4
def U3 : St := lined U2 2 nB 3
def U4 : St := lined U3 1 nC 3
theorem U2_hold (n : ByteArray) (o : Nat) : U2.hold n o = if n = nB ∧ o = 1 then 4 else if n = nC ∧ o = 2 then 4 else 0 := by
  by_cases e : n = nC
  · subst e
    by_cases e1 : o = 2 <;> simp [U2, U1, S0, granted, upd, nBC, e1]
  · by_cases e2 : n = nB
    · subst e2
      by_cases e1 : o = 1 <;> simp [U2, U1, S0, granted, upd, Ne.symm nBC, e1]
    · simp [U2, U1, S0, granted, upd, e, e2]
theorem U3_waits (o : Nat) : U3.waits o = if o = 2 then (nB, 3) else (⟨#[]⟩, 0) := by
  by_cases e : o = 2
  · simp [U3, lined, upd, e]
  · by_cases e1 : o = 1 <;> simp [U3, U2, U1, S0, lined, granted, upd, e, e1]
theorem U4_waits (o : Nat) : U4.waits o = if o = 1 then (nC, 3) else if o = 2 then (nB, 3) else (⟨#[]⟩, 0) := by
  by_cases e : o = 1
  · simp [U4, lined, upd, e]
  · show upd U3.waits 1 (nC, 3) o = _
    rw [upd_other _ _ e, U3_waits]; simp [e]
theorem U3_edge (o u : Nat) : Edge U3 o u ↔ o = 2 ∧ u = 1 := by
  unfold Edge
  rw [U3_waits]
  by_cases e : o = 2
  · subst e
    have hq : U3.queue nB = [(2, 3)] := by simp [U3, U2, U1, S0, lined, granted, upd]
    simp only [if_pos, hq]
    show (_ ∧ (_ ∧ U2.hold nB u ≠ 0 ∧ tog _ (U2.hold nB u) = false ∨ _)) ↔ _
    rw [U2_hold]
    by_cases e1 : u = 1
    · subst e1; simp [ahead]; decide
    · simp [e1, Ne.symm nBC, ahead]
  · simp [e]
theorem U4_edge (o u : Nat) : Edge U4 o u ↔ (o = 2 ∧ u = 1) ∨ (o = 1 ∧ u = 2) := by
  unfold Edge
  rw [U4_waits]
  by_cases e : o = 1
  · subst e
    have hq : U4.queue nC = [(1, 3)] := by simp [U4, U3, U2, U1, S0, lined, granted, upd, nBC]
    simp only [if_pos, hq]
    show (_ ∧ (_ ∧ U2.hold nC u ≠ 0 ∧ tog _ (U2.hold nC u) = false ∨ _)) ↔ _
    rw [U2_hold]
    by_cases e1 : u = 2
    · subst e1; simp [ahead, nBC]; decide
    · simp [e1, nBC, ahead]
  · by_cases e2 : o = 2
    · subst e2
      have hq : U4.queue nB = [(2, 3)] := by simp [U4, U3, U2, U1, S0, lined, granted, upd, Ne.symm nBC]
      have hw : (if (2 : Nat) = 1 then (nC, 3) else if (2 : Nat) = 2 then (nB, 3) else ((⟨#[]⟩ : ByteArray), 0)) = (nB, 3) := rfl
      rw [hw]
      simp only [hq]
      show (_ ∧ (_ ∧ U2.hold nB u ≠ 0 ∧ tog _ (U2.hold nB u) = false ∨ _)) ↔ _
      rw [U2_hold]
      by_cases e1 : u = 1
      · subst e1; simp [ahead]; decide
      · simp [e1, Ne.symm nBC, ahead]
    · simp [e, e2]
theorem U3_none : ¬ TE U3 2 2 := fun h => by
  have key : ∀ a b, TE U3 a b → b = 1 := fun a b h => by
    cases h with
    | one h => exact ((U3_edge _ _).1 h).2
    | snoc _ h => exact ((U3_edge _ _).1 h).2
  have := key _ _ h
  cases this
theorem U4_ring : TE U4 1 1 ∧ TE U4 1 2 ∧ TE U4 2 1 := by
  have h1 : Edge U4 1 2 := (U4_edge _ _).2 (.inr ⟨rfl, rfl⟩)
  have h2 : Edge U4 2 1 := (U4_edge _ _).2 (.inl ⟨rfl, rfl⟩)
  exact ⟨.snoc (.one h1) h2, .one h1, .one h2⟩
theorem U4_le {a z : Nat} (h : TE U4 a z) : z ≤ 2 := by
  have : ∀ a b, Edge U4 a b → b ≤ 2 := fun a b h => by rcases (U4_edge _ _).1 h with ⟨_, h⟩ | ⟨_, h⟩ <;> omega
  cases h with
  | one h => exact this _ _ h
  | snoc _ h => exact this _ _ h
end Go.Proofs.Ythanjncpgcmnaaa
