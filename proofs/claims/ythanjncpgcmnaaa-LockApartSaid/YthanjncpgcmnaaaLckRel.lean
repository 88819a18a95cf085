/- Two tables of which one was asked for other names too, by others: what is alike. -/
import Derived.Test.YthanjncpgcmnaaaLckOps
namespace Go.Proofs.Ythanjncpgcmnaaa
open Go.ChangeShapes Go.WideShapes Go.ChangeAt Go.RowKit

/-- A name of the one kind. -/
def Xn (n : ByteArray) : Prop := n.data.toList.head? = some 120
structure Sep (S : St) : Prop where
  hold : ∀ n o, S.hold n o ≠ 0 → (Xn n ↔ o % 2 = 0)
  queue : ∀ n o m, (o, m) ∈ S.queue n → (Xn n ↔ o % 2 = 0)
structure Rel (S T : St) : Prop where
  hold : ∀ n, Xn n → S.hold n = T.hold n
  queue : ∀ n, Xn n → S.queue n = T.queue n
  is : Inv S
  it : Inv T
  ss : Sep S
  st : Sep T
theorem sep_S0 : Sep S0 := ⟨fun _ _ h => absurd rfl h, fun _ _ _ h => (by cases h)⟩
theorem rel_S0 : Rel S0 S0 := ⟨fun _ _ => rfl, fun _ _ => rfl, inv_S0, inv_S0, sep_S0, sep_S0⟩
theorem rel_held {S T : St} (R : Rel S T) {o : Nat} (ho : o % 2 = 0) : S.held o = T.held o := by
  funext n
  rw [← R.is.cons, ← R.it.cons]
  by_cases h : Xn n
  · rw [R.hold n h]
  · have h1 : S.hold n o = 0 := Classical.byContradiction fun e => h ((R.ss.hold n o e).2 ho)
    have h2 : T.hold n o = 0 := Classical.byContradiction fun e => h ((R.st.hold n o e).2 ho)
    rw [h1, h2]
theorem rel_waits {S T : St} (R : Rel S T) {o : Nat} (ho : o % 2 = 0) : S.waits o = T.waits o := by
  by_cases h : (S.waits o).2 = 0
  · by_cases h2 : (T.waits o).2 = 0
    · rw [R.is.idle o h, R.it.idle o h2]
    · exfalso
      have hb := R.it.back o h2
      have hx := (R.st.queue _ _ _ hb).2 ho
      rw [← R.queue _ hx] at hb
      have := R.is.wf.waits _ _ _ hb
      rw [this] at h
      exact h2 h
  · have hb := R.is.back o h
    have hx := (R.ss.queue _ _ _ hb).2 ho
    rw [R.queue _ hx] at hb
    exact (R.it.wf.waits _ _ _ hb).symm
/-- Where one of the one kind waits, is a name of the one kind. -/
theorem x_waits {S : St} (I : Inv S) (s : Sep S) {o : Nat} (ho : o % 2 = 0) (h : (S.waits o).2 ≠ 0) : Xn (S.waits o).1 := (s.queue _ _ _ (I.back o h)).2 ho
theorem sep_granted {S : St} (s : Sep S) {o m : Nat} {n : ByteArray} (h : Xn n ↔ o % 2 = 0) : Sep (granted S o n m) :=
  ⟨fun n' o' h' => by
    have h' : upd S.hold n (upd (S.hold n) o m) n' o' ≠ 0 := h'
    by_cases e : n' = n
    · subst e
      rw [upd_same] at h'
      by_cases eo : o' = o
      · subst eo; exact h
      · rw [upd_other _ _ eo] at h'; exact s.hold n' o' h'
    · rw [upd_other _ _ e] at h'; exact s.hold n' o' h', s.queue⟩
theorem sep_lined {S : St} (s : Sep S) {o m i : Nat} {n : ByteArray} (h : Xn n ↔ o % 2 = 0) : Sep (linedAt S o n i m) :=
  ⟨s.hold, fun n' o' m' h' => by
    have h' : (o', m') ∈ upd S.queue n (mid (S.queue n) i o m) n' := h'
    by_cases e : n' = n
    · subst e
      rw [upd_same] at h'
      rcases mem_mid.1 h' with h1 | h1
      · cases h1; exact h
      · exact s.queue n' o' m' h1
    · rw [upd_other _ _ e] at h'; exact s.queue n' o' m' h'⟩
theorem sep_ask {S : St} (s : Sep S) {o : Nat} {n : ByteArray} (h : Xn n ↔ o % 2 = 0) (m : Int) : Sep (askF S o n m).1 := by
  unfold askF
  repeat' split
  · exact s
  · exact s
  · exact s
  · exact sep_granted s h
  · exact sep_lined s h
  · exact sep_lined s h
theorem ask_only {S : St} {o : Nat} {n n' : ByteArray} (m : Int) (hne : n' ≠ n) : (askF S o n m).1.hold n' = S.hold n' ∧ (askF S o n m).1.queue n' = S.queue n' := by
  unfold askF
  repeat' split
  · exact ⟨rfl, rfl⟩
  · exact ⟨rfl, rfl⟩
  · exact ⟨rfl, rfl⟩
  · exact ⟨upd_other _ _ hne, rfl⟩
  · exact ⟨rfl, upd_other _ _ hne⟩
  · exact ⟨rfl, upd_other _ _ hne⟩
/-- One of the other kind asks: nothing of the one kind is changed. -/
theorem rel_ask_y {S T : St} (R : Rel S T) (hl : ∀ n o, S.hold n o ≤ 4) {o : Nat} {n : ByteArray} (ho : ¬ o % 2 = 0) (hn : ¬ Xn n) (m : Int) : Rel (askF S o n m).1 T where
  hold := fun n' h => by rw [(ask_only (n := n) m (fun e => hn (by rw [← e]; exact h))).1]; exact R.hold n' h
  queue := fun n' h => by rw [(ask_only (n := n) m (fun e => hn (by rw [← e]; exact h))).2]; exact R.queue n' h
  is := inv_ask R.is hl o n m
  it := R.it
  ss := sep_ask R.ss ⟨fun h => absurd h hn, fun h => absurd h ho⟩ m
  st := R.st
theorem ask_at {S T : St} (R : Rel S T) {o : Nat} {n : ByteArray} (ho : o % 2 = 0) (hn : Xn n) (m : Int) : (askF S o n m).2 = (askF T o n m).2 ∧ (askF S o n m).1.hold n = (askF T o n m).1.hold n ∧ (askF S o n m).1.queue n = (askF T o n m).1.queue n := by
  have e1 := rel_waits R ho
  have e2 := R.hold n hn
  have e3 := R.queue n hn
  have e4 : wantM S o n m = wantM T o n m := by unfold wantM; rw [e2]
  unfold askF
  rw [e1, e2, e3, e4]
  by_cases c1 : o = 0 ∨ isM m = false
  · rw [if_pos c1, if_pos c1]; exact ⟨rfl, e2, e3⟩
  · rw [if_neg c1, if_neg c1]
    by_cases c2 : (T.waits o).2 ≠ 0
    · rw [if_pos c2, if_pos c2]; exact ⟨rfl, e2, e3⟩
    · rw [if_neg c2, if_neg c2]
      by_cases c3 : T.hold n o ≠ 0 ∧ wantM T o n m = T.hold n o
      · rw [if_pos c3, if_pos c3]; exact ⟨rfl, e2, e3⟩
      · rw [if_neg c3, if_neg c3]
        by_cases c4 : (T.hold n o ≠ 0 ∨ T.queue n = []) ∧ Lets (T.hold n) o (wantM T o n m)
        · rw [if_pos c4, if_pos c4]
          refine ⟨rfl, ?_, e3⟩
          show upd S.hold n (upd (S.hold n) o _) n = upd T.hold n (upd (T.hold n) o _) n
          rw [upd_same, upd_same, e2]
        · rw [if_neg c4, if_neg c4]
          refine ⟨rfl, e2, ?_⟩
          show upd S.queue n (mid (S.queue n) _ o _) n = upd T.queue n (mid (T.queue n) _ o _) n
          rw [upd_same, upd_same, e3]
/-- One of the one kind asks both. -/
theorem rel_ask {S T : St} (R : Rel S T) (hs : ∀ n o, S.hold n o ≤ 4) (ht : ∀ n o, T.hold n o ≤ 4) {o : Nat} {n : ByteArray} (ho : o % 2 = 0) (hn : Xn n) (m : Int) : (askF S o n m).2 = (askF T o n m).2 ∧ Rel (askF S o n m).1 (askF T o n m).1 := by
  obtain ⟨h1, h2, h3⟩ := ask_at R ho hn m
  refine ⟨h1, ?_, ?_, inv_ask R.is hs o n m, inv_ask R.it ht o n m, sep_ask R.ss ⟨fun _ => ho, fun _ => hn⟩ m, sep_ask R.st ⟨fun _ => ho, fun _ => hn⟩ m⟩
  · intro n' h
    by_cases e : n' = n
    · subst e; exact h2
    · rw [(ask_only m e).1, (ask_only m e).1]; exact R.hold n' h
  · intro n' h
    by_cases e : n' = n
    · subst e; exact h3
    · rw [(ask_only m e).2, (ask_only m e).2]; exact R.queue n' h
theorem sep_freed {S : St} (s : Sep S) (id : Nat) : Sep (freedG S id) :=
  ⟨fun n o h => by
    have h : (if o = id then 0 else S.hold n o) ≠ 0 := h
    by_cases e : o = id
    · rw [if_pos e] at h; exact absurd rfl h
    · rw [if_neg e] at h; exact s.hold n o h, fun n o m h => s.queue n o m (mem_rem.1 (show (o, m) ∈ rem (S.queue n) id from h)).1⟩
theorem rel_freed {S T : St} (R : Rel S T) (id : Nat) : Rel (freedG S id) (freedG T id) where
  hold := fun n h => by
    funext o
    show (if o = id then 0 else S.hold n o) = (if o = id then 0 else T.hold n o)
    rw [R.hold n h]
  queue := fun n h => by
    show rem (S.queue n) id = rem (T.queue n) id
    rw [R.queue n h]
  is := inv_freed R.is id
  it := inv_freed R.it id
  ss := sep_freed R.ss id
  st := sep_freed R.st id
theorem sep_given {S : St} (s : Sep S) {nm : ByteArray} {o m : Nat} {r : List (Nat × Nat)} (hq : S.queue nm = (o, m) :: r) : Sep (given S nm o m r) :=
  have hk := s.queue nm o m (by rw [hq]; simp)
  ⟨fun n' o' h' => by
    have h' : upd S.hold nm (upd (S.hold nm) o m) n' o' ≠ 0 := h'
    by_cases e : n' = nm
    · subst e
      rw [upd_same] at h'
      by_cases eo : o' = o
      · subst eo; exact hk
      · rw [upd_other _ _ eo] at h'; exact s.hold n' o' h'
    · rw [upd_other _ _ e] at h'; exact s.hold n' o' h', fun n' o' m' h' => by
    have h' : (o', m') ∈ upd S.queue nm r n' := h'
    by_cases e : n' = nm
    · subst e
      rw [upd_same] at h'
      exact s.queue n' o' m' (by rw [hq]; exact List.mem_cons_of_mem _ h')
    · rw [upd_other _ _ e] at h'; exact s.queue n' o' m' h'⟩
theorem rel_given {S T : St} (R : Rel S T) {nm : ByteArray} (hx : Xn nm) {o m : Nat} {r : List (Nat × Nat)} (hq : S.queue nm = (o, m) :: r) (hL : Lets (S.hold nm) o m) : Rel (given S nm o m r) (given T nm o m r) where
  hold := fun n h => by
    show upd S.hold nm (upd (S.hold nm) o m) n = upd T.hold nm (upd (T.hold nm) o m) n
    by_cases e : n = nm
    · subst e; rw [upd_same, upd_same, R.hold n h]
    · rw [upd_other _ _ e, upd_other _ _ e]; exact R.hold n h
  queue := fun n h => by
    show upd S.queue nm r n = upd T.queue nm r n
    by_cases e : n = nm
    · subst e; rw [upd_same, upd_same]
    · rw [upd_other _ _ e, upd_other _ _ e]; exact R.queue n h
  is := inv_given R.is hq hL
  it := inv_given R.it (by rw [← R.queue nm hx]; exact hq) (by rw [← R.hold nm hx]; exact hL)
  ss := sep_given R.ss hq
  st := sep_given R.st (by rw [← R.queue nm hx]; exact hq)
theorem path_uncons {nm : ByteArray} {S S' : St} {outs : List Nat} (h : Path nm S S' outs) : (outs = [] ∧ S' = S) ∨ ∃ o m r outs', outs = o :: outs' ∧ S.queue nm = (o, m) :: r ∧ Lets (S.hold nm) o m ∧ Path nm (given S nm o m r) S' outs' := by
  induction h with
  | start => exact .inl ⟨rfl, rfl⟩
  | @snoc S1 outs o m r hp hq hL ih =>
    rcases ih with ⟨rfl, rfl⟩ | ⟨o1, m1, r1, outs1, rfl, h1, h2, h3⟩
    · exact .inr ⟨o, m, r, [], rfl, hq, hL, .start⟩
    · exact .inr ⟨o1, m1, r1, outs1 ++ [o], rfl, h1, h2, .snoc h3 hq hL⟩
theorem path_rel {nm : ByteArray} (hx : Xn nm) : ∀ (outs : List Nat) {S T S' T' : St} {outs' : List Nat}, Rel S T → Path nm S S' outs → Done S' nm → Path nm T T' outs' → Done T' nm → outs = outs' ∧ Rel S' T' := by
  intro outs
  induction outs with
  | nil =>
    intro S T S' T' outs' R h1 d1 h2 d2
    rcases path_uncons h1 with ⟨_, rfl⟩ | ⟨o, m, r, l, e, _⟩
    · rcases path_uncons h2 with ⟨rfl, rfl⟩ | ⟨o, m, r, l, _, hq, hL, _⟩
      · exact ⟨rfl, R⟩
      · exfalso
        rw [← R.queue nm hx] at hq
        rw [← R.hold nm hx] at hL
        rcases d1 with d1 | ⟨o', m', r', hq', hL'⟩
        · rw [d1] at hq; cases hq
        · rw [hq'] at hq; cases hq; exact hL' hL
    · cases e
  | cons a l ih =>
    intro S T S' T' outs' R h1 d1 h2 d2
    rcases path_uncons h1 with ⟨e, _⟩ | ⟨o, m, r, l1, e, hq, hL, hp⟩
    · cases e
    · cases e
      have hq2 := hq
      have hL2 := hL
      rw [R.queue nm hx] at hq2
      rw [R.hold nm hx] at hL2
      rcases path_uncons h2 with ⟨rfl, rfl⟩ | ⟨o2, m2, r2, l2, rfl, hq3, hL3, hp2⟩
      · exfalso
        rcases d2 with d2 | ⟨o', m', r', hq', hL'⟩
        · rw [d2] at hq2; cases hq2
        · rw [hq'] at hq2; cases hq2; exact hL' hL2
      · rw [hq2] at hq3
        cases hq3
        obtain ⟨e1, e2⟩ := ih (rel_given R hx hq hL) hp d1 hp2 d2
        exact ⟨by rw [e1], e2⟩
theorem all_inv {ks : List ByteArray} {S S' : St} {outs : List Nat} (h : All ks S S' outs) : (ks = [] ∧ S' = S ∧ outs = []) ∨ ∃ ns n S1 a b, ks = ns ++ [n] ∧ outs = a ++ b ∧ All ns S S1 a ∧ Path n S1 S' b ∧ Done S' n := by
  cases h with
  | start => exact .inl ⟨rfl, rfl, rfl⟩
  | snoc h1 h2 h3 => exact .inr ⟨_, _, _, _, _, rfl, rfl, h1, h2, h3⟩
theorem all_rel {ks : List ByteArray} {S S' : St} {outs : List Nat} (h : All ks S S' outs) : ∀ {T T' : St} {outs' : List Nat}, (∀ n ∈ ks, Xn n) → Rel S T → All ks T T' outs' → outs = outs' ∧ Rel S' T' := by
  induction h with
  | start =>
    intro T T' outs' _ R h
    rcases all_inv h with ⟨_, rfl, rfl⟩ | ⟨ns, n, _, _, _, e, _⟩
    · exact ⟨rfl, R⟩
    · exact absurd (congrArg List.length e) (by simp)
  | @snoc ns n S S1 S2 outs more _ hp hd ih =>
    intro T T' outs' hx R h
    rcases all_inv h with ⟨e, _⟩ | ⟨ns', n', T1, a, b, e, rfl, h1, h2, h3⟩
    · exact absurd (congrArg List.length e) (by simp)
    · obtain ⟨e1, e2⟩ := List.append_inj' e rfl
      cases e1
      cases e2
      obtain ⟨rfl, R1⟩ := ih (fun n hn => hx n (List.mem_append.2 (.inl hn))) R h1
      obtain ⟨rfl, R2⟩ := path_rel (hx n (by simp)) _ R1 hp hd h2 h3
      exact ⟨rfl, R2⟩
theorem sorted_unique : ∀ (ns ks : List ByteArray), (ns.Pairwise fun a b => a.data.toList ≤ b.data.toList ∧ a ≠ b) → (ks.Pairwise fun a b => a.data.toList ≤ b.data.toList ∧ a ≠ b) → (∀ n, n ∈ ns ↔ n ∈ ks) → ns = ks
  | [], [], _, _, _ => rfl
  | [], b :: _, _, _, h => absurd ((h b).2 (by simp)) (by simp)
  | a :: _, [], _, _, h => absurd ((h a).1 (by simp)) (by simp)
  | a :: r, b :: l, h1, h2, h => by
    rw [List.pairwise_cons] at h1 h2
    have hab : a = b := by
      rcases List.mem_cons.1 ((h a).1 (by simp)) with e | ha
      · exact e
      · rcases List.mem_cons.1 ((h b).2 (by simp)) with e | hb
        · exact e.symm
        · have h3 := (h2.1 a ha).1
          have h4 := (h1.1 b hb).1
          have h5 := List.le_antisymm h4 h3
          cases a; cases b
          simp only [ByteArray.mk.injEq]
          exact Array.toList_inj.1 h5
    subst hab
    rw [sorted_unique r l h1.2 h2.2 (fun n => ?_)]
    constructor
    · intro hn
      rcases List.mem_cons.1 ((h n).1 (List.mem_cons_of_mem _ hn)) with e | h'
      · exact absurd e.symm (h1.1 n hn).2
      · exact h'
    · intro hn
      rcases List.mem_cons.1 ((h n).2 (List.mem_cons_of_mem _ hn)) with e | h'
      · exact absurd e.symm (h2.1 n hn).2
      · exact h'
theorem names_unique {f : ByteArray → Nat} {ns ks : List ByteArray} (h1 : Names f ns) (h2 : Names f ks) : ns = ks := sorted_unique ns ks h1.sorted h2.sorted (fun n => (h1.mem n).trans (h2.mem n).symm)
/-- One of the one kind is freed in both. -/
theorem rel_free {S T S' T' : St} (R : Rel S T) {id : Nat} (ho : id % 2 = 0) {ns ks : List ByteArray} {outs outs' : List Nat} (h1 : Names (want S id) ns) (h2 : Names (want T id) ks) (a1 : All ns (freedG S id) S' outs) (a2 : All ks (freedG T id) T' outs') : outs = outs' ∧ Rel S' T' := by
  have hw : want S id = want T id := by
    funext n
    unfold want
    rw [rel_held R ho, rel_waits R ho]
  rw [← hw] at h2
  obtain rfl := names_unique h1 h2
  refine all_rel a1 (fun n hn => ?_) (rel_freed R id) a2
  rcases want_iff.1 ((h1.mem n).1 hn) with h | ⟨h, rfl⟩
  · rw [← R.is.cons] at h
    exact (R.ss.hold n id h).2 ho
  · exact x_waits R.is R.ss ho h
theorem rel_symm {S T : St} (R : Rel S T) : Rel T S := ⟨fun n h => (R.hold n h).symm, fun n h => (R.queue n h).symm, R.it, R.is, R.st, R.ss⟩
theorem rel_edge {S T : St} (R : Rel S T) {a b : Nat} (ha : a % 2 = 0) (h : Edge S a b) : Edge T a b ∧ b % 2 = 0 := by
  have e := rel_waits R ha
  have hx := x_waits R.is R.ss ha h.1
  unfold Edge at h ⊢
  rw [← e, ← R.hold _ hx, ← R.queue _ hx]
  refine ⟨h, ?_⟩
  rcases h.2 with ⟨_, h0, _⟩ | h
  · exact (R.ss.hold _ _ h0).1 hx
  · have hm : b ∈ (S.queue (S.waits a).1).map (·.1) := (List.takeWhile_sublist _).subset h
    obtain ⟨⟨o, m⟩, hp, rfl⟩ := List.mem_map.1 hm
    exact (R.ss.queue _ _ _ hp).1 hx
theorem rel_te {S T : St} (R : Rel S T) {a b : Nat} (ha : a % 2 = 0) (h : TE S a b) : TE T a b ∧ b % 2 = 0 := by
  induction h with
  | one h => exact ⟨.one (rel_edge R ha h).1, (rel_edge R ha h).2⟩
  | snoc _ h ih => exact ⟨.snoc ih.1 (rel_edge R ih.2 h).1, (rel_edge R ih.2 h).2⟩
/-- Both tell the same victim. -/
theorem rel_victim {S T : St} (R : Rel S T) {id : Nat} (ho : id % 2 = 0) {W W' V V' : World} {e e' : Ending} (h1 : VictimTells W S id e W') (h2 : VictimTells V T id e' V') : ∃ (G : Nat) (b : Bool), e = .returned (.tuple #[.int .u64 (G : Int), .bool b]) ∧ e' = .returned (.tuple #[.int .u64 (G : Int), .bool b]) := by
  have R' := rel_symm R
  rcases h1.2 with ⟨n1, rfl⟩ | ⟨y1, G, rfl, g1, m1⟩
  · rcases h2.2 with ⟨n2, rfl⟩ | ⟨y2, _⟩
    · exact ⟨0, false, rfl, rfl⟩
    · exact absurd (rel_te R' ho y2).1 n1
  · rcases h2.2 with ⟨n2, _⟩ | ⟨y2, K, rfl, g2, m2⟩
    · exact absurd (rel_te R ho y1).1 n2
    · have hG : TE S id G ∧ TE S G id := g1.elim (fun e => by rw [e]; exact ⟨y1, y1⟩) (fun h => h)
      have hK : TE T id K ∧ TE T K id := g2.elim (fun e => by rw [e]; exact ⟨y2, y2⟩) (fun h => h)
      have t1 := rel_te R ho hG.1
      have t2 := rel_te R' ho hK.1
      have h3 := m2 G t1.1 (rel_te R t1.2 hG.2).1
      have h4 := m1 K t2.1 (rel_te R' t2.2 hK.2).1
      obtain rfl : G = K := Nat.le_antisymm h3 h4
      exact ⟨G, true, rfl, rfl⟩
end Go.Proofs.Ythanjncpgcmnaaa
