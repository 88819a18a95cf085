/- LockFair: owners that wait for one name, in order: what it means. -/
import Derived.Test.YthanjncpgcmnaaaLckFree
import Derived.Test.YthanjncpgcmnaaaLckMore
namespace Go.Proofs.Ythanjncpgcmnaaa
open Go.ChangeShapes Go.WideShapes Go.ChangeAt Go.RowKit

/-- Those of hs hold a; those of q wait for it; nothing else is held or waited for. -/
structure Fair (S : St) (hs : List Nat) (q : List (Nat × Nat)) : Prop where
  hold : ∀ o, S.hold nA o ≠ 0 ↔ o ∈ hs
  other : ∀ n, n ≠ nA → ∀ o, S.hold n o = 0
  queue : S.queue nA = q
  empty : ∀ n, n ≠ nA → S.queue n = []
  cons : ∀ n o, S.hold n o = S.held o n
  free : ∀ o, o ∉ q.map (·.1) → (S.waits o).2 = 0
  wf : Wf S
  modes : ∀ p ∈ q, 1 ≤ p.2
  apart : ∀ o ∈ hs, o ∉ q.map (·.1)
  nodup : hs.Nodup
theorem fair_given {S : St} {hs : List Nat} {o m : Nat} {r : List (Nat × Nat)} (F : Fair S hs ((o, m) :: r)) : Fair (given S nA o m r) (hs ++ [o]) r where
  hold := fun a => by
    show upd S.hold nA (upd (S.hold nA) o m) nA a ≠ 0 ↔ _
    have hm := F.modes (o, m) (by simp)
    simp only at hm
    rw [upd_same]
    by_cases e : a = o
    · subst e; rw [upd_same]; simp; omega
    · rw [upd_other _ _ e, F.hold a]; simp [e]
  other := fun n e a => by
    show upd S.hold nA _ n a = 0
    rw [upd_other _ _ e]; exact F.other n e a
  queue := by show upd S.queue nA r nA = r; rw [upd_same]
  empty := fun n e => by show upd S.queue nA r n = []; rw [upd_other _ _ e]; exact F.empty n e
  cons := fun n a => by
    show upd S.hold nA (upd (S.hold nA) o m) n a = upd S.held o (upd (S.held o) nA m) a n
    by_cases e : n = nA
    · subst e
      rw [upd_same]
      by_cases e2 : a = o
      · subst e2; rw [upd_same, upd_same, upd_same]
      · rw [upd_other _ _ e2, upd_other _ _ e2]; exact F.cons _ _
    · rw [upd_other _ _ e]
      by_cases e2 : a = o
      · subst e2; rw [upd_same, upd_other _ _ e]; exact F.cons _ _
      · rw [upd_other _ _ e2]; exact F.cons _ _
  free := fun a ha => by
    show (upd S.waits o (⟨#[]⟩, 0) a).2 = 0
    by_cases e : a = o
    · subst e; rw [upd_same]
    · rw [upd_other _ _ e]; exact F.free a (by simp only [List.map_cons, List.mem_cons, not_or]; exact ⟨e, ha⟩)
  wf := wf_given F.wf F.queue
  modes := fun p hp => F.modes p (by simp [hp])
  apart := fun a ha h => by
    rcases List.mem_append.1 ha with ha | ha
    · exact F.apart a ha (by simp only [List.map_cons, List.mem_cons]; exact .inr h)
    · have := F.wf.once nA
      rw [F.queue, List.map_cons, List.nodup_cons] at this
      rw [List.mem_singleton] at ha
      subst ha; exact this.1 h
  nodup := List.nodup_append.2 ⟨F.nodup, by simp, fun a ha b hb e => by
    rw [List.mem_singleton] at hb
    subst hb; subst e
    exact F.apart _ ha (by simp)⟩
theorem fair_path {S S' : St} {outs : List Nat} (h : Path nA S S' outs) {hs : List Nat} {q : List (Nat × Nat)} (F : Fair S hs q) : ∃ q', q.map (·.1) = outs ++ q'.map (·.1) ∧ Fair S' (hs ++ outs) q' := by
  induction h with
  | start => exact ⟨q, rfl, by rw [List.append_nil]; exact F⟩
  | @snoc S1 outs o m r _ hq _ ih =>
    obtain ⟨q1, e1, F1⟩ := ih
    have e2 := F1.queue
    rw [hq] at e2
    subst e2
    refine ⟨r, by rw [e1]; simp, ?_⟩
    rw [← List.append_assoc]
    exact fair_given F1
theorem path_empty {n : ByteArray} {S S' : St} {outs : List Nat} (h : Path n S S' outs) (hq : S.queue n = []) : S' = S ∧ outs = [] := by
  have hl := path_len h
  rw [hq] at hl
  cases h with
  | start => exact ⟨rfl, rfl⟩
  | snoc => simp at hl
theorem fair_all {ns : List ByteArray} {S S' : St} {outs : List Nat} (h : All ns S S' outs) {hs : List Nat} {q : List (Nat × Nat)} (F : Fair S hs q) : ∃ q', q.map (·.1) = outs ++ q'.map (·.1) ∧ Fair S' (hs ++ outs) q' := by
  induction h with
  | start => exact ⟨q, rfl, by rw [List.append_nil]; exact F⟩
  | @snoc ns n S S1 S2 outs more _ hp _ ih =>
    obtain ⟨q1, e1, F1⟩ := ih F
    by_cases e : n = nA
    · subst e
      obtain ⟨q2, e2, F2⟩ := fair_path hp F1
      exact ⟨q2, by rw [e1, e2, List.append_assoc], by rw [← List.append_assoc]; exact F2⟩
    · obtain ⟨rfl, rfl⟩ := path_empty hp (F1.empty n e)
      exact ⟨q1, by rw [List.append_nil]; exact e1, by rw [List.append_nil]; exact F1⟩
theorem fair_freed {S : St} {id : Nat} {hs : List Nat} {q : List (Nat × Nat)} (F : Fair S (id :: hs) q) : Fair (freed S id) hs q where
  hold := fun o => by
    show (if o = id then 0 else S.hold nA o) ≠ 0 ↔ _
    have hn := F.nodup
    rw [List.nodup_cons] at hn
    by_cases e : o = id
    · subst e; rw [if_pos rfl]; simp [hn.1]
    · rw [if_neg e, F.hold o]; simp [e]
  other := fun n e o => by
    show (if o = id then 0 else S.hold n o) = 0
    split
    · rfl
    · exact F.other n e o
  queue := F.queue
  empty := F.empty
  cons := fun n o => by
    show (if o = id then 0 else S.hold n o) = upd S.held id (fun _ => 0) o n
    by_cases e : o = id
    · subst e; rw [if_pos rfl, upd_same]
    · rw [if_neg e, upd_other _ _ e]; exact F.cons n o
  free := fun o ho => by
    show (upd S.waits id (⟨#[]⟩, 0) o).2 = 0
    by_cases e : o = id
    · subst e; rw [upd_same]
    · rw [upd_other _ _ e]; exact F.free o ho
  wf := wf_freed F.wf (F.free id (F.apart id (by simp))) (fun n o m hm => by
    by_cases e : n = nA
    · subst e; rw [F.queue] at hm; exact F.modes _ hm
    · rw [F.empty n e] at hm; cases hm)
  modes := F.modes
  apart := fun o ho => F.apart o (by simp [ho])
  nodup := (List.nodup_cons.1 F.nodup).2
theorem names_only {f : ByteArray → Nat} {ns : List ByteArray} (h : Names f ns) {n : ByteArray} (hf : ∀ nm, f nm ≠ 0 ↔ nm = n) : ns = [n] := by
  have hm : ∀ x ∈ ns, x = n := fun x hx => (hf x).1 ((h.mem x).1 hx)
  have h1 : n ∈ ns := (h.mem n).2 ((hf n).2 rfl)
  match ns, hm, h1, h.sorted with
  | [a], hm, _, _ => rw [hm a (by simp)]
  | a :: b :: r, hm, _, hs =>
    have := (List.pairwise_cons.1 hs).1 b (by simp)
    exact absurd ((hm a (by simp)).trans (hm b (by simp)).symm) this.2
theorem all_done {ns : List ByteArray} {n : ByteArray} {S S' : St} {outs : List Nat} (h : All ns S S' outs) (e : ns = [n]) : Done S' n := by
  cases h with
  | start => cases e
  | @snoc ns' n' S1 S2 S3 outs more h1 hp hd =>
    have : n' = n := by
      have := congrArg List.getLast? e
      simpa using this
    subst this
    exact hd
/-- One of the holders gives up. -/
theorem fair_next {S S' : St} {id : Nat} {hs : List Nat} {q : List (Nat × Nat)} (F : Fair S (id :: hs) q) {ns : List ByteArray} {outs : List Nat} (hn : Names (S.held id) ns) (h : All ns (freed S id) S' outs) :
    ∃ q', q.map (·.1) = outs ++ q'.map (·.1) ∧ Fair S' (hs ++ outs) q' ∧ Done S' nA := by
  obtain ⟨q', e, F'⟩ := fair_all h (fair_freed F)
  refine ⟨q', e, F', all_done h (names_only hn (fun nm => ?_))⟩
  rw [← F.cons]
  by_cases e : nm = nA
  · subst e; simp [F.hold]
  · simp [F.other nm e, e]
theorem fair_end {S : St} {q : List (Nat × Nat)} (F : Fair S [] q) (hd : Done S nA) : q = [] := by
  rcases hd with hd | ⟨o, m, r, _, hl⟩
  · exact F.queue.symm.trans hd
  · exact absurd (fun a _ h0 => absurd ((F.hold a).1 h0) (by simp)) hl
theorem fair_start : Fair (granted S0 1 nA 4) [1] [] where
  hold := fun o => by
    show upd S0.hold nA (upd (S0.hold nA) 1 4) nA o ≠ 0 ↔ _
    rw [upd_same]
    by_cases e : o = 1
    · subst e; simp
    · rw [upd_other _ _ e]; simp [S0, e]
  other := fun n e o => by
    show upd S0.hold nA _ n o = 0
    rw [upd_other _ _ e]; rfl
  queue := rfl
  empty := fun _ _ => rfl
  cons := fun n o => by
    show upd S0.hold nA (upd (S0.hold nA) 1 4) n o = upd S0.held 1 (upd (S0.held 1) nA 4) o n
    by_cases e : n = nA
    · subst e
      rw [upd_same]
      by_cases e2 : o = 1
      · subst e2; rw [upd_same, upd_same, upd_same]
      · rw [upd_other _ _ e2, upd_other _ _ e2]; rfl
    · rw [upd_other _ _ e]
      by_cases e2 : o = 1
      · subst e2; rw [upd_same, upd_other _ _ e]; rfl
      · rw [upd_other _ _ e2]; rfl
  free := fun o _ => by
    show (upd S0.waits 1 (⟨#[]⟩, 0) o).2 = 0
    by_cases e : o = 1
    · subst e; rw [upd_same]
    · rw [upd_other _ _ e]; rfl
  wf := ⟨(fun n o m h => by cases h), fun n => by show (([] : List (Nat × Nat)).map _).Nodup; simp⟩
  modes := fun p h => by cases h
  apart := fun o _ => by simp
  nodup := by simp
theorem fair_lined {S : St} {hs : List Nat} {q : List (Nat × Nat)} (F : Fair S hs q) {o m : Nat} (ho : o ∉ hs) (hq : o ∉ q.map (·.1)) (hm : 1 ≤ m) : Fair (lined S o nA m) hs (q ++ [(o, m)]) where
  hold := F.hold
  other := F.other
  queue := by show upd S.queue nA (S.queue nA ++ [(o, m)]) nA = _; rw [upd_same, F.queue]
  empty := fun n e => by show upd S.queue nA (S.queue nA ++ [(o, m)]) n = []; rw [upd_other _ _ e]; exact F.empty n e
  cons := F.cons
  free := fun a ha => by
    simp only [List.map_append, List.map_cons, List.map_nil, List.mem_append, List.mem_singleton, not_or] at ha
    show (upd S.waits o (nA, m) a).2 = 0
    rw [upd_other _ _ ha.2]; exact F.free a ha.1
  wf := ⟨(fun n a k hk => by
      have hk' : (a, k) ∈ upd S.queue nA (S.queue nA ++ [(o, m)]) n := hk
      show upd S.waits o (nA, m) a = (n, k)
      by_cases e : n = nA
      · subst e
        rw [upd_same, F.queue] at hk'
        rcases List.mem_append.1 hk' with h | h
        · rw [upd_other _ _ (fun e => hq (List.mem_map.2 ⟨_, h, e⟩))]
          exact F.wf.waits nA a k (by rw [F.queue]; exact h)
        · rw [List.mem_singleton] at h; cases h; rw [upd_same]
      · rw [upd_other _ _ e, F.empty n e] at hk'; cases hk'),
    fun n => by
      show ((upd S.queue nA (S.queue nA ++ [(o, m)]) n).map (·.1)).Nodup
      by_cases e : n = nA
      · subst e
        rw [upd_same, F.queue, List.map_append]
        have := F.wf.once nA
        rw [F.queue] at this
        exact List.nodup_append.2 ⟨this, by simp, fun a ha b hb e => by
          simp at hb; subst hb; subst e; exact hq ha⟩
      · rw [upd_other _ _ e]; exact F.wf.once n⟩
  modes := fun p hp => by
    rcases List.mem_append.1 hp with h | h
    · exact F.modes p h
    · rw [List.mem_singleton] at h; subst h; exact hm
  apart := fun a ha h => by
    simp only [List.map_append, List.map_cons, List.map_nil, List.mem_append, List.mem_singleton] at h
    rcases h with h | h
    · exact F.apart a ha h
    · subst h; exact ho ha
  nodup := F.nodup
end Go.Proofs.Ythanjncpgcmnaaa
