/- Rings are made by who asks alone; where there is none, somebody does not wait: what it means. -/
import Derived.Test.YthanjncpgcmnaaaLckOps
namespace Go.Proofs.Ythanjncpgcmnaaa
open Go.ChangeShapes Go.WideShapes Go.ChangeAt Go.RowKit

/-- Whoever waits first for a name is kept from it. -/
def Stuck (S : St) : Prop := ∀ n, Done S n
def Acyc (S : St) : Prop := ∀ z, ¬ TE S z z
def Sub (S' S : St) : Prop := ∀ a b, Edge S' a b → Edge S a b
/-- Apart from one's own, no edges are new. -/
def Near (S' S : St) (o : Nat) : Prop := ∀ a b, a ≠ o → b ≠ o → Edge S' a b → Edge S a b
theorem te_head {S : St} {a b : Nat} (h : TE S a b) : (S.waits a).2 ≠ 0 := by
  induction h with
  | one h => exact h.1
  | snoc _ _ ih => exact ih
theorem te_trans {S : St} {a b c : Nat} (h : TE S a b) (k : TE S b c) : TE S a c := by
  induction k with
  | one e => exact .snoc h e
  | snoc _ e ih => exact .snoc ih e
theorem te_sub {S' S : St} (h : Sub S' S) {a b : Nat} (k : TE S' a b) : TE S a b := by
  induction k with
  | one e => exact .one (h _ _ e)
  | snoc _ e ih => exact .snoc ih (h _ _ e)
theorem sub_refl (S : St) : Sub S S := fun _ _ h => h
theorem sub_trans {A B C : St} (h : Sub A B) (k : Sub B C) : Sub A C := fun a b e => k a b (h a b e)
theorem acyc_sub {S' S : St} (h : Sub S' S) (k : Acyc S) : Acyc S' := fun z e => k z (te_sub h e)
theorem near_sub {S'' S' S : St} {o : Nat} (h : Sub S'' S') (k : Near S' S o) : Near S'' S o := fun a b ha hb e => k a b ha hb (h a b e)
theorem near_path {S' S : St} {o : Nat} (h : Near S' S o) {a b : Nat} (k : TE S' a b) (ha : a ≠ o) : b = o ∨ (b ≠ o ∧ (TE S a b ∨ (TE S' a o ∧ TE S' o b))) := by
  induction k with
  | @one b e =>
    by_cases hb : b = o
    · exact .inl hb
    · exact .inr ⟨hb, .inl (.one (h _ _ ha hb e))⟩
  | @snoc b c k e ih =>
    by_cases hc : c = o
    · exact .inl hc
    · refine .inr ⟨hc, ?_⟩
      rcases ih with hb | ⟨hb, h1 | ⟨h1, h2⟩⟩
      · subst hb; exact .inr ⟨k, .one e⟩
      · exact .inl (.snoc h1 (h _ _ hb hc e))
      · exact .inr ⟨h1, .snoc h2 e⟩
theorem near_acyc {S' S : St} {o : Nat} (h : Near S' S o) (k : Acyc S) (ho : ¬ TE S' o o) : Acyc S' := fun z e => by
  by_cases hz : z = o
  · subst hz; exact ho e
  · rcases near_path h e hz with h1 | ⟨_, h1 | ⟨h1, h2⟩⟩
    · exact hz h1
    · exact k z h1
    · exact ho (te_trans h2 h1)
theorem ahead_mid {q : List (Nat × Nat)} {i o m a b : Nat} (ha : a ≠ o) (hb : b ≠ o) (h : b ∈ ahead (mid q i o m) a) : b ∈ ahead q a := by
  have e : q.map (·.1) = (q.take i).map (·.1) ++ (q.drop i).map (·.1) := by rw [← List.map_append, List.take_append_drop]
  unfold ahead at h ⊢
  rw [mid, List.map_append, List.map_cons, List.takeWhile_append] at h
  rw [e, List.takeWhile_append]
  split at h
  · rename_i h1
    rw [if_pos h1]
    rcases List.mem_append.1 h with h | h
    · exact List.mem_append.2 (.inl h)
    · rw [List.takeWhile_cons_of_pos (by simpa using fun e => ha e.symm)] at h
      rcases List.mem_cons.1 h with h | h
      · exact absurd h hb
      · exact List.mem_append.2 (.inr h)
  · rename_i h1
    rw [if_neg h1]; exact h
theorem ahead_rem {q : List (Nat × Nat)} {id a b : Nat} (ha : a ≠ id) (h : b ∈ ahead (rem q id) a) : b ∈ ahead q a := by
  unfold ahead at h ⊢
  induction q with
  | nil => exact h
  | cons p r ih =>
    by_cases hp : p.1 = id
    · rw [show rem (p :: r) id = rem r id from List.filter_cons_of_neg (by simpa using hp)] at h
      rw [List.map_cons, List.takeWhile_cons_of_pos (by simp; intro e; exact ha (by rw [← e]; exact hp))]
      exact List.mem_cons_of_mem _ (ih h)
    · rw [show rem (p :: r) id = p :: rem r id from List.filter_cons_of_pos (by simpa using hp), List.map_cons] at h
      rw [List.map_cons]
      by_cases hpa : p.1 = a
      · rw [List.takeWhile_cons_of_neg (by simpa using hpa)] at h; cases h
      · rw [List.takeWhile_cons_of_pos (by simpa using hpa)] at h ⊢
        rcases List.mem_cons.1 h with h | h
        · exact List.mem_cons.2 (.inl h)
        · exact List.mem_cons_of_mem _ (ih h)
theorem near_granted (S : St) (o : Nat) (n : ByteArray) (m : Nat) : Near (granted S o n m) S o := fun a b ha hb h => by
  have hw : (granted S o n m).waits a = S.waits a := upd_other _ _ ha
  have hh : ∀ n', (granted S o n m).hold n' b = S.hold n' b := fun n' => by
    show upd S.hold n (upd (S.hold n) o m) n' b = _
    by_cases e : n' = n
    · subst e; rw [upd_same, upd_other _ _ hb]
    · rw [upd_other _ _ e]
  unfold Edge at h ⊢
  rw [hw, hh] at h
  exact h
theorem near_lined (S : St) (o : Nat) (n : ByteArray) (i m : Nat) : Near (linedAt S o n i m) S o := fun a b ha hb h => by
  have hw : (linedAt S o n i m).waits a = S.waits a := upd_other _ _ ha
  unfold Edge at h ⊢
  rw [hw] at h
  refine ⟨h.1, ?_⟩
  rcases h.2 with h2 | h2
  · exact .inl h2
  · have h2 : b ∈ ahead (upd S.queue n (mid (S.queue n) i o m) (S.waits a).1) a := h2
    by_cases e : (S.waits a).1 = n
    · rw [e, upd_same] at h2
      rw [e]
      exact .inr (ahead_mid ha hb h2)
    · rw [upd_other _ _ e] at h2; exact .inr h2
theorem near_refl (S : St) (o : Nat) : Near S S o := fun _ _ _ _ h => h
theorem near_ask (S : St) (o : Nat) (n : ByteArray) (m : Int) : Near (askF S o n m).1 S o := by
  unfold askF
  repeat' split
  · exact near_refl S o
  · exact near_refl S o
  · exact near_refl S o
  · exact near_granted S o n _
  · exact near_lined S o n _ _
  · exact near_lined S o n _ _
/-- What is not waited for makes no ring. -/
theorem acyc_ask {S : St} (k : Acyc S) (o : Nat) (n : ByteArray) (m : Int) (h : (askF S o n m).2 ≠ 10) : Acyc (askF S o n m).1 := by
  unfold askF at h ⊢
  split
  · exact k
  · split
    · exact k
    · split
      · exact k
      · split
        · rename_i h1 h2 h3 h4
          refine near_acyc (near_granted S o n _) k (fun e => te_head e ?_)
          show (upd S.waits o _ o).2 = 0
          rw [upd_same]
        · rename_i h1 h2 h3 h4
          rw [if_neg h1, if_neg h2, if_neg h3, if_neg h4] at h
          exact absurd rfl h
theorem sub_freed (S : St) (id : Nat) : Sub (freedG S id) S := fun a b h => by
  by_cases ha : a = id
  · subst ha
    exfalso
    apply h.1
    show (upd S.waits a _ a).2 = 0
    rw [upd_same]
  · have hw : (freedG S id).waits a = S.waits a := upd_other _ _ ha
    unfold Edge at h ⊢
    rw [hw] at h
    refine ⟨h.1, ?_⟩
    rcases h.2 with ⟨h1, h2, h3⟩ | h2
    · have e : (freedG S id).hold (S.waits a).1 b = if b = id then 0 else S.hold (S.waits a).1 b := rfl
      rw [e] at h2 h3
      by_cases hb : b = id
      · rw [if_pos hb] at h2; exact absurd rfl h2
      · rw [if_neg hb] at h2 h3; exact .inl ⟨h1, h2, h3⟩
    · exact .inr (ahead_rem ha h2)
theorem sub_given {S : St} (I : Inv S) {nm : ByteArray} {o m : Nat} {r : List (Nat × Nat)} (hq : S.queue nm = (o, m) :: r) : Sub (given S nm o m r) S := fun a b h => by
  by_cases ha : a = o
  · subst ha
    exfalso
    apply h.1
    show (upd S.waits a _ a).2 = 0
    rw [upd_same]
  · have hw : (given S nm o m r).waits a = S.waits a := upd_other _ _ ha
    unfold Edge at h ⊢
    rw [hw] at h
    refine ⟨h.1, ?_⟩
    have hback := I.back a h.1
    by_cases en : (S.waits a).1 = nm
    · rw [en] at h hback ⊢
      rw [hq]
      have hah : ahead ((o, m) :: r) a = o :: ahead r a := by
        unfold ahead
        rw [List.map_cons, List.takeWhile_cons_of_pos (by simpa using fun e => ha e.symm)]
      rw [hah]
      have eh : (given S nm o m r).hold nm b = upd (S.hold nm) o m b := by
        show upd S.hold nm (upd (S.hold nm) o m) nm b = _
        rw [upd_same]
      have eq : (given S nm o m r).queue nm = r := by
        show upd S.queue nm r nm = _
        rw [upd_same]
      rw [eh, eq] at h
      rcases h.2 with ⟨h1, h2, h3⟩ | h2
      · by_cases hb : b = o
        · exact .inr (by rw [hb]; simp)
        · rw [upd_other _ _ hb] at h2 h3; exact .inl ⟨h1, h2, h3⟩
      · exact .inr (List.mem_cons_of_mem _ h2)
    · have eh : (given S nm o m r).hold (S.waits a).1 b = S.hold (S.waits a).1 b := by
        show upd S.hold nm (upd (S.hold nm) o m) _ b = _
        rw [upd_other _ _ en]
      have eq : (given S nm o m r).queue (S.waits a).1 = S.queue (S.waits a).1 := by
        show upd S.queue nm r _ = _
        rw [upd_other _ _ en]
      rw [eh, eq] at h
      exact h.2
theorem sub_path {nm : ByteArray} {S S' : St} {outs : List Nat} (I : Inv S) (h : Path nm S S' outs) : Sub S' S := by
  induction h with
  | start => exact sub_refl S
  | snoc h hq hL ih => exact sub_trans (sub_given (served_path I h).inv hq) ih
theorem sub_all {ns : List ByteArray} {S S' : St} {outs : List Nat} (I : Inv S) (h : All ns S S' outs) : Sub S' S := by
  induction h with
  | start => exact sub_refl _
  | snoc h hp _ ih => exact sub_trans (sub_path (served_all I h).inv hp) (ih I)
theorem path_other {nm : ByteArray} {S S' : St} {outs : List Nat} (h : Path nm S S' outs) {n : ByteArray} (hn : n ≠ nm) : S'.hold n = S.hold n ∧ S'.queue n = S.queue n := by
  induction h with
  | start => exact ⟨rfl, rfl⟩
  | @snoc S1 outs o m r _ _ _ ih =>
    refine ⟨?_, ?_⟩
    · show upd S1.hold nm _ n = _
      rw [upd_other _ _ hn]; exact ih.1
    · show upd S1.queue nm _ n = _
      rw [upd_other _ _ hn]; exact ih.2
theorem done_of {S S' : St} {n : ByteArray} (h1 : S'.hold n = S.hold n) (h2 : S'.queue n = S.queue n) (h : Done S n) : Done S' n := by
  unfold Done at h ⊢
  rw [h1, h2]; exact h
theorem all_done {ns : List ByteArray} {S S' : St} {outs : List Nat} (h : All ns S S' outs) : ∀ k, (k ∈ ns ∨ Done S k) → Done S' k := by
  induction h with
  | start =>
    rintro k (h | h)
    · cases h
    · exact h
  | @snoc ns n S S1 S2 outs more _ hp hd ih =>
    intro k h
    by_cases e : k = n
    · subst e; exact hd
    · obtain ⟨h1, h2⟩ := path_other hp e
      refine done_of h1 h2 (ih k ?_)
      rcases h with h | h
      · rcases List.mem_append.1 h with h | h
        · exact .inl h
        · rw [List.mem_singleton] at h; exact absurd h e
      · exact .inr h
theorem stuck_free {S S' : St} (I : Inv S) (k : Stuck S) {id : Nat} {ns : List ByteArray} {outs : List Nat} (h1 : Names (want S id) ns) (h2 : All ns (freedG S id) S' outs) : Stuck S' := fun n => by
  refine all_done h2 n ?_
  by_cases hn : n ∈ ns
  · exact .inl hn
  · have hw : want S id n = 0 := Classical.byContradiction fun h => hn ((h1.mem n).2 h)
    have hh : S.held id n = 0 := Classical.byContradiction fun h => want_iff.2 (.inl h) hw
    have hq : ∀ p ∈ S.queue n, p.1 ≠ id := fun p hp e => by
      obtain ⟨po, pm⟩ := p
      have h3 := I.wf.waits n po pm hp
      have h4 := I.pos n po pm hp
      have e : po = id := e
      subst e
      exact want_iff.2 (.inr (by rw [h3]; exact ⟨by omega, rfl⟩)) hw
    refine .inr (done_of (S := S) ?_ ?_ (k n))
    · funext o
      show (if o = id then 0 else S.hold n o) = _
      by_cases e : o = id
      · rw [if_pos e, e, I.cons, hh]
      · rw [if_neg e]
    · exact rem_none hq
theorem tog_joi {x a b : Int} (h : tog x a = false) : tog x (joi a b) = false := by
  by_cases hx : isM x = true
  · by_cases ha : isM a = true
    · by_cases hb : isM b = true
      · rcases isM_nat hx with rfl | rfl | rfl | rfl <;> rcases isM_nat ha with rfl | rfl | rfl | rfl <;> rcases isM_nat hb with rfl | rfl | rfl | rfl <;> revert h <;> decide
      · rw [joi_no (.inr (by simpa using hb))]; exact tog_no (.inr (by decide))
    · rw [joi_no (.inl (by simpa using ha))]; exact tog_no (.inr (by decide))
  · exact tog_no (.inl (by simpa using hx))
theorem lets_not {h : Nat → Nat} {o : Nat} {m : Int} (hn : ¬ Lets h o m) : ∃ a, a ≠ o ∧ h a ≠ 0 ∧ tog m (h a) = false := by
  refine Classical.byContradiction fun hc => hn (fun a ha h0 => ?_)
  cases e : tog m (h a)
  · exact absurd ⟨a, ha, h0, e⟩ hc
  · rfl
theorem stuck_ask {S : St} (_I : Inv S) (k : Stuck S) (hl : ∀ n o, S.hold n o ≤ 4) (o : Nat) (n : ByteArray) (m : Int) : Stuck (askF S o n m).1 := fun n' => by
  by_cases e : n' = n
  · subst e
    unfold askF
    split
    · exact k n'
    · rename_i h1
      have hm : isM m = true := by
        cases e : isM m
        · exact absurd (.inr e) h1
        · rfl
      split
      · exact k n'
      · rename_i h2
        have hw : (S.waits o).2 = 0 := Classical.byContradiction h2
        split
        · exact k n'
        · split
          · rename_i h3 h4
            rcases k n' with hq | ⟨a, ma, r, hq, hL⟩
            · exact .inl hq
            · refine .inr ⟨a, ma, r, hq, fun hL' => ?_⟩
              obtain ⟨c, hca, hc0, hct⟩ := lets_not hL
              have hho : S.hold n' o ≠ 0 := h4.1.resolve_right (fun h => by rw [h] at hq; cases hq)
              have hL' : Lets (upd S.hold n' (upd (S.hold n') o (wantM S o n' m)) n') a ma := hL'
              rw [upd_same] at hL'
              have hc := hL' c hca
              by_cases hco : c = o
              · subst hco
                rw [upd_same] at hc
                have hW := wantM_m (S := S) (o := c) (nm := n') hm (hl n' c)
                have h5 := hc (by omega)
                have e2 : (wantM S c n' m : Int) = joi (S.hold n' c) m := by
                  unfold wantM
                  rw [if_neg hho]
                  exact (joi_m (a := S.hold n' c) (b := m) (by rw [isM_iff]; have := hl n' c; omega) hm).1.symm
                rw [e2, tog_joi hct] at h5
                cases h5
              · rw [upd_other _ _ hco] at hc
                rw [hc hc0] at hct
                cases hct
          · rename_i h3 h4
            by_cases hh : S.hold n' o = 0
            · rw [if_pos hh]
              show Done (linedAt S o n' _ _) n'
              have eq : (linedAt S o n' (S.queue n').length (wantM S o n' m)).queue n' = S.queue n' ++ [(o, wantM S o n' m)] := by
                show upd S.queue n' _ n' = _
                rw [upd_same, mid_end]
              rcases k n' with hq | ⟨a, ma, r, hq, hL⟩
              · exact .inr ⟨o, wantM S o n' m, [], by rw [eq, hq]; rfl, fun hL => h4 ⟨.inr hq, hL⟩⟩
              · exact .inr ⟨a, ma, r ++ [(o, wantM S o n' m)], by rw [eq, hq]; rfl, hL⟩
            · rw [if_neg hh]
              have hnl : ¬ Lets (S.hold n') o (wantM S o n' m) := fun hL => h4 ⟨.inl hh, hL⟩
              have eq : (linedAt S o n' (fst0 (S.hold n') (S.queue n')) (wantM S o n' m)).queue n' = mid (S.queue n') (fst0 (S.hold n') (S.queue n')) o (wantM S o n' m) := by
                show upd S.queue n' _ n' = _
                rw [upd_same]
              generalize fst0 (S.hold n') (S.queue n') = i at eq
              cases i with
              | zero => exact .inr ⟨o, wantM S o n' m, S.queue n', by rw [eq]; simp [mid], hnl⟩
              | succ i =>
                rcases k n' with hq | ⟨a, ma, r, hq, hL⟩
                · exact .inr ⟨o, wantM S o n' m, [], by rw [eq, hq]; simp [mid], hnl⟩
                · exact .inr ⟨a, ma, _, by rw [eq, hq, mid, List.take_succ_cons, List.cons_append], hL⟩
  · obtain ⟨h1, h2⟩ : (askF S o n m).1.hold n' = S.hold n' ∧ (askF S o n m).1.queue n' = S.queue n' := by
      unfold askF
      repeat' split
      · exact ⟨rfl, rfl⟩
      · exact ⟨rfl, rfl⟩
      · exact ⟨rfl, rfl⟩
      · exact ⟨upd_other _ _ e, rfl⟩
      · exact ⟨rfl, upd_other _ _ e⟩
      · exact ⟨rfl, upd_other _ _ e⟩
    exact done_of h1 h2 (k n')
end Go.Proofs.Ythanjncpgcmnaaa
