/- What holds of a table, whatever was asked for and freed. -/
import Derived.Test.YthanjncpgcmnaaaLckAskT
import Derived.Test.YthanjncpgcmnaaaLckFreeG
import Derived.Test.YthanjncpgcmnaaaLckVict
namespace Go.Proofs.Ythanjncpgcmnaaa
open Go.ChangeShapes Go.WideShapes Go.ChangeAt Go.RowKit

structure Inv (S : St) : Prop where
  wf : Wf S
  pos : ∀ n o m, (o, m) ∈ S.queue n → 1 ≤ m
  cons : ∀ n o, S.hold n o = S.held o n
  back : ∀ o, (S.waits o).2 ≠ 0 → (o, (S.waits o).2) ∈ S.queue (S.waits o).1
  safe : ∀ n a b, a ≠ b → S.hold n a ≠ 0 → S.hold n b ≠ 0 → tog (S.hold n a : Nat) (S.hold n b : Nat) = true
  idle : ∀ o, (S.waits o).2 = 0 → S.waits o = (⟨#[]⟩, 0)
theorem tog_comm (a b : Int) : tog a b = tog b a := by
  unfold tog
  by_cases h1 : isM a = true
  · by_cases h2 : isM b = true
    · rcases isM_nat h1 with rfl | rfl | rfl | rfl <;> rcases isM_nat h2 with rfl | rfl | rfl | rfl <;> decide
    · have : isM b = false := by simpa using h2
      simp [this]
  · have : isM a = false := by simpa using h1
    simp [this]
theorem inv_S0 : Inv S0 := ⟨⟨fun _ _ _ h => (by cases h), fun _ => List.nodup_nil⟩, fun _ _ _ h => (by cases h), fun _ _ => rfl, fun _ h => absurd rfl h, fun _ _ _ _ h => absurd rfl h, fun _ _ => rfl⟩
/-- Who does not wait stands in no queue. -/
theorem Inv.out {S : St} (I : Inv S) {o : Nat} (hw : (S.waits o).2 = 0) : ∀ n m, (o, m) ∉ S.queue n := fun n m hm => by
  have h1 := I.wf.waits n o m hm
  have h2 := I.pos n o m hm
  rw [h1] at hw
  simp only at hw; omega
theorem safe_upd {S : St} (I : Inv S) {nm : ByteArray} {o m : Nat} (hL : Lets (S.hold nm) o m) : ∀ n a b, a ≠ b → upd S.hold nm (upd (S.hold nm) o m) n a ≠ 0 → upd S.hold nm (upd (S.hold nm) o m) n b ≠ 0 → tog (upd S.hold nm (upd (S.hold nm) o m) n a : Nat) (upd S.hold nm (upd (S.hold nm) o m) n b : Nat) = true := fun n a b hab => by
  by_cases e : n = nm
  · subst e
    rw [upd_same]
    by_cases ea : a = o
    · subst ea
      rw [upd_same, upd_other _ _ (fun h => hab h.symm)]
      exact fun _ hb => hL b (fun h => hab h.symm) hb
    · rw [upd_other _ _ ea]
      by_cases eb : b = o
      · subst eb
        rw [upd_same]
        exact fun ha _ => by rw [tog_comm]; exact hL a ea ha
      · rw [upd_other _ _ eb]; exact I.safe n a b hab
  · rw [upd_other _ _ e]; exact I.safe n a b hab
theorem cons_upd {S : St} (I : Inv S) (nm : ByteArray) (o m : Nat) : ∀ n a, upd S.hold nm (upd (S.hold nm) o m) n a = upd S.held o (upd (S.held o) nm m) a n := fun n a => by
  by_cases e : n = nm
  · subst e
    rw [upd_same]
    by_cases ea : a = o
    · subst ea; rw [upd_same, upd_same, upd_same]
    · rw [upd_other _ _ ea, upd_other _ _ ea]; exact I.cons n a
  · rw [upd_other _ _ e]
    by_cases ea : a = o
    · subst ea; rw [upd_same, upd_other _ _ e]; exact I.cons n a
    · rw [upd_other _ _ ea]; exact I.cons n a
theorem inv_granted {S : St} (I : Inv S) {nm : ByteArray} {o m : Nat} (hw : (S.waits o).2 = 0) (hL : Lets (S.hold nm) o m) : Inv (granted S o nm m) where
  wf := ⟨fun n o' m' hm => by
    have hm' : (o', m') ∈ S.queue n := hm
    show upd S.waits o _ o' = _
    rw [upd_other _ _ (fun e => by subst e; exact I.out hw n m' hm')]
    exact I.wf.waits n o' m' hm', I.wf.once⟩
  pos := I.pos
  cons := cons_upd I nm o m
  back := fun o' h => by
    have h' : (upd S.waits o (⟨#[]⟩, 0) o').2 ≠ 0 := h
    by_cases e : o' = o
    · subst e; rw [upd_same] at h'; exact absurd rfl h'
    · rw [upd_other _ _ e] at h'
      show (o', (upd S.waits o _ o').2) ∈ S.queue (upd S.waits o _ o').1
      rw [upd_other _ _ e]; exact I.back o' h'
  safe := safe_upd I hL
  idle := fun o' h => by
    have h' : (upd S.waits o (⟨#[]⟩, 0) o').2 = 0 := h
    show upd S.waits o _ o' = _
    by_cases e : o' = o
    · subst e; rw [upd_same]
    · rw [upd_other _ _ e] at h' ⊢; exact I.idle o' h'
theorem inv_given {S : St} (I : Inv S) {nm : ByteArray} {o m : Nat} {r : List (Nat × Nat)} (hq : S.queue nm = (o, m) :: r) (hL : Lets (S.hold nm) o m) : Inv (given S nm o m r) where
  wf := wf_given I.wf hq
  pos := fun n o' m' hm => by
    have hm' : (o', m') ∈ upd S.queue nm r n := hm
    by_cases e : n = nm
    · subst e; rw [upd_same] at hm'; exact I.pos n o' m' (by rw [hq]; exact List.mem_cons_of_mem _ hm')
    · rw [upd_other _ _ e] at hm'; exact I.pos n o' m' hm'
  cons := cons_upd I nm o m
  back := fun o' h => by
    have h' : (upd S.waits o (⟨#[]⟩, 0) o').2 ≠ 0 := h
    by_cases e : o' = o
    · subst e; rw [upd_same] at h'; exact absurd rfl h'
    · rw [upd_other _ _ e] at h'
      show (o', (upd S.waits o _ o').2) ∈ upd S.queue nm r (upd S.waits o _ o').1
      rw [upd_other _ _ e]
      have hb := I.back o' h'
      by_cases en : (S.waits o').1 = nm
      · rw [en, upd_same]
        rw [en, hq] at hb
        rcases List.mem_cons.1 hb with hb | hb
        · exact absurd (congrArg Prod.fst hb) e
        · exact hb
      · rw [upd_other _ _ en]; exact hb
  safe := safe_upd I hL
  idle := fun o' h => by
    have h' : (upd S.waits o (⟨#[]⟩, 0) o').2 = 0 := h
    show upd S.waits o _ o' = _
    by_cases e : o' = o
    · subst e; rw [upd_same]
    · rw [upd_other _ _ e] at h' ⊢; exact I.idle o' h'
theorem mem_mid {q : List (Nat × Nat)} {i o m : Nat} {p : Nat × Nat} : p ∈ mid q i o m ↔ p = (o, m) ∨ p ∈ q := by
  have h : p ∈ q ↔ p ∈ q.take i ∨ p ∈ q.drop i := by rw [← List.mem_append, List.take_append_drop]
  rw [mid, List.mem_append, List.mem_cons, h]
  constructor
  · rintro (h | h | h)
    · exact .inr (.inl h)
    · exact .inl h
    · exact .inr (.inr h)
  · rintro (h | h | h)
    · exact .inr (.inl h)
    · exact .inl h
    · exact .inr (.inr h)
theorem inv_lined {S : St} (I : Inv S) {nm : ByteArray} {o m : Nat} (i : Nat) (hw : (S.waits o).2 = 0) (hm : 1 ≤ m) : Inv (linedAt S o nm i m) where
  wf := ⟨fun n o' m' h => by
    have h' : (o', m') ∈ upd S.queue nm (mid (S.queue nm) i o m) n := h
    show upd S.waits o (nm, m) o' = _
    by_cases e : n = nm
    · subst e
      rw [upd_same] at h'
      rcases mem_mid.1 h' with h1 | h1
      · cases h1; exact upd_same _ _ _
      · clear h h'
        rw [upd_other _ _ (fun e => by subst e; exact I.out hw n m' h1)]; exact I.wf.waits n o' m' h1
    · rw [upd_other _ _ e] at h'
      rw [upd_other _ _ (fun e => by subst e; exact I.out hw n m' h')]; exact I.wf.waits n o' m' h',
  fun n => by
    show ((upd S.queue nm (mid (S.queue nm) i o m) n).map (·.1)).Nodup
    by_cases e : n = nm
    · subst e
      rw [upd_same, mid, List.map_append, List.map_cons, List.nodup_append, List.nodup_cons]
      have h0 := I.wf.once n
      rw [← List.take_append_drop i (S.queue n), List.map_append, List.nodup_append] at h0
      have hno : ∀ p ∈ S.queue n, p.1 ≠ o := fun p hp e => I.out hw n p.2 (by rw [← e]; exact hp)
      refine ⟨h0.1, ⟨fun h => ?_, h0.2.1⟩, fun a ha b hb => ?_⟩
      · obtain ⟨p, hp, e⟩ := List.mem_map.1 h
        exact hno p (List.mem_of_mem_drop hp) e
      · rcases List.mem_cons.1 hb with hb | hb
        · obtain ⟨p, hp, e⟩ := List.mem_map.1 ha
          rw [hb, ← e]
          exact hno p (List.mem_of_mem_take hp)
        · exact h0.2.2 a ha b hb
    · rw [upd_other _ _ e]; exact I.wf.once n⟩
  pos := fun n o' m' h => by
    have h' : (o', m') ∈ upd S.queue nm (mid (S.queue nm) i o m) n := h
    by_cases e : n = nm
    · subst e
      rw [upd_same] at h'
      rcases mem_mid.1 h' with h' | h'
      · cases h'; exact hm
      · exact I.pos n o' m' h'
    · rw [upd_other _ _ e] at h'; exact I.pos n o' m' h'
  cons := I.cons
  back := fun o' h => by
    have h' : (upd S.waits o (nm, m) o').2 ≠ 0 := h
    show (o', (upd S.waits o (nm, m) o').2) ∈ upd S.queue nm (mid (S.queue nm) i o m) (upd S.waits o (nm, m) o').1
    by_cases e : o' = o
    · subst e
      rw [upd_same, upd_same]; exact mem_mid.2 (.inl rfl)
    · rw [upd_other _ _ e] at h' ⊢
      have hb := I.back o' h'
      by_cases en : (S.waits o').1 = nm
      · rw [en, upd_same]
        rw [en] at hb
        exact mem_mid.2 (.inr hb)
      · rw [upd_other _ _ en]; exact hb
  safe := I.safe
  idle := fun o' h => by
    have h' : (upd S.waits o (nm, m) o').2 = 0 := h
    show upd S.waits o _ o' = _
    by_cases e : o' = o
    · subst e; rw [upd_same] at h'; simp only at h'; omega
    · rw [upd_other _ _ e] at h' ⊢; exact I.idle o' h'
theorem inv_freed {S : St} (I : Inv S) (id : Nat) : Inv (freedG S id) where
  wf := wf_freedG I.wf
  pos := fun n o m h => I.pos n o m (mem_rem.1 (show (o, m) ∈ rem (S.queue n) id from h)).1
  cons := fun n o => by
    show (if o = id then 0 else S.hold n o) = upd S.held id (fun _ => 0) o n
    by_cases e : o = id
    · subst e; rw [upd_same, if_pos rfl]
    · rw [upd_other _ _ e, if_neg e]; exact I.cons n o
  back := fun o h => by
    have h' : (upd S.waits id (⟨#[]⟩, 0) o).2 ≠ 0 := h
    by_cases e : o = id
    · subst e; rw [upd_same] at h'; exact absurd rfl h'
    · rw [upd_other _ _ e] at h'
      show (o, (upd S.waits id _ o).2) ∈ rem (S.queue (upd S.waits id _ o).1) id
      rw [upd_other _ _ e]
      exact mem_rem.2 ⟨I.back o h', e⟩
  safe := fun n a b hab => by
    show (if a = id then 0 else S.hold n a) ≠ 0 → (if b = id then 0 else S.hold n b) ≠ 0 → tog ((if a = id then 0 else S.hold n a : Nat)) ((if b = id then 0 else S.hold n b : Nat)) = true
    by_cases ea : a = id
    · rw [if_pos ea]; exact fun h => absurd rfl h
    · by_cases eb : b = id
      · rw [if_pos eb]; exact fun _ h => absurd rfl h
      · rw [if_neg ea, if_neg eb]; exact I.safe n a b hab
  idle := fun o h => by
    have h' : (upd S.waits id (⟨#[]⟩, 0) o).2 = 0 := h
    show upd S.waits id _ o = _
    by_cases e : o = id
    · subst e; rw [upd_same]
    · rw [upd_other _ _ e] at h' ⊢; exact I.idle o h'
/-- Who is served on a way: waited, and waits no more. -/
structure Served2 (S S' : St) (outs : List Nat) : Prop where
  inv : Inv S'
  nd : outs.Nodup
  was : ∀ o ∈ outs, (S.waits o).2 ≠ 0 ∧ (S'.waits o).2 = 0
  less : ∀ o, (S'.waits o).2 ≠ 0 → S'.waits o = S.waits o
theorem served_path {nm : ByteArray} {S S' : St} {outs : List Nat} (I : Inv S) (h : Path nm S S' outs) : Served2 S S' outs := by
  induction h with
  | start => exact ⟨I, List.nodup_nil, fun o h => (by cases h), fun _ _ => rfl⟩
  | @snoc S1 outs o m r _ hq hL ih =>
    have hin : (o, m) ∈ S1.queue nm := by rw [hq]; simp
    have hw1 := ih.inv.wf.waits nm o m hin
    have hp := ih.inv.pos nm o m hin
    have hne : (S1.waits o).2 ≠ 0 := by rw [hw1]; simp only; omega
    refine ⟨inv_given ih.inv hq hL, ?_, fun a ha => ?_, fun a ha => ?_⟩
    · rw [List.nodup_append]
      refine ⟨ih.nd, by simp, fun a ha b hb e => ?_⟩
      rw [List.mem_singleton] at hb
      subst hb e
      exact hne (ih.was _ ha).2
    · show _ ∧ (upd S1.waits o (⟨#[]⟩, 0) a).2 = 0
      rcases List.mem_append.1 ha with ha | ha
      · refine ⟨(ih.was a ha).1, ?_⟩
        by_cases e : a = o
        · subst e; rw [upd_same]
        · rw [upd_other _ _ e]; exact (ih.was a ha).2
      · rw [List.mem_singleton] at ha
        subst ha
        rw [upd_same]
        exact ⟨by rw [← ih.less _ hne]; exact hne, rfl⟩
    · have ha' : (upd S1.waits o (⟨#[]⟩, 0) a).2 ≠ 0 := ha
      show upd S1.waits o _ a = _
      by_cases e : a = o
      · subst e; rw [upd_same] at ha'; exact absurd rfl ha'
      · rw [upd_other _ _ e] at ha' ⊢; exact ih.less a ha'
theorem served_all {ns : List ByteArray} {S S' : St} {outs : List Nat} (I : Inv S) (h : All ns S S' outs) : Served2 S S' outs := by
  induction h with
  | start => exact ⟨I, List.nodup_nil, fun o h => (by cases h), fun _ _ => rfl⟩
  | snoc _ hp _ ih =>
    have ih := ih I
    have hs := served_path ih.inv hp
    refine ⟨hs.inv, ?_, fun a ha => ?_, fun a ha => ?_⟩
    · rw [List.nodup_append]
      refine ⟨ih.nd, hs.nd, fun a ha b hb e => ?_⟩
      subst e
      exact (hs.was _ hb).1 (ih.was _ ha).2
    · rcases List.mem_append.1 ha with ha | ha
      · refine ⟨(ih.was a ha).1, Classical.byContradiction fun h => ?_⟩
        rw [hs.less a h] at h
        exact h (ih.was a ha).2
      · have h1 := (hs.was a ha)
        exact ⟨by rw [← ih.less _ h1.1]; exact h1.1, h1.2⟩
    · have h1 := hs.less a ha
      rw [h1]
      rw [h1] at ha
      exact ih.less a ha
/-- All owners that are there. -/
theorem owners_list {w : World} {g : Nat} {S : St} {x : Gh} {N : Nat} (H : Tab w g S x N) : ∃ U : List Nat, U.length ≤ N ∧ ∀ o, o < top → x.ow o ≠ none → o ∈ U := by
  obtain ⟨D, hown, hat⟩ := H.owners.own.ex
  have hsz := hown.size_le
  obtain ⟨es, rfl, hk⟩ := hown.keysOf
  refine ⟨es.map fun p => natOf p.1, by rw [List.length_map]; exact hsz, fun o ho h0 => ?_⟩
  obtain ⟨kk, hkk⟩ := Option.ne_none_iff_exists'.1 h0
  have h1 : Maps.has (DataW.map es) (kU o) = true := Maps.has_true_of_atKey (y := .held (ptr (some kk.b))) (fun z => by rw [hat o ho z, hkk]; rfl)
  rw [Maps.has_eq, List.any_eq_true] at h1
  obtain ⟨p, hp, he⟩ := h1
  have he' := (WideAt.sameKey_iff (b := kU o) (kU_key o)).1 he
  exact List.mem_map.2 ⟨p, hp, by rw [he']; simp [natOf, kU]⟩
section
variable {w : World} {g : Nat} {S : St} {x : Gh} {N : Nat} (H : Tab w g S x N)
include H
theorem ow_of_waits {o : Nat} (h : (S.waits o).2 ≠ 0) : x.ow o ≠ none := fun e => h (by rw [(H.owners.none o e).2])
theorem ow_of_held {o : Nat} {n : ByteArray} (h : S.held o n ≠ 0) : x.ow o ≠ none := fun e => h ((H.owners.none o e).1 n)
theorem lk_of_queue {n : ByteArray} (h : S.queue n ≠ []) : ∃ k, x.lk n = some k := by
  cases e : x.lk n with
  | none => exact absurd (H.locks.none n e).2 h
  | some k => exact ⟨k, rfl⟩
theorem lk_of_waits (I : Inv S) : ∀ o, (S.waits o).2 ≠ 0 → ∃ k, x.lk (S.waits o).1 = some k := fun o h => lk_of_queue H (fun e => by have := I.back o h; rw [e] at this; cases this)
theorem hold_le (n : ByteArray) (o : Nat) : S.hold n o ≤ 4 := by
  cases e : x.lk n with
  | none => rw [(H.locks.none n e).1 o]; omega
  | some k => exact (H.locks.each n k e).le o
theorem top_of_waits (I : Inv S) {o : Nat} (h : (S.waits o).2 ≠ 0) : o < top := by
  have hb := I.back o h
  obtain ⟨k, hk⟩ := lk_of_waits H I o h
  exact ((H.locks.each _ k hk).qs _ hb).1
theorem edge_in (I : Inv S) {U : List Nat} (hU : ∀ o, o < top → x.ow o ≠ none → o ∈ U) : ∀ a u, Edge S a u → u ∈ U := fun a u h => by
  refine hU u (edge_top H h) ?_
  rcases h.2 with ⟨_, h0, _⟩ | h
  · rw [I.cons] at h0
    exact ow_of_held H h0
  · have hm : u ∈ (S.queue (S.waits a).1).map (·.1) := (List.takeWhile_sublist _).subset h
    obtain ⟨⟨o, m⟩, hp, rfl⟩ := List.mem_map.1 hm
    have h1 := I.wf.waits _ o m hp
    have h2 := I.pos _ o m hp
    exact ow_of_waits H (by rw [h1]; simp only; omega)
/-- Victim, whatever the table. -/
theorem victim_inv (I : Inv S) (hN : N < 8796093022208) {id : Nat} (ho : id < top) : Calls Try.prog 18 #[.pointer (some ⟨g, 0, none⟩), .int .u64 (id : Int)] w (VictimTells w S id) := by
  obtain ⟨U, hl, hU⟩ := owners_list H
  exact victim_any H hN ho (edge_in H I hU) (by omega) (lk_of_waits H I) I.wf.once
end
end Go.Proofs.Ythanjncpgcmnaaa
