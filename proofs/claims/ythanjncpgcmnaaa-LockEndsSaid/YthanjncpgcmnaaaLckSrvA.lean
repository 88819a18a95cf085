/- Those who wait for a name are served, in order: what it means; a lock that is taken away. -/
import Derived.Test.YthanjncpgcmnaaaLckDel
namespace Go.Proofs.Ythanjncpgcmnaaa
open Go.ChangeShapes Go.WideShapes Go.ChangeAt Go.RowKit

/-- Whoever stands in a queue waits there, for just that; nobody stands twice. -/
structure Wf (S : St) : Prop where
  waits : ∀ n o m, (o, m) ∈ S.queue n → S.waits o = (n, m)
  once : ∀ n, ((S.queue n).map (·.1)).Nodup
/-- The first of a queue is given what it waits for. -/
def given (S : St) (nm : ByteArray) (o m : Nat) (r : List (Nat × Nat)) : St := granted { S with queue := upd S.queue nm r } o nm m
inductive Path (nm : ByteArray) (S : St) : St → List Nat → Prop
  | start : Path nm S S []
  | snoc {S1 : St} {outs : List Nat} {o m : Nat} {r : List (Nat × Nat)} : Path nm S S1 outs → S1.queue nm = (o, m) :: r → Lets (S1.hold nm) o m → Path nm S (given S1 nm o m r) (outs ++ [o])
def Done (S : St) (nm : ByteArray) : Prop := S.queue nm = [] ∨ ∃ o m r, S.queue nm = (o, m) :: r ∧ ¬ Lets (S.hold nm) o m
theorem wf_given {S : St} (h : Wf S) {nm : ByteArray} {o m : Nat} {r : List (Nat × Nat)} (hq : S.queue nm = (o, m) :: r) : Wf (given S nm o m r) := by
  have hw := h.waits nm o m (by rw [hq]; simp)
  have ho := h.once nm
  rw [hq] at ho
  simp only [List.map_cons, List.nodup_cons] at ho
  constructor
  · intro n o' m' hm
    have hm' : (o', m') ∈ upd S.queue nm r n := hm
    show upd S.waits o (⟨#[]⟩, 0) o' = (n, m')
    have hin : (o', m') ∈ S.queue n := by
      by_cases e : n = nm
      · subst e; rw [upd_same] at hm'; rw [hq]; exact List.mem_cons_of_mem _ hm'
      · rwa [upd_other _ _ e] at hm'
    have hne : o' ≠ o := by
      rintro rfl
      have := h.waits n _ m' hin
      rw [hw] at this
      cases this
      rw [upd_same] at hm'
      exact ho.1 (List.mem_map.2 ⟨_, hm', rfl⟩)
    rw [upd_other _ _ hne]
    exact h.waits n o' m' hin
  · intro n
    show ((upd S.queue nm r n).map (·.1)).Nodup
    by_cases e : n = nm
    · subst e; rw [upd_same]; exact ho.2
    · rw [upd_other _ _ e]; exact h.once n
/-- Numbers as cells. -/
def u64s (l : List Nat) : List Value := l.map fun z : Nat => Value.int .u64 (z : Int)
theorem info27 : (Try.prog.info? 27).map (fun i => (i.zero, i.size, i.bytes)) = some (some (.int .u64 0), 1, 8) := by kernel_rfl
theorem rowU64 : ∃ i, Rowy Try.prog 29 27 i (.int .u64 0) 1 8 := by
  obtain ⟨i, hi, hz0, hz1, hz2⟩ := info_parts info27
  exact ⟨i, Try.underlying29, hi, hz0, hz1, hz2, rfl⟩
theorem u64_src {w : World} {g o : Nat} (h : w.cell? ⟨g, 0, none⟩ = some (.int .u64 (o : Int))) : _root_.Go.Src Try.prog 1 29 (.slice (some ⟨g, 0, none⟩) 1 1) 1 (u64s [o]) w :=
  _root_.Go.Src.ofSlice w Try.underlying29 ⟨g, 0, none⟩ 1 1 _ rfl (fun j u hu => by
    rw [addr_add]
    match j, hu with
    | 0, hu => cases hu; exact h) (fun u hu => by simp [u64s] at hu; subst hu; rfl)
/-- On the way through a queue. -/
structure Srv (W wr : World) (g : Nat) (S : St) (x : Gh) (N : Nat) (nm : ByteArray) (kb : Nat) (S' : St) (x' : Gh) (outs : List Nat) (v : Value) (bo : Option Nat) : Prop where
  tab : Tab wr g S' x' N
  lk : ∃ k, x'.lk nm = some k ∧ k.b = kb
  lks : ∀ n, (x.lk n).isSome = true → (x'.lk n).isSome = true
  steps : Steps W wr x x'
  slc : Slc wr bo 1 v outs.length (u64s outs)
  bo : ∀ b, bo = some b → W.heap.size ≤ b ∧ x'.who b = .out
  path : Path nm S S' outs
  wf : Wf S'
theorem srv_below {W wr w' : World} {g : Nat} {S : St} {x : Gh} {N : Nat} {nm : ByteArray} {kb : Nat} {S' : St} {x' : Gh} {outs : List Nat} {v : Value} {bo : Option Nat} (h : Srv W wr g S x N nm kb S' x' outs v bo) (hb : Below wr.heap.size wr w') : Srv W w' g S x N nm kb S' x' outs v bo :=
  ⟨h.tab.below hb, h.lk, h.lks, h.steps.trans (Steps.below _ hb), slc_below h.slc hb, h.bo, h.path, h.wf⟩
theorem below_drew1 (w : World) (n : Nat) : Below w.heap.size w (w.drewN n) := below_drewN (Below.refl _ _) n
/-- What serve tells. -/
def Served (W : World) (g : Nat) (S : St) (x : Gh) (N : Nat) (nm : ByteArray) (e : Ending) (w' : World) : Prop :=
  ∃ S' x' outs v bo, e = .returned v ∧ Tab w' g S' x' N ∧ Path nm S S' outs ∧ Done S' nm ∧ Wf S' ∧ Steps W w' x x' ∧ Slc w' bo 1 v outs.length (u64s outs) ∧ (∀ b, bo = some b → W.heap.size ≤ b ∧ x'.who b = .out) ∧ ∀ n, n ≠ nm → (x.lk n).isSome = true → (x'.lk n).isSome = true
section
variable {w : World} {g : Nat} {S : St} {x : Gh} {N : Nat} (H : Tab w g S x N)
include H
/-- How many hold a name. -/
theorem len_hold {nm : ByteArray} {k : LkG} (hl : x.lk nm = some k) : ∃ L : Nat, (∀ ty, (Builtin.len_ #[66] ty #[.map (some k.hm)]).run Try.prog w = .ok (.int .i64 (L : Int)) w) ∧ (L = 0 → ∀ o, S.hold nm o = 0) := by
  have h := H.locks.each nm k hl
  obtain ⟨D, hown, hat⟩ := h.own.ex
  refine ⟨Maps.size D, fun ty => hown.len Try.underlying66 ty, fun h0 o => ?_⟩
  by_cases ho : o < top
  · obtain ⟨es, rfl⟩ := hown.isMap
    rw [Maps.size_eq] at h0
    obtain rfl := List.length_eq_zero_iff.1 h0
    have h1 := hat o ho (.held (.bool true))
    have h2 := hat o ho (.held (.bool false))
    by_cases e : S.hold nm o = 0
    · exact e
    · rw [modes, if_neg e] at h1 h2
      simp only [Option.getD_some] at h1 h2
      have := h1.trans h2.symm
      simp [DataW.atKey] at this
  · exact Classical.byContradiction fun e => ho (h.lt o e)
/-- A lock is taken away that nobody holds and nobody waits for. -/
theorem del_lock {nm : ByteArray} (hn : nm.size ≤ maxLen) (h0 : ∀ o, S.hold nm o = 0) (hq : S.queue nm = []) (ty : TypeId) :
    ∃ w', (Builtin.delete_ #[57, 9] ty #[.map (some x.lm), .string nm]).run Try.prog w = .ok (.tuple #[]) w' ∧ Tab w' g S { x with lk := upd x.lk nm none } N ∧ Steps w w' x { x with lk := upd x.lk nm none } ∧ Turned (fun b => b = x.lm) w w' := by
  obtain ⟨w', hrun, hown, ht⟩ := H.locks.own.del keysS (t := 57) (e := 63) Try.underlying57 (kv := .string nm) (a := nm) (hkS hn) (fun _ e => kS_inj e) ty (f' := fun n => (upd x.lk nm none n).map fun k => .held (ptr (some k.b))) (by rw [upd_same]; rfl) (fun a e => by rw [upd_other _ _ e])
  have htag := H.locks.tag
  have hk : ∀ b, x.who b ≠ .out → b ≠ x.lm → w'.heap[b]? = w.heap[b]? := fun b hb hne => ht.block b (H.lt b hb) hne
  refine ⟨w', hrun, ⟨cells_kept H.cells (hk g (by rw [H.tag]; decide) (fun e => by have := H.tag; rw [e, htag] at this; cases this)), H.tag, ⟨hown, htag, fun n e => ?_, fun n k e => ?_⟩, ?_, fun b hb => Nat.lt_of_lt_of_le (H.lt b hb) ht.size⟩, ⟨rfl, rfl, Ext.refl _ _, ht.mono (fun b e => by subst e; rw [htag]; decide)⟩, ht⟩
  · by_cases e' : n = nm
    · subst e'; exact ⟨h0, hq⟩
    · have e2 : upd x.lk nm none n = none := e
      rw [upd_other _ _ e'] at e2
      exact H.locks.none n e2
  · have e2 : upd x.lk nm none n = some k := e
    by_cases e' : n = nm
    · subst e'; rw [upd_same] at e2; cases e2
    · rw [upd_other _ _ e'] at e2
      exact lkAt_kept (H.locks.each n k e2) ht.size (Ext.refl _ _) (fun b hb => hk b (by rcases hb with hb | hb | hb <;> rw [hb] <;> simp) (fun e => by rw [e, htag] at hb; rcases hb with hb | hb | hb <;> cases hb)) (Nat.le_refl _)
  · exact H.owners.kept (Ext.refl _ _) (fun b hb => hk b (fun e => by rw [e] at hb; cases hb) (fun e => by rw [e, htag] at hb; cases hb)) (Nat.le_refl _)
/-- Whoever stands in a queue has a block, with room. -/
theorem wait_room (hf : Wf S) {nm : ByteArray} {o m : Nat} (hm : (o, m) ∈ S.queue nm) (hm1 : 1 ≤ m) : ∃ kk, x.ow o = some kk ∧ kk.cnt + 1 ≤ N := by
  have hw := hf.waits nm o m hm
  cases e : x.ow o with
  | none =>
    have := (H.owners.none o e).2
    rw [hw] at this
    simp only [Prod.mk.injEq] at this
    omega
  | some kk =>
    refine ⟨kk, rfl, ?_⟩
    have := (H.owners.each o kk e).few
    rw [hw, if_neg (by omega)] at this
    exact this
end
end Go.Proofs.Ythanjncpgcmnaaa
