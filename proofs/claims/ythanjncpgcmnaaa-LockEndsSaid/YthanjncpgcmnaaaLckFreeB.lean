/- All that one holds is given up: what it means, and what each step leaves. -/
import Derived.Test.YthanjncpgcmnaaaLckFreeA
namespace Go.Proofs.Ythanjncpgcmnaaa
open Go.ChangeShapes Go.WideShapes Go.ChangeAt Go.RowKit

/-- Names served one behind the other. -/
inductive All : List ByteArray → St → St → List Nat → Prop
  | start {S : St} : All [] S S []
  | snoc {ns : List ByteArray} {n : ByteArray} {S S1 S2 : St} {outs more : List Nat} : All ns S S1 outs → Path n S1 S2 more → Done S2 n → All (ns ++ [n]) S S2 (outs ++ more)
open Classical in
/-- What is left of the first names that one holds. -/
noncomputable def part (S : St) (id : Nat) (ns : List ByteArray) : St := { hold := fun n o => if o = id ∧ n ∈ ns then 0 else S.hold n o, queue := S.queue, held := upd S.held id (fun _ => 0), waits := upd S.waits id (⟨#[]⟩, 0) }
/-- One holds nothing. -/
def freed (S : St) (id : Nat) : St := { hold := fun n o => if o = id then 0 else S.hold n o, queue := S.queue, held := upd S.held id (fun _ => 0), waits := upd S.waits id (⟨#[]⟩, 0) }
theorem part_all {S : St} {id : Nat} {ns : List ByteArray} (h : ∀ n, S.hold n id ≠ 0 → n ∈ ns) : part S id ns = freed S id := by
  unfold part freed
  congr 1
  funext n o
  by_cases e : o = id
  · subst e
    by_cases hn : n ∈ ns
    · rw [if_pos ⟨rfl, hn⟩, if_pos rfl]
    · rw [if_neg (fun h' => hn h'.2), if_pos rfl]
      exact Classical.byContradiction fun h' => hn (h n h')
  · rw [if_neg (fun h' => e h'.1), if_neg e]
theorem part_step {S : St} {id : Nat} {ns : List ByteArray} {n : ByteArray} : { part S id ns with hold := upd (part S id ns).hold n (upd ((part S id ns).hold n) id 0) } = part S id (ns ++ [n]) := by
  have key : upd (part S id ns).hold n (upd ((part S id ns).hold n) id 0) = (part S id (ns ++ [n])).hold := by
    funext n' o
    by_cases e : n' = n
    · subst e
      rw [upd_same]
      by_cases eo : o = id
      · subst eo
        rw [upd_same]
        exact (if_pos ⟨rfl, by simp⟩).symm
      · rw [upd_other _ _ eo]
        exact (if_neg (fun h => eo h.1)).trans (if_neg (fun h => eo h.1)).symm
    · rw [upd_other _ _ e]
      have : (o = id ∧ n' ∈ ns) ↔ (o = id ∧ n' ∈ ns ++ [n]) := by simp [e]
      by_cases h : o = id ∧ n' ∈ ns
      · exact (if_pos h).trans (if_pos (this.1 h)).symm
      · exact (if_neg h).trans (if_neg (fun h' => h (this.2 h'))).symm
  show St.mk _ _ _ _ = _
  rw [key]
  rfl
theorem wf_freed {S : St} {id : Nat} (h : Wf S) (hw : (S.waits id).2 = 0) (hq : ∀ n o m, (o, m) ∈ S.queue n → 1 ≤ m) : Wf (freed S id) :=
  ⟨fun n o m hm => by
    have h1 := h.waits n o m hm
    have h2 := hq n o m hm
    show upd S.waits id _ o = _
    rw [upd_other _ _ (by rintro rfl; rw [h1] at hw; simp only at hw; omega)]
    exact h1, h.once⟩
/-- On the way: the table, the names, the cell that holds who frees. -/
structure Fra (W wr : World) (g : Nat) (x : Gh) (N : Nat) (id : Nat) (S' : St) (x' : Gh) (v : Value) (nb : Option Nat) (ns : List ByteArray) (c : Nat) : Prop where
  tab : Tab wr g S' x' N
  steps : Steps W wr x x'
  slc : Slc wr nb 1 v ns.length (ns.map Value.string)
  nbo : ∀ b, nb = some b → W.heap.size ≤ b ∧ x'.who b = .out
  idc : wr.cell? ⟨c, 0, none⟩ = some (.int .u64 (id : Int))
  co : x'.who c = .out
theorem fra_step {W wr w2 : World} {g : Nat} {x : Gh} {N : Nat} {id : Nat} {S' S2 : St} {x' x2 : Gh} {v : Value} {nb : Option Nat} {ns : List ByteArray} {c : Nat} (h : Fra W wr g x N id S' x' v nb ns c) (ht : Tab w2 g S2 x2 N) (s : Steps wr w2 x' x2) : Fra W w2 g x N id S2 x2 v nb ns c :=
  have hcl := World.block_lt_of_cell? wr _ h.idc
  ⟨ht, h.steps.trans s, slc_turned h.slc s.turned (fun b e => by rw [(h.nbo b e).2]; simp), fun b e => ⟨(h.nbo b e).1, by rw [s.ext b (slc_lt h.slc b e)]; exact (h.nbo b e).2⟩,
    (World.cell?_of_block (a := ⟨c, 0, none⟩) (s.turned.block c hcl (by rw [h.co]; simp))).trans h.idc, (s.ext c hcl).trans h.co⟩
theorem fra_below {W wr w2 : World} {g : Nat} {x : Gh} {N : Nat} {id : Nat} {S' : St} {x' : Gh} {v : Value} {nb : Option Nat} {ns : List ByteArray} {c : Nat} (h : Fra W wr g x N id S' x' v nb ns c) (hb : Below wr.heap.size wr w2) : Fra W w2 g x N id S' x' v nb ns c := fra_step h (h.tab.below hb) (Steps.below _ hb)
/-- Another block of the call's own is written. -/
theorem fra_out {W wr w2 : World} {g : Nat} {x : Gh} {N : Nat} {id : Nat} {S' : St} {x' : Gh} {v : Value} {nb : Option Nat} {ns : List ByteArray} {c : Nat} {E : Nat → Prop} (h : Fra W wr g x N id S' x' v nb ns c) (ht : Turned E wr w2) (hE : ∀ b, E b → W.heap.size ≤ b ∧ x'.who b = .out ∧ nb ≠ some b ∧ b ≠ c) : Fra W w2 g x N id S' x' v nb ns c :=
  have hcl := World.block_lt_of_cell? wr _ h.idc
  ⟨h.tab.turned ht (fun b e => (hE b e).2.1), ⟨h.steps.lm, h.steps.om, h.steps.ext, h.steps.turned.trans ht (fun b e => .inr (hE b e).1)⟩, slc_turned h.slc ht (fun b e e' => (hE b e').2.2.1 e), h.nbo,
    (World.cell?_of_block (a := ⟨c, 0, none⟩) (ht.block c hcl (fun e => (hE c e).2.2.2 rfl))).trans h.idc, h.co⟩
/-- An owner is taken away. -/
theorem del_owner {w : World} {g : Nat} {S : St} {x : Gh} {N : Nat} (H : Tab w g S x N) {o : Nat} (ho : o < top) (ty : TypeId) :
    ∃ w', (Builtin.delete_ #[58, 27] ty #[.map (some x.om), .int .u64 (o : Int)]).run Try.prog w = .ok (.tuple #[]) w' ∧ Tab w' g { S with held := upd S.held o (fun _ => 0), waits := upd S.waits o (⟨#[]⟩, 0) } { x with ow := upd x.ow o none } N ∧ Steps w w' x { x with ow := upd x.ow o none } ∧ Turned (fun b => b = x.om) w w' := by
  obtain ⟨w', hrun, hown, ht⟩ := H.owners.own.del keysU (t := 58) (e := 80) Try.underlying58 (kv := .int .u64 (o : Int)) (a := o) (hkU ho) (fun _ e => kU_inj e) ty (f' := fun n => (upd x.ow o none n).map fun k => .held (ptr (some k.b))) (by rw [upd_same]; rfl) (fun a e => by rw [upd_other _ _ e])
  have htag := H.owners.tag
  have hk : ∀ b, x.who b ≠ .out → b ≠ x.om → w'.heap[b]? = w.heap[b]? := fun b hb hne => ht.block b (H.lt b hb) hne
  refine ⟨w', hrun, ⟨cells_kept H.cells (hk g (by rw [H.tag]; decide) (fun e => by have := H.tag; rw [e, htag] at this; cases this)), H.tag, ?_, ⟨hown, htag, fun n e => ?_, fun n k e => ?_⟩, fun b hb => Nat.lt_of_lt_of_le (H.lt b hb) ht.size⟩, ⟨rfl, rfl, Ext.refl _ _, ht.mono (fun b e => by subst e; rw [htag]; decide)⟩, ht⟩
  · exact H.locks.kept ht.size (Ext.refl _ _) (fun b hb => hk b (fun e => by rw [e] at hb; cases hb) (fun e => by rw [e, htag] at hb; cases hb)) (Nat.le_refl _)
  · by_cases e' : n = o
    · subst e'; exact ⟨fun m => by show upd S.held n (fun _ => 0) n m = 0; rw [upd_same], upd_same _ _ _⟩
    · have e2 : upd x.ow o none n = none := e
      rw [upd_other _ _ e'] at e2
      obtain ⟨h1, h2⟩ := H.owners.none n e2
      exact ⟨fun m => by show upd S.held o (fun _ => 0) n m = 0; rw [upd_other _ _ e']; exact h1 m, by show upd S.waits o _ n = _; rw [upd_other _ _ e']; exact h2⟩
  · have e2 : upd x.ow o none n = some k := e
    by_cases e' : n = o
    · subst e'; rw [upd_same] at e2; cases e2
    · rw [upd_other _ _ e'] at e2
      show OwAt w' x.who n k (upd S.held o (fun _ => 0) n) (upd S.waits o (⟨#[]⟩, 0) n) N
      rw [upd_other _ _ e', upd_other _ _ e']
      exact owAt_kept (H.owners.each n k e2) (Ext.refl _ _) (fun b hb => hk b (by rcases hb with hb | hb <;> rw [hb] <;> simp) (fun e => by rw [e, htag] at hb; rcases hb with hb | hb <;> cases hb)) (Nat.le_refl _)
/-- What Free tells. -/
def Frees (W : World) (g : Nat) (S : St) (x : Gh) (N : Nat) (id : Nat) (e : Ending) (w' : World) : Prop :=
  ∃ ns S' x' outs v bo, e = .returned v ∧ Names (S.held id) ns ∧ All ns (freed S id) S' outs ∧ Tab w' g S' x' N ∧ Steps W w' x x' ∧ Wf S' ∧ Slc w' bo 1 v outs.length (u64s outs) ∧ ∀ b, bo = some b → W.heap.size ≤ b ∧ x'.who b = .out
end Go.Proofs.Ythanjncpgcmnaaa
