/- Those who wait for a name are served: what each step leaves. -/
import Derived.Test.YthanjncpgcmnaaaLckSrvA
namespace Go.Proofs.Ythanjncpgcmnaaa
open Go.ChangeShapes Go.WideShapes Go.ChangeAt Go.RowKit

/-- One taken off the queue, noted at t. -/
structure Mid (W w5 : World) (g : Nat) (x : Gh) (N : Nat) (nm : ByteArray) (kb : Nat) (S1 : St) (x5 : Gh) (outs : List Nat) (v : Value) (bo : Option Nat) (t o m : Nat) : Prop where
  tab : Tab w5 g S1 x5 N
  lks : ∀ n, (x.lk n).isSome = true → (x5.lk n).isSome = true
  steps : Steps W w5 x x5
  slc : Slc w5 bo 1 v outs.length (u64s outs)
  bo : ∀ b, bo = some b → W.heap.size ≤ b ∧ x5.who b = .out ∧ b ≠ t
  t0 : w5.cell? ⟨t, 0, none⟩ = some (.int .u64 (o : Int))
  t1 : w5.cell? ⟨t, 1, none⟩ = some (.int .i64 (m : Int))
  tout : x5.who t = .out
  tnew : W.heap.size ≤ t
theorem out_new {w : World} {g : Nat} {S : St} {x : Gh} {N : Nat} (H : Tab w g S x N) {b : Nat} (h : w.heap.size ≤ b) : x.who b = .out := by
  cases hw : x.who b with
  | out => rfl
  | _ => exact absurd (H.lt b (by rw [hw]; simp)) (by omega)
theorem srv_pop {W w3 w4 : World} {g : Nat} {S : St} {x : Gh} {N : Nat} {nm : ByteArray} {kb : Nat} {S' : St} {x' : Gh} {outs : List Nat} {v : Value} {bo : Option Nat} (hs : Srv W w3 g S x N nm kb S' x' outs v bo) {k' : LkG} (hk : x'.lk nm = some k') (hkb : k'.b = kb)
    {o m b : Nat} {r : List (Nat × Nat)} (hq : S'.queue nm = (o, m) :: r) (hb : k'.qb = some b) {qv : Value} (h1 : Slc w4 (some b) 2 qv r.length (qcells r)) (h2 : Turned (fun k => k = b) (w3.alloc (.cells #[.int .u64 (o : Int), .int .i64 (m : Int)] 74)) w4) :
    (∃ u, w4.cell? ⟨kb, 1, none⟩ = some u) ∧ w4.frozen? ⟨kb, 1, none⟩ = false ∧ ∃ x5, Mid W (w4.setCell ⟨kb, 1, none⟩ qv) g x N nm kb { S' with queue := upd S'.queue nm r } x5 outs v bo w3.heap.size o m ∧ x5.ow = x'.ow ∧ ∃ k5, x5.lk nm = some k5 ∧ k5.b = kb ∧ k5.cnt + 1 + r.length ≤ N := by
  have hV := hs.tab.below (below_alloc w3 (.cells #[.int .u64 (o : Int), .int .i64 (m : Int)] 74))
  have h := hV.locks.each nm k' hk
  have hf := h.few
  have hqs := h.qs
  rw [hq, List.length_cons] at hf
  rw [hq] at hqs
  have hT : Turned (fun c => x'.who c = .qb nm) (w3.alloc (.cells #[.int .u64 (o : Int), .int .i64 (m : Int)] 74)) w4 := h2.mono (fun c e => by subst e; exact h.tq _ hb)
  obtain ⟨x5, t5, s5, o5, k5, l5, b5, c5⟩ := set_queueN hV (Nat.le_refl N) hk hT h1 (.inl hb.symm) (fun p hp => hqs p (List.mem_cons_of_mem _ hp)) (by omega)
  have hkc := cells_kept h.cells (h2.block _ (cells_lt h.cells) (fun e => by have := h.tq _ hb; rw [← e, h.tb] at this; cases this))
  have hsz := size_alloc w3 (.cells #[.int .u64 (o : Int), .int .i64 (m : Int)] 74)
  have hto : x'.who w3.heap.size = .out := out_new hs.tab (Nat.le_refl _)
  have htc := cells_new w3 74 #[.int .u64 (o : Int), .int .i64 (m : Int)]
  have htc4 := cells_kept htc (h2.block w3.heap.size (by omega) (fun e => by have := h.tq _ hb; rw [← e, hto] at this; cases this))
  rw [hkb] at s5 t5 hkc
  have hst := (hs.steps.trans (Steps.below x' (below_alloc w3 (.cells #[.int .u64 (o : Int), .int .i64 (m : Int)] 74)))).trans s5
  have htk : w3.heap.size ≠ kb := fun e => by have := h.tb; rw [hkb, ← e, hto] at this; cases this
  have htc5 : Cells (w4.setCell ⟨kb, 1, none⟩ qv) w3.heap.size 74 #[.int .u64 (o : Int), .int .i64 (m : Int)] := cells_setOther htc4 htk
  have hne : ∀ c, bo = some c → c < w3.heap.size := fun c e => slc_lt hs.slc c e
  have hsl : Slc (w4.setCell ⟨kb, 1, none⟩ qv) bo 1 v outs.length (u64s outs) := slc_kept hs.slc (by have := h2.size; simp only [World.setCell, Array.size_modify]; omega) (fun c e => by
    have hc := (hs.bo c e).2
    rw [Below.heap_setCell _ _ _ _ (fun e' => by have := h.tb; rw [hkb, show kb = c from e'.symm, hc] at this; cases this), h2.block c (by have := hne c e; omega) (fun e' => by have := h.tq _ hb; rw [← e', hc] at this; cases this), (below_alloc w3 _).block c (hne c e)])
  refine ⟨⟨_, by rw [cell_of_row _ _ _ _ _ _ hkc]; rfl⟩, frozen_of_row _ _ _ _ _ hkc, x5, ⟨t5, fun n hn => ?_, hst, hsl, fun c e => ⟨(hs.bo c e).1, ?_, fun e' => by have := hne c e; omega⟩, ?_, ?_, ?_, ?_⟩, o5, k5, by rw [l5, upd_same], by rw [b5, hkb], by rw [c5]; omega⟩
  · rw [l5]
    by_cases e : n = nm
    · subst e; rw [upd_same]; rfl
    · rw [upd_other _ _ e]; exact hs.lks n hn
  · rw [s5.ext c (by have := hne c e; omega)]; exact (hs.bo c e).2
  · rw [cell_of_row _ _ _ _ _ _ htc5]; rfl
  · rw [cell_of_row _ _ _ _ _ _ htc5]; rfl
  · rw [s5.ext _ (by omega)]; exact hto
  · exact hs.steps.turned.size
/-- Behind a grant. -/
theorem mid_grant {W w5 w6 : World} {g : Nat} {x : Gh} {N : Nat} {nm : ByteArray} {kb : Nat} {S1 S2 : St} {x5 x6 : Gh} {outs : List Nat} {v : Value} {bo : Option Nat} {t o m : Nat} (h : Mid W w5 g x N nm kb S1 x5 outs v bo t o m) (ht : Tab w6 g S2 x6 N) (s : Steps w5 w6 x5 x6) {k6 : LkG} (hl : x6.lk = upd x5.lk nm (some k6)) : Mid W w6 g x N nm kb S2 x6 outs v bo t o m := by
  have htl := World.block_lt_of_cell? w5 _ h.t0
  have hbt := s.turned.block t htl (by rw [h.tout]; simp)
  refine ⟨ht, fun n hn => ?_, h.steps.trans s, slc_turned h.slc s.turned (fun c e => by rw [(h.bo c e).2.1]; simp), fun c e => ⟨(h.bo c e).1, by rw [s.ext c (slc_lt h.slc c e)]; exact (h.bo c e).2.1, (h.bo c e).2.2⟩, (World.cell?_of_block (a := ⟨t, 0, none⟩) hbt).trans h.t0, (World.cell?_of_block (a := ⟨t, 1, none⟩) hbt).trans h.t1, (s.ext t htl).trans h.tout, h.tnew⟩
  rw [hl]
  by_cases e : n = nm
  · subst e; rw [upd_same]; rfl
  · rw [upd_other _ _ e]; exact h.lks n hn
/-- Behind the append. -/
theorem mid_out {W w6 w7 : World} {g : Nat} {S : St} {x : Gh} {N : Nat} {nm : ByteArray} {kb : Nat} {S' : St} {x6 : Gh} {outs : List Nat} {v v' : Value} {bo bo' : Option Nat} {t o m : Nat} {r : List (Nat × Nat)} {cs : Array Value} {ty : TypeId} (h : Mid W w6 g x N nm kb (given S' nm o m r) x6 outs v bo t o m) (hp : Path nm S S' outs) (hw : Wf S') (hq : S'.queue nm = (o, m) :: r) (hL : Lets (S'.hold nm) o m)
    (hl : ∃ k, x6.lk nm = some k ∧ k.b = kb) (h1 : Slc w7 bo' 1 v' (outs.length + 1) (u64s outs ++ u64s [o])) (h2 : Turned (fun k => bo = some k) (w6.alloc (.cells cs ty)) w7) (h3 : bo' = bo ∨ bo' = some (w6.alloc (.cells cs ty)).heap.size) :
    Srv W w7 g S x N nm kb (given S' nm o m r) x6 (outs ++ [o]) v' bo' := by
  have hb := below_alloc w6 (.cells cs ty)
  have ht := h.tab.below hb
  have hs := h.steps.turned.size
  have hsz := size_alloc w6 (.cells cs ty)
  refine ⟨ht.turned h2 (fun c e => (h.bo c e).2.1), hl, h.lks, ⟨h.steps.lm, h.steps.om, h.steps.ext, ?_⟩, ?_, fun c e => ?_, .snoc hp hq hL, wf_given hw hq⟩
  · exact (h.steps.turned.below hb).trans h2 (fun c e => .inr (h.bo c e).1)
  · have : u64s (outs ++ [o]) = u64s outs ++ u64s [o] := by simp [u64s]
    rw [this, List.length_append]; exact h1
  · rcases h3 with rfl | e'
    · exact ⟨(h.bo c e).1, (h.bo c e).2.1⟩
    · rw [e'] at e
      cases e
      exact ⟨by omega, out_new h.tab (by omega)⟩
end Go.Proofs.Ythanjncpgcmnaaa
