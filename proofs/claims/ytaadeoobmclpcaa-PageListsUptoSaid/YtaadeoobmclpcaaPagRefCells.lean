/- The document's own cells of a page: a contract. -/
import Derived.Test.YtaadeoobmclpcaaPagRefGood
namespace Go.Proofs.Ytaadeoobmclpcaa
open Go.ChangeShapes Go.WideShapes Go.ChangeAt Go.RowKit

/-- A slice of bytes that was made by append: none, or a row with spare room. -/
def RowU (w : World) (B : Nat) (v : Value) (l : List Nat) : Prop := (v = .slice none 0 0 ∧ l = []) ∨ ∃ g c, v = .slice (some ⟨g, 0, none⟩) l.length c ∧ Has w g l ∧ B ≤ g
theorem rowU_next {w w' : World} {B : Nat} {v : Value} {l : List Nat} (h : RowU w B v l) (hb : Below w.heap.size w w') : RowU w' B v l := by
  rcases h with h | ⟨g, c, h1, h2, h3⟩
  · exact .inl h
  · exact .inr ⟨g, c, h1, has_next h2 hb, h3⟩
/-- A row of such slices. -/
def RowsU (w : World) (B : Nat) (vs : List Value) (ls : List (List Nat)) : Prop := vs.length = ls.length ∧ ∀ i, (h : i < vs.length) → (h' : i < ls.length) → RowU w B vs[i] ls[i]
theorem rowsU_next {w w' : World} {B : Nat} {vs : List Value} {ls : List (List Nat)} (h : RowsU w B vs ls) (hb : Below w.heap.size w w') : RowsU w' B vs ls := ⟨h.1, fun i h1 h2 => rowU_next (h.2 i h1 h2) hb⟩
theorem rowsU_snoc {w : World} {B : Nat} {vs : List Value} {ls : List (List Nat)} {v : Value} {l : List Nat} (h : RowsU w B vs ls) (hv : RowU w B v l) : RowsU w B (vs ++ [v]) (ls ++ [l]) := by
  refine ⟨by simp [h.1], fun i h1 h2 => ?_⟩
  have he := h.1
  by_cases e : i < vs.length
  · rw [List.getElem_append_left e, List.getElem_append_left (by omega)]
    exact h.2 i e (by omega)
  · have e1 : i = vs.length := by simp at h1; omega
    subst e1
    rw [List.getElem_append_right (Nat.le_refl _), List.getElem_append_right (by omega)]
    simp
    exact hv
/-- What the document's Cells tells. -/
def CellsU (w : World) (zs : List Nat) (e : Ending) (w' : World) : Prop :=
  ∃ v vs, e = .returned v ∧ w'.ownsRow w.heap.size 24 1 v (rd zs 14 2) vs ∧ RowsU w' w.heap.size vs ((List.range (rd zs 14 2)).map (cellOf zs)) ∧ Below w.heap.size w w'
theorem info22' : (Try.prog.info? 24).map (fun i => (i.zero, i.size, i.bytes)) = some (some (.slice none 0 0), 1, 24) := by kernel_rfl
theorem range_snoc (zs : List Nat) (k : Nat) : (List.range (k + 1)).map (cellOf zs) = (List.range k).map (cellOf zs) ++ [cellOf zs k] := by rw [List.range_succ, List.map_append]; rfl
theorem row_form' {w : World} {base size : Nat} {v : Value} {n : Nat} {t : TypeId} {xs : List Value} (h : w.ownsRow base t size v n xs) (hn : n ≠ 0) : ∃ g cap, v = .slice (some ⟨g, 0, none⟩) n cap := by
  rcases h.2 with ⟨_, h0⟩ | ⟨g, cap, cur, rfl, hb, _⟩
  · exact absurd h0 hn
  · exact ⟨g, cap, rfl⟩
theorem row_kept' {w w' : World} {B n size : Nat} {t : TypeId} {v : Value} {xs : List Value} (h : w.ownsRow B t size v n xs) (hb : Below w.heap.size w w') : w'.ownsRow B t size v n xs :=
  h.kept (row := none) ⟨hb.os, hb.tape, hb.output, hb.size, fun k hk _ => hb.block k hk⟩ (by cases v.ownBlock <;> simp)
theorem rowU_grown {w w' : World} {B k : Nat} {v u : Value} {xs : List Value} {l : List Nat} (h : RowU w B u l) (ho : w.ownsRow B 24 1 v k xs) (hg : w.grownBy w' v.ownBlock) : RowU w' B u l := by
  rcases h with h | ⟨g, c, h1, ⟨cur, hc, hf⟩, h3⟩
  · exact .inl h
  · refine .inr ⟨g, c, h1, ⟨cur, ?_, hf⟩, h3⟩
    unfold Cells
    rw [hg.block g (Array.getElem?_eq_some_iff.1 hc).1 ?_]
    · exact hc
    · intro e
      rcases ho.2 with ⟨rfl, _⟩ | ⟨G, cap, cur', rfl, _, hG, _⟩
      · cases e
      · simp only [Value.ownBlock, Option.some.injEq] at e
        subst e
        unfold Cells at hc
        rw [hG] at hc
        simp only [Option.some.injEq, Obj.cells.injEq] at hc
        exact absurd hc.2.1 (by decide)
theorem rowsU_grown {w w' : World} {B k : Nat} {v : Value} {xs vs : List Value} {ls : List (List Nat)} (h : RowsU w B vs ls) (ho : w.ownsRow B 24 1 v k xs) (hg : w.grownBy w' v.ownBlock) : RowsU w' B vs ls :=
  ⟨h.1, fun i h1 h2 => rowU_grown (h.2 i h1 h2) ho hg⟩
end Go.Proofs.Ytaadeoobmclpcaa
