/- The document's own word on whether a page is good: a contract. -/
import Derived.Test.YtaadeoobmclpcaaPagRefB
namespace Go.Proofs.Ytaadeoobmclpcaa
open Go.ChangeShapes Go.WideShapes Go.ChangeAt Go.RowKit

/-- What it tells. -/
def GoodOut (w : World) (zs : List Nat) (e : Ending) (w' : World) : Prop := ∃ b, e = .returned (.bool b) ∧ (b = true ↔ Good zs) ∧ Below w.heap.size w w'
theorem good_true {w : World} {zs : List Nat} {e : Ending} {w' : World} (h : GoodOut w zs e w') (hg : Good zs) : e = .returned (.bool true) ∧ Below w.heap.size w w' := by
  obtain ⟨b, rfl, hb, hw⟩ := h
  rw [hb.2 hg]
  exact ⟨rfl, hw⟩
theorem good_false {w : World} {zs : List Nat} {e : Ending} {w' : World} (h : GoodOut w zs e w') (hg : ¬ Good zs) : e = .returned (.bool false) ∧ Below w.heap.size w w' := by
  obtain ⟨b, rfl, hb, hw⟩ := h
  cases b with
  | true => exact absurd (hb.1 rfl) hg
  | false => exact ⟨rfl, hw⟩
theorem goodOut_no {w : World} {zs : List Nat} {w' : World} (hg : ¬ Good zs) (hw : Below w.heap.size w w') : GoodOut w zs (.returned (.bool false)) w' := ⟨false, rfl, ⟨(fun h => by cases h), fun h => absurd h hg⟩, hw⟩
/-- What its loops keep. -/
def InGood (w wr : World) (B2 : Nat) (T : List Bool) : Prop := Cells wr B2 4 (bools T) ∧ Below w.heap.size w wr ∧ T.length = 512 ∧ w.heap.size ≤ B2
theorem infoB : (Try.prog.info? 4).map (fun i => (i.zero, i.size, i.bytes)) = some (some (.bool false), 1, 1) := by kernel_rfl
theorem made_bools : (madeCells (Value.cells (.bool false)) (512 * 1)).toList = (List.replicate 512 false).map Value.bool := by
  rw [show Value.cells (.bool false) = #[.bool false] from rfl, toList_madeCells_one, List.map_replicate]
theorem ownB_cells {w : World} {B g n : Nat} {T : List Bool} (h : w.ownsRow B 4 1 (.slice (some ⟨g, 0, none⟩) n n) n (T.map Value.bool)) : Cells w g 4 (bools T) := by
  rcases h.2 with ⟨h', _⟩ | ⟨g', cap', cur, h', _, hg, _, _, hcs, htake⟩
  · simp at h'
  · simp only [Value.slice.injEq, Option.some.injEq, Addr.mk.injEq, and_true, true_and] at h'
    obtain ⟨rfl, rfl⟩ := h'
    rw [List.take_of_length_le (by simp; omega)] at htake
    have e : cur = bools T := by
      rw [bools, ← htake, Array.toArray_toList]
    rw [← e]
    exact hg
end Go.Proofs.Ytaadeoobmclpcaa
