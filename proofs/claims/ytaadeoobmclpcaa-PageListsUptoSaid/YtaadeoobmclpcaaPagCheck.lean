/- Whether a page may have been read; a good page's head: contracts. -/
import Derived.Test.YtaadeoobmclpcaaPagCheckA
namespace Go.Proofs.Ytaadeoobmclpcaa
open Go.ChangeShapes Go.WideShapes Go.ChangeAt Go.RowKit

theorem bytes_sub {w : World} {g off : Nat} {zs : List Nat} (h : BytesAt w (some ⟨g, off, none⟩) zs) (k : Nat) : BytesAt w (some ⟨g, off + k, none⟩) (zs.drop k) :=
  ⟨fun c hc => h.1 c (List.mem_of_mem_drop hc), Nat.le_trans (by simp) h.2.1, fun j hj => by
    have hj' : k + j < zs.length := by simp at hj; omega
    obtain ⟨b, o, e, hc⟩ := h.2.2 (k + j) hj'
    cases e
    refine ⟨g, off + k, rfl, ?_⟩
    rw [List.getElem_drop, ← hc, Nat.add_assoc]⟩
/-- What Check tells. -/
def checkOf (zs : List Nat) (e : Int) : Prop := (zs = noughts ∧ e = 0) ∨ (zs ≠ noughts ∧ ¬ Good zs ∧ e = 4) ∨ (zs ≠ noughts ∧ Good zs ∧ rd zs 0 4 ≠ more 0 (zs.drop 4) ∧ e = 8) ∨ (zs ≠ noughts ∧ Good zs ∧ rd zs 0 4 = more 0 (zs.drop 4) ∧ e = 0)
end Go.Proofs.Ytaadeoobmclpcaa
