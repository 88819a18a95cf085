/- What the rows give their walks: bytes and numbers that came in. -/
import Derived.Test.YthanjncpgcmnaaaLckLive
namespace Go.Proofs.Ythanjncpgcmnaaa
open Go.ChangeShapes Go.WideShapes Go.ChangeAt Go.RowKit

theorem reach_at {len cap : Nat} {H : Type} {ds : List (DataW H)} {ts : List TypeId} {zs : List Int} (i : Nat) (hsz : (DataW.weightsEach Try.prog ts ds).all (· ≤ reachBytes) = true) (ht : ts[i]? = some 54)
    (hd : ds[i]? = some (.slice (lits .u8 (zs.take len)) (lits .u8 (zs.drop len)))) (hz : zs.length = cap) : cap ≤ 140737488351232 := by
  have := sized_slice hsz ht hd Try.underlying54
  rw [bytes5] at this
  simp only [lits, List.length_map, List.length_take, List.length_drop, reachBytes] at this
  omega
theorem in_of {w : World} {a : Option Addr} {len cap : Nat} {l : List Nat} (h : InAt w a len cap l) (hr : cap ≤ 140737488351232) : In w a cap l :=
  ⟨h.2.2.2.2, fun hn => (h.2.2.2.1 hn).2, by have := h.1; have := h.2.1; omega⟩
/-- A world for the witness: the settled one. -/
noncomputable def plainWorld (os : Os) : World := World.holding Try.prog os ⟨#[], #[], []⟩
end Go.Proofs.Ythanjncpgcmnaaa
