/- What the rows of this seat give their walks: a slice of bytes that came in; a world for the witness. -/
import Derived.Test.YtpbdchcocadnkaaDoorCards
import Derived.Test.YtpbdchcocadnkaaDoorTie
import Derived.Test.YtpbdchcocadnkaaDoorKeyBytes
namespace Go.Proofs.YtpbdchcocadnkaaDoor
open Go.ChangeShapes Go.WideShapes Go.ChangeAt Go.RowKit

theorem reach_at {len cap : Nat} {H : Type} {ds : List (DataW H)} {ts : List TypeId} {zs : List Int} (i : Nat) (hsz : (DataW.weightsEach Tryd.prog ts ds).all (· ≤ reachBytes) = true) (ht : ts[i]? = some 22)
    (hd : ds[i]? = some (.slice (lits .u8 (zs.take len)) (lits .u8 (zs.drop len)))) (hz : zs.length = cap) : cap ≤ 140737488351232 := by
  have := sized_slice hsz ht hd Tryd.underlying22
  rw [bytes5] at this
  simp only [lits, List.length_map, List.length_take, List.length_drop, reachBytes] at this
  omega
def acceptI : List Int := [128, 191, 160, 191, 128, 159, 144, 191, 128, 143, 0, 0, 0, 0, 0, 0, 0, 0, 0, 0, 0, 0, 0, 0, 0, 0, 0, 0, 0, 0, 0, 0]
/-- A variable's cells written anew. -/
def relaid (h : Array Obj) (g : Nat) (vs : List Value) : Array Obj := h.modify g fun
  | .cells _ t frozen => .cells vs.toArray t frozen
  | o => o
/-- A world for the witness: the settled one, the tables holding what their initialisers lay. -/
noncomputable def laidWorld (os : Os) : World :=
  { World.holding Tryd.prog os ⟨#[], #[], []⟩ with heap := relaid (relaid (World.holding Tryd.prog os ⟨#[], #[], []⟩).heap 2 (Go.Pinned.utf8FirstZ.map fun n : Nat => Value.int .u8 (n : Int))) 3 (acceptI.map (Value.int .u8)) }
set_option maxRecDepth 100000 in
theorem laid_any (os : Os) (args : Array Value) : laidMet Tryd.prog Rows.keyBytesRow.laid ((laidWorld os).forCall (fun _ _ => 0) ⟨#[], args, []⟩).memory :=
  laidMet_of_run' 8 (by kernel_rfl) (by kernel_rfl)
theorem keybytes_in {W : World} {a b : Option Addr} {len cap len' cap' : Nat} {l m : List Nat} (h : InAt W a len cap l) (h' : InAt W b len' cap' m) (hr : cap ≤ 140737488351232) : Calls Tryd.prog 3 #[.slice a len cap, .slice b len' cap'] W fun e w' => e = .returned (.bool true) ∧ Below W.heap.size W w' :=
  keybytes_law h.2.2.2.2 h'.2.2.2.2 h.1 h'.1 (Nat.le_trans h.2.1 hr) h.2.1
end Go.Proofs.YtpbdchcocadnkaaDoor
