/- What the row of KeyPrefix gives its walk. -/
import Derived.Test.YtpbdchcocadnkaaDoorKeyRows
import Derived.Test.YtpbdchcocadnkaaDoorKeyPre
namespace Go.Proofs.YtpbdchcocadnkaaDoor
open Go.ChangeShapes Go.WideShapes Go.ChangeAt Go.RowKit

theorem prefix_in {W : World} {a b : Option Addr} {len cap len' cap' : Nat} {l m : List Nat} (h : InAt W a len cap l) (h' : InAt W b len' cap' m) (hr : cap ≤ 140737488351232) (hr' : cap' ≤ 140737488351232) : Calls Tryd.prog 5 #[.slice a len cap, .slice b len' cap'] W fun e w' => e = .returned (.bool true) ∧ Below W.heap.size W w' :=
  prefix_law h.2.2.2.2 h'.2.2.2.2 h.1 h'.1 h'.2.1 (Nat.le_trans h.2.1 hr) (Nat.le_trans h'.2.1 hr')
end Go.Proofs.YtpbdchcocadnkaaDoor
