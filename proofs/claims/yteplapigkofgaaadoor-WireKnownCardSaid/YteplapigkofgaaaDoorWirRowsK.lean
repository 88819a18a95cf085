/- What the row of chapter 19's examples leans on. -/
import Derived.Test.YteplapigkofgaaaDoorWirRows
import Derived.Test.YteplapigkofgaaaDoorWirKnow
namespace Go.Proofs.YteplapigkofgaaaDoor
open Go.ChangeShapes Go.WideShapes Go.ChangeAt Go.RowKit
theorem known_in {W : World} (hT : TabAt W) : Calls Tryd.prog 3 #[] W fun e w' => e = .returned (.bool true) ∧ Below W.heap.size W w' := known_law W hT
end Go.Proofs.YteplapigkofgaaaDoor
