/- The document's own slots, counts, free bytes, copies of pages, numbers laid in: contracts. -/
import Derived.Test.YtaadeoobmclpcaaPagRef
import Derived.Test.YtaadeoobmclpcaaPagLays
namespace Go.Proofs.Ytaadeoobmclpcaa
open Go.ChangeShapes Go.WideShapes Go.ChangeAt Go.RowKit

/-- A copy of a page. -/
def CopyOut (w : World) (zs : List Nat) (e : Ending) (w' : World) : Prop := ∃ g c, e = .returned (.slice (some ⟨g, 0, none⟩) 512 c) ∧ Has w' g zs ∧ w.heap.size ≤ g ∧ 512 ≤ c ∧ c ≤ maxLen ∧ Below w.heap.size w w'
end Go.Proofs.Ytaadeoobmclpcaa
