/- The sum of any bytes behind any others, as a contract. -/
import Derived.Test.YtaadeoobmclpcaaSumPlain
import Derived.Test.YtaadeoobmclpcaaRows
import Derived.WalkKit
import Derived.ProofKit
import Derived.OpenShut
import Derived.WalkLawsBesides
import Derived.WalkSpells
import Derived.Outline
import Derived.Lib.LaidTab
import Derived.Lib.Hide
import Derived.Laws.BitsAllLaws
namespace Go.Proofs.Ytaadeoobmclpcaa
open Go.ChangeShapes Go.WideShapes Go.ChangeAt Go.RowKit

/-- A slice that reads as these bytes. -/
def BytesAt (w : World) (a : Option Addr) (zs : List Nat) : Prop := (∀ c ∈ zs, c < 256) ∧ zs.length ≤ maxLen ∧ ∀ j, (h : j < zs.length) → ∃ b off, a = some ⟨b, off, none⟩ ∧ w.cell? ⟨b, off + j, none⟩ = some (.int .u8 (zs[j] : Int))

end Go.Proofs.Ytaadeoobmclpcaa
