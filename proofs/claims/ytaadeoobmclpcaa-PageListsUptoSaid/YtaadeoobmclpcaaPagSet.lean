/- A page's link and extra number are set: contracts. -/
import Derived.Test.YtaadeoobmclpcaaPagSeals
namespace Go.Proofs.Ytaadeoobmclpcaa
open Go.ChangeShapes Go.WideShapes Go.ChangeAt Go.RowKit

end Go.Proofs.Ytaadeoobmclpcaa
