/- A page's link and extra number are set: contracts. -/
import Derived.Test.YtmojfhleelhghaaPagSeals
namespace Go.Proofs.Ytmojfhleelhghaa
open Go.ChangeShapes Go.WideShapes Go.ChangeAt Go.RowKit

end Go.Proofs.Ytmojfhleelhghaa
