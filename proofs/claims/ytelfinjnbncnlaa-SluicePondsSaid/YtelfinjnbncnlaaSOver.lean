/- The law's own over: walked. -/
import Derived.Test.YtelfinjnbncnlaaRunOver
namespace Go.Proofs.Ytelfinjnbncnlaa
open Go.RowKit

end Go.Proofs.Ytelfinjnbncnlaa
