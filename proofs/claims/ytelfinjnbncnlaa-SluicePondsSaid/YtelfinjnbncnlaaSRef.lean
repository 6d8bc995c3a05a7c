/- The law's own Buckets and Sum: walked. -/
import Derived.Test.YtelfinjnbncnlaaSluiceFirst
namespace Go.Proofs.Ytelfinjnbncnlaa
open Go.RowKit

end Go.Proofs.Ytelfinjnbncnlaa
