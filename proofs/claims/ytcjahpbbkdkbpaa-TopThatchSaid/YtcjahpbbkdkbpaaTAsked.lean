/- The document's Asked: walked. -/
import Derived.Test.YtcjahpbbkdkbpaaTIsWork
namespace Go.Proofs.Ytcjahpbbkdkbpaa
open Go.RowKit

end Go.Proofs.Ytcjahpbbkdkbpaa
