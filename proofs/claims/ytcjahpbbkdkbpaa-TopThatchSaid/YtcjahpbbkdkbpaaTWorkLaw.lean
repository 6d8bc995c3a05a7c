/- The law of work: walked. -/
import Derived.Test.YtcjahpbbkdkbpaaTWork
import Derived.Test.YtcjahpbbkdkbpaaTWorkP
import Derived.Test.YtcjahpbbkdkbpaaTRIsWork
namespace Go.Proofs.Ytcjahpbbkdkbpaa
open Go.RowKit

end Go.Proofs.Ytcjahpbbkdkbpaa
