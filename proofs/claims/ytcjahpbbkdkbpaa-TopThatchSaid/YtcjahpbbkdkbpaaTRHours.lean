/- The document's Hours: walked. -/
import Derived.Test.YtcjahpbbkdkbpaaTHoursM
import Derived.Test.YtcjahpbbkdkbpaaTAsked
import Derived.Test.YtcjahpbbkdkbpaaTNeed
namespace Go.Proofs.Ytcjahpbbkdkbpaa
open Go.RowKit

end Go.Proofs.Ytcjahpbbkdkbpaa
