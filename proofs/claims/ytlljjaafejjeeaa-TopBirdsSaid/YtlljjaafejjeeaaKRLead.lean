/- The document's leads: walked. -/
import Derived.Test.YtlljjaafejjeeaaKRFrom
namespace Go.Proofs.Ytlljjaafejjeeaa
open Go.RowKit
end Go.Proofs.Ytlljjaafejjeeaa
