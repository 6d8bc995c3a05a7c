/- The document's areApart, AreApart of both: walked. -/
import Derived.Test.YtlljjaafejjeeaaKApart
namespace Go.Proofs.Ytlljjaafejjeeaa
open Go.RowKit

end Go.Proofs.Ytlljjaafejjeeaa
