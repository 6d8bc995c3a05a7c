/- The document's once: walked. -/
import Derived.Test.YtlljjaafejjeeaaKDivMath
namespace Go.Proofs.Ytlljjaafejjeeaa
open Go.RowKit

theorem nodup_snoc {l : List Nat} {x : Nat} (h : l.Nodup) (hx : x ∉ l) : (l ++ [x]).Nodup :=
  List.nodup_append.2 ⟨h, by simp, fun a ha b hb e => by simp at hb; subst hb; subst e; exact hx ha⟩
end Go.Proofs.Ytlljjaafejjeeaa
