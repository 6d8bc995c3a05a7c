/- wale.After: states told by maps of bools. -/
import Derived.Test.YtnjloomhhgilcaaWPlansWalk
namespace Go.Proofs.Ytnjloomhhgilcaa
open Go.RowKit Go.Maps

/-- 'm[k]' at elements that are bools. -/
theorem wpList_lookup_own_bool {H : Type} {P : Program} (w : World) {ops : Array Oper} {rest : List Oper} {o : Oper} {a : Act} {Q : Exit → Act → World → Prop}
    (hg : o.guard = none) (m x : Operand) (t : TypeId) (hop : o.op = Op.lookup t m x false)
    (k e : TypeId) (K : Keyed P k) (ht : P.underlying t = some (.map k e)) (he : P.underlying e = some .bool) (hz : (zeroValue e).run P w = .ok (.bool false) w) (b n : Nat) (D : DataW H)
    (hm : a.eval m = .map (some b)) (hown : w.ownsMap P k (plainElem P e) b n D) (key : Value) (kl : Lit) (hx : a.eval x = key) (hkey : keyOf P k key = some kl)
    (hK : ∀ c : Bool, D.atKey kl (.lit (.bool false)) = .lit (.bool c) → wpList P ops Q rest (a.put o.dst (.bool c)) w) :
    wpList P ops Q (o :: rest) a w := by
  refine wpList_plain hg fun K' hK' => ?_
  obtain ⟨v, ps, hrun, hv⟩ := hown.lookup K ht hz (plainElem_bool he false) hkey
  obtain ⟨c, rfl, hc⟩ : ∃ c, v = .bool c ∧ D.atKey kl (.lit (.bool false)) = .lit (.bool c) := by
    unfold plainElem at hv
    rw [he] at hv
    cases v <;> simp at hv
    exact ⟨_, rfl, hv.1.symm⟩
  unfold Oper.wp
  simp [execOp, hop, hm, hx, hrun, Result.andThen]
  exact hK' _ _ (hK c hc)

/-- Is s a state in which plans of y changes end? -/
def endsB (m : Nat) (f t : Nat → Nat) (start : Nat) : Nat → Nat → Bool
  | 0, s => decide (s = start)
  | y + 1, s => !(allB m fun i => !(endsB m f t start y (f i) && decide (t i = s)))
/-- A map that tells states. -/
def Tells (D : DataW Unit) (E : Nat → Bool) : Prop := Tidy D ∧ (∀ s : Nat, Maps.has D (kN s) = E s) ∧ (∀ s : Nat, D.atKey (kN s) (.lit (.bool false)) = .lit (.bool (E s)))
theorem Tells.zero : Tells (.map []) (fun _ => false) := ⟨tidy_empty, fun s => rfl, fun s => rfl⟩
theorem Tells.put {D : DataW Unit} {E : Nat → Bool} (h : Tells D E) (x : Nat) : Tells (D.put (kN x) (.lit (.bool true))) (fun s => E s || decide (s = x)) := by
  refine ⟨h.1.put (kN_key _) _, fun s => ?_, fun s => ?_⟩
  · by_cases e : s = x
    · subst e
      rw [has_put_same h.1.isMap (kN_key _)]; simp
    · rw [has_put_other (kN_ne e), h.2.1]; simp [e]
  · by_cases e : s = x
    · subst e
      rw [atKey_put_same h.1.isMap (kN_key _)]; simp
    · rw [atKey_put_other (kN_ne e), h.2.2]; simp [e]
theorem Tells.congr {D : DataW Unit} {E E' : Nat → Bool} (h : Tells D E) (e : ∀ s, E s = E' s) : Tells D E' := ⟨h.1, fun s => by rw [h.2.1, e], fun s => by rw [h.2.2, e]⟩
/-- Which ends have been found when k changes have been looked at. -/
def partE (f t : Nat → Nat) (E : Nat → Bool) (k s : Nat) : Bool := !(allB k fun i => !(E (f i) && decide (t i = s)))
theorem partE_succ (f t : Nat → Nat) (E : Nat → Bool) (k s : Nat) : partE f t E (k + 1) s = (partE f t E k s || (E (f k) && decide (t k = s))) := by
  unfold partE
  rw [allB_succ]
  cases allB k (fun i => !(E (f i) && decide (t i = s))) <;> cases (E (f k) && decide (t k = s)) <;> rfl
theorem zeroB (w : World) : (zeroValue 4).run Try.prog w = .ok (.bool false) w := by kernel_rfl
end Go.Proofs.Ytnjloomhhgilcaa
