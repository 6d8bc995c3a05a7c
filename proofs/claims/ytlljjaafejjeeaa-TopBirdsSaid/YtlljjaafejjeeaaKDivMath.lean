/- Maps and lists of bools of what was seen; lists that divide the sightings: plain facts. -/
import Derived.Test.YtlljjaafejjeeaaKTab
import Derived.Test.YtlljjaafejjeeaaKIsBird
import Derived.Maps.OwnSet
import Derived.Maps.OwnOps
namespace Go.Proofs.Ytlljjaafejjeeaa
open Go.RowKit Go.Maps

theorem wpList_lookup_own_bool {H : Type} {P : Program} (w : World) {ops : Array Oper} {rest : List Oper} {o : Oper} {a : Act} {Q : Exit → Act → World → Prop}
    (hg : o.guard = none) (m x : Operand) (t : TypeId) (hop : o.op = Op.lookup t m x false)
    (k e : TypeId) (K : Keyed P k) (ht : P.underlying t = some (.map k e)) (he : P.underlying e = some .bool) (hz : (zeroValue e).run P w = .ok (.bool false) w) (b n : Nat) (D : DataW H)
    (hm : a.eval m = .map (some b)) (hown : w.ownsMap P k (plainElem P e) b n D) (key : Value) (kl : Lit) (hx : a.eval x = key) (hkey : keyOf P k key = some kl)
    (hK : ∀ c : Bool, D.atKey kl (.lit (.bool false)) = .lit (.bool c) → wpList P ops Q rest (a.put o.dst (.bool c)) w) :
    wpList P ops Q (o :: rest) a w := by
  refine wpList_plain hg fun K' hK' => ?_
  obtain ⟨v, ps, hrun, hv⟩ := hown.lookup K ht hz (plainElem_bool he false) hkey
  obtain ⟨c, rfl, hc⟩ : ∃ c, v = .bool c ∧ D.atKey kl (.lit (.bool false)) = .lit (.bool c) := by
    unfold plainElem at hv
    rw [he] at hv
    cases v <;> simp at hv
    exact ⟨_, rfl, hv.1.symm⟩
  unfold Oper.wp
  simp [execOp, hop, hm, hx, hrun, Result.andThen]
  exact hK' _ _ (hK c hc)
def kN (s : Nat) : Lit := .int .i64 (s : Nat)
theorem kN_key (s : Nat) : WideAt.IsKeyLit (kN s) := by simp [WideAt.IsKeyLit, kN]
theorem kN_ne {a b : Nat} (h : a ≠ b) : kN a ≠ kN b := fun e => h (by simp [kN] at e; omega)
theorem kN_wf {s : Nat} (h : s ≤ 1000000) : (Lit.int .i64 (s : Nat)).wf = true := WalkArith.wf_i64 (by omega)
theorem lawI : Keyed Try.prog 3 := int_keyed Try.underlying3
theorem zeroB (w : World) : (zeroValue 4).run Try.prog w = .ok (.bool false) w := by kernel_rfl
/-- What was seen, as a map. -/
def SeenL (l : List Nat) (D : DataW Unit) : Prop :=
  Tidy D ∧ (∀ s : Nat, Maps.has D (kN s) = decide (s ∈ l)) ∧ (∀ s : Nat, D.atKey (kN s) (.lit (.bool false)) = .lit (.bool (decide (s ∈ l)))) ∧ Maps.size D = l.length
theorem SeenL.zero : SeenL [] (.map []) := ⟨tidy_empty, fun s => rfl, fun s => rfl, rfl⟩
theorem SeenL.step {l : List Nat} {D : DataW Unit} (h : SeenL l D) {x : Nat} (hx : x ∉ l) : SeenL (l ++ [x]) (D.put (kN x) (.lit (.bool true))) := by
  obtain ⟨h1, h2, h3, h4⟩ := h
  refine ⟨h1.put (kN_key _) _, fun s => ?_, fun s => ?_, ?_⟩
  · by_cases e : s = x
    · subst e
      rw [has_put_same h1.isMap (kN_key _)]
      simp
    · rw [has_put_other (kN_ne e), h2]
      simp [e]
  · by_cases e : s = x
    · subst e
      rw [atKey_put_same h1.isMap (kN_key _)]
      simp
    · rw [atKey_put_other (kN_ne e), h3]
      simp [e]
  · rw [size_put h1, h2, h4]
    simp [hx]
/-- The numbers of a list, up to one. -/
def rowTo (r : Row) (j : Nat) : List Nat := (List.range j).map fun i => (r.f i).toNat
theorem rowTo_succ (r : Row) (j : Nat) : rowTo r (j + 1) = rowTo r j ++ [(r.f j).toNat] := by simp [rowTo, List.range_succ]
theorem rowTo_len (r : Row) (j : Nat) : (rowTo r j).length = j := by simp [rowTo]
/-- The numbers of the first lists. -/
def flatN (R : Nat → Row) : Nat → List Nat
  | 0 => []
  | k + 1 => flatN R k ++ rowTo (R k) (R k).n
theorem flat_more (R : Nat → Row) {k K : Nat} (h : k ≤ K) : ∃ t, flatN R K = flatN R k ++ t := by
  induction K with
  | zero =>
    obtain rfl : k = 0 := by omega
    exact ⟨[], by simp⟩
  | succ K ih =>
    by_cases e : k = K + 1
    · subst e; exact ⟨[], by simp⟩
    · obtain ⟨t, ht⟩ := ih (by omega)
      exact ⟨t ++ rowTo (R K) (R K).n, by rw [flatN, ht, List.append_assoc]⟩
theorem row_more (r : Row) {j J : Nat} (h : j ≤ J) : ∃ t, rowTo r J = rowTo r j ++ t := by
  induction J with
  | zero =>
    obtain rfl : j = 0 := by omega
    exact ⟨[], by simp⟩
  | succ J ih =>
    by_cases e : j = J + 1
    · subst e; exact ⟨[], by simp⟩
    · obtain ⟨t, ht⟩ := ih (by omega)
      exact ⟨t ++ [(r.f J).toNat], by rw [rowTo_succ, ht, List.append_assoc]⟩
theorem flat_dup {R : Nat → Row} {K k j : Nat} (hk : k < K) (hj : j < (R k).n) (hx : ((R k).f j).toNat ∈ flatN R k ++ rowTo (R k) j) : ¬ (flatN R K).Nodup := by
  intro hd
  obtain ⟨t, ht⟩ := flat_more R (show k + 1 ≤ K by omega)
  obtain ⟨u, hu⟩ := row_more (R k) (show j + 1 ≤ (R k).n by omega)
  rw [ht, flatN, hu, rowTo_succ] at hd
  have e : flatN R k ++ (rowTo (R k) j ++ [((R k).f j).toNat] ++ u) ++ t = (flatN R k ++ rowTo (R k) j) ++ ([((R k).f j).toNat] ++ (u ++ t)) := by simp [List.append_assoc]
  rw [e] at hd
  exact (List.nodup_append.1 hd).2.2 _ hx _ (by simp) rfl
theorem flat_len_le {R : Nat → Row} {c : Nat} : ∀ {k : Nat}, (∀ i, i < k → (R i).n ≤ c) → (flatN R k).length ≤ c * k := by
  intro k
  induction k with
  | zero => intro _; simp [flatN]
  | succ k ih =>
    intro h
    have h1 := ih fun i hi => h i (by omega)
    have h2 := h k (by omega)
    rw [flatN, List.length_append, rowTo_len, Nat.mul_succ]
    omega
/-- Do lists, each of which is as asked, divide n sightings? -/
def divB (n k : Nat) (R : Nat → Row) (q : Nat → Bool) : Bool := allB k q && (decide (flatN R k).Nodup && decide ((flatN R k).length = n))
end Go.Proofs.Ytlljjaafejjeeaa
