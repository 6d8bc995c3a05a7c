/- Maps of states that were seen, and wale's first. -/
import Derived.Test.YtnjloomhhgilcaaWPlan
import Derived.Maps.OwnSet
import Derived.Maps.OwnOps
namespace Go.Proofs.Ytnjloomhhgilcaa
open Go.RowKit Go.Maps

theorem IsChs.below {w v : World} {A : Option Addr} {m : Nat} {F T V : Nat → Int} (h : IsChs w A m F T V) (hb : Below w.heap.size w v) : IsChs v A m F T V := h.later ⟨v, hb⟩
theorem Ints.below {w v : World} {b off n : Nat} {f : Nat → Int} (h : Ints w b off n f) (hb : Below w.heap.size w v) : Ints v b off n f := h.later ⟨v, hb⟩
theorem IsInts.below {w v : World} {A : Option Addr} {n : Nat} {f : Nat → Int} (h : IsInts w A n f) (hb : Below w.heap.size w v) : IsInts v A n f := h.later ⟨v, hb⟩
theorem Chs.below {w v : World} {b off m : Nat} {F T V : Nat → Int} (h : Chs w b off m F T V) (hb : Below w.heap.size w v) : Chs v b off m F T V := h.later ⟨v, hb⟩
def kN (s : Nat) : Lit := .int .i64 (s : Nat)
theorem kN_key (s : Nat) : WideAt.IsKeyLit (kN s) := by simp [WideAt.IsKeyLit, kN]
theorem kN_ne {a b : Nat} (h : a ≠ b) : kN a ≠ kN b := fun e => h (by simp [kN] at e; omega)
/-- The last of the first k of a list with From s. -/
def lastF (f : Nat → Nat) (p : List Nat) (s k : Nat) : Option Nat := lastN (fun j => decide (f (p.getD j 0) = s)) k
/-- Where states were seen last, among the first k. -/
def SeenM (f : Nat → Nat) (p : List Nat) (k : Nat) (D : DataW Unit) : Prop :=
  ∀ s : Nat, Maps.has D (kN s) = (lastF f p s k).isSome ∧ ∀ j, lastF f p s k = some j → D.atKey (kN s) (.lit (.int .i64 0)) = .lit (.int .i64 (j : Nat))
theorem SeenM.zero (f : Nat → Nat) (p : List Nat) : SeenM f p 0 (.map []) := fun s => ⟨rfl, fun j h => by cases h⟩
theorem SeenM.step {f : Nat → Nat} {p : List Nat} {k : Nat} {D : DataW Unit} (h : SeenM f p k D) (hD : IsMap D) : SeenM f p (k + 1) (D.put (kN (f (p.getD k 0))) (.lit (.int .i64 (k : Nat)))) := by
  intro s
  by_cases e : f (p.getD k 0) = s
  · subst e
    have h1 : lastF f p (f (p.getD k 0)) (k + 1) = some k := by simp [lastF, lastN]
    rw [h1]
    exact ⟨by rw [has_put_same hD (kN_key _)]; rfl, fun j hj => by obtain rfl := Option.some.inj hj; exact atKey_put_same hD (kN_key _) _ _⟩
  · have h1 : lastF f p s (k + 1) = lastF f p s k := by unfold lastF; rw [lastN, if_neg (by simp only [decide_eq_true_eq]; exact e)]
    rw [h1, has_put_other (kN_ne fun q => e q.symm)]
    exact ⟨(h s).1, fun j hj => by rw [atKey_put_other (kN_ne fun q => e q.symm)]; exact (h s).2 j hj⟩
/-- How many states were seen: as many as changes just if they differ. -/
def diffB (f : Nat → Nat) (p : Nat → Nat) (k : Nat) : Bool := allB k fun i => allB i fun j => decide (f (p j) ≠ f (p i))
theorem diffB_succ (f : Nat → Nat) (p : Nat → Nat) (k : Nat) : diffB f p (k + 1) = (diffB f p k && allB k fun j => decide (f (p j) ≠ f (p k))) := by
  unfold diffB allB
  rw [List.range_succ, List.all_append]
  simp
def SeenS (f : Nat → Nat) (p : Nat → Nat) (k : Nat) (D : DataW Unit) : Prop :=
  Tidy D ∧ (∀ s : Nat, Maps.has D (kN s) = !(allB k fun j => decide (f (p j) ≠ s))) ∧ Maps.size D ≤ k ∧ (diffB f p k = true ↔ Maps.size D = k)
theorem SeenS.zero (f p : Nat → Nat) : SeenS f p 0 (.map []) := ⟨tidy_empty, fun s => rfl, Nat.le_refl _, by simp [diffB, allB, Maps.size]⟩
theorem allB_succ (k : Nat) (q : Nat → Bool) : allB (k + 1) q = (allB k q && q k) := by
  unfold allB
  rw [List.range_succ, List.all_append]
  simp
theorem SeenS.step {f p : Nat → Nat} {k : Nat} {D : DataW Unit} (h : SeenS f p k D) : SeenS f p (k + 1) (D.put (kN (f (p k))) (.lit (.bool true))) := by
  obtain ⟨h1, h2, h3, h4⟩ := h
  refine ⟨h1.put (kN_key _) _, fun s => ?_, ?_, ?_⟩
  · rw [allB_succ]
    by_cases e : s = f (p k)
    · subst e
      rw [has_put_same h1.isMap (kN_key _)]
      simp
    · rw [has_put_other (kN_ne e), h2]
      have : decide (f (p k) ≠ s) = true := by simp; exact fun q => e q.symm
      rw [this, Bool.and_true]
  · rw [size_put h1]; split <;> omega
  · rw [size_put h1, diffB_succ, h2]
    cases hb : allB k fun j => decide (f (p j) ≠ f (p k))
    · simp; omega
    · simp [h4]

theorem zeroI (w : World) : (zeroValue 3).run Try.prog w = .ok (.int .i64 0) w := by kernel_rfl
theorem lawI : Keyed Try.prog 3 := int_keyed Try.underlying3

theorem kN_wf {s : Nat} (h : s ≤ 1000000) : (Lit.int .i64 (s : Nat)).wf = true := WalkArith.wf_i64 (by omega)

/-- The piece of a plan that is its first circle. -/
def segV (pb po cap : Nat) : Option (Nat × Nat) → Value
  | some (j, i) => .slice (some ⟨pb, po + j, none⟩) (i - j) (cap - j)
  | none => .slice none 0 0
theorem segN_stop {f t : Nat → Nat} {p : List Nat} {i j : Nat} : ∀ {d k : Nat}, k ≤ i → i < k + d → (∀ x, k ≤ x → x < i → backN f t p x = none) → backN f t p i = some j → segN f t p d k = some (j, i + 1) := by
  intro d
  induction d with
  | zero => intro k h1 h2; omega
  | succ d ih =>
    intro k h1 h2 h3 h4
    unfold segN
    by_cases e : k = i
    · subst e; rw [h4]
    · rw [h3 k (Nat.le_refl _) (by omega)]
      exact ih (by omega) (by omega) (fun x hx => h3 x (by omega)) h4
theorem segN_go {f t : Nat → Nat} {p : List Nat} : ∀ {d k : Nat}, (∀ x, k ≤ x → x < k + d → backN f t p x = none) → segN f t p d k = none := by
  intro d
  induction d with
  | zero => intro k _; rfl
  | succ d ih =>
    intro k h
    unfold segN
    rw [h k (Nat.le_refl _) (by omega)]
    exact ih fun x h1 h2 => h x (by omega) (by omega)
set_option maxRecDepth 100000 in
set_option maxHeartbeats 3200000 in
theorem first_any (n m cap k pb po pc : Nat) (A : Option Addr) (f t : Nat → Nat) (V : Nat → Int) (p : List Nat) (w : World) (hm : m ≤ 1000) (hk : k ≤ 2000) (hkc : k ≤ pc) (R : Rot n m f t V) (hp : IsChs w A m (fun i => (f i : Int)) (fun i => (t i : Int)) V) (hl : p.length = k) (hc : Ints w pb po k fun i => (p.getD i 0 : Nat)) (hpm : ∀ i ∈ p, i < m) :
    Gives Try.prog 63 #[.agg #[.int .i64 n, .slice A m cap], .slice (some ⟨pb, po, none⟩) k pc] w (segV pb po pc (segN f t p p.length 0)) := by
  have hn8 := R.n8
  have HR := Lib.hid R
  have hb : Below w.heap.size w (w.alloc (.cells #[.int .i64 n, .slice A m cap] 75)) := (Below.refl _ _).alloc (Nat.le_refl _) _
  have HP : Hid (IsChs (w.alloc (.cells #[.int .i64 n, .slice A m cap] 75)) A m (fun i => (f i : Int)) (fun i => (t i : Int)) V) := hp.later ⟨_, hb⟩
  have HC : Hid (Ints (w.alloc (.cells #[.int .i64 n, .slice A m cap] 75)) pb po k fun i => (p.getD i 0 : Nat)) := hc.later ⟨_, hb⟩
  have HB := Lib.hid hb
  have HL := Lib.hid hl
  have HPM : Hid (∀ i, i < k → p.getD i 0 < m) := fun i hi => by
    rw [List.getD_eq_getElem?_getD, List.getElem?_eq_getElem (by omega), Option.getD_some]
    exact hpm _ (List.getElem_mem _)
  obtain ⟨c0, c1, l0⟩ := box2 w (.int .i64 n) (.slice A m cap) 75
  have hmm := @run_makeMap Try.prog
  clear hp hc hb hl hpm R
  go_enter Try.func63, Try.ntmps63
  go_wp2
  have hz : (w.alloc (.cells #[.int .i64 n, .slice A m cap] 75)).heap.size = w.heap.size + 1 := by simp
  obtain ⟨b8, hb8⟩ : ∃ b8, w.heap.size = b8 := ⟨_, rfl⟩
  rw [hb8] at c0 c1 l0 hz ⊢
  clear hb8
  generalize w.alloc (.cells #[.int .i64 n, .slice A m cap] 75) = Z at *
  have HM0 : Hid ((Z.alloc (.map #[] 0)).ownsMap Try.prog 3 (plainElem Try.prog 3) (b8 + 1) 0 (.map [] : DataW Unit)) := by
    have h := World.ownsMap_made (H := Unit) Z Try.prog 3 (plainElem Try.prog 3)
    rw [hz] at h
    exact h
  have HZ := Lib.hid hz
  clear hz hmm
  go_loopw [13] (fun v wr => ∃ (i : Nat) (D : DataW Unit), v = .int .i64 (i : Nat) ∧ i ≤ k ∧ Below Z.heap.size Z wr ∧ wr.ownsMap Try.prog 3 (plainElem Try.prog 3) (b8 + 1) i D ∧ SeenM f p i D ∧ ∀ x, x < i → backN f t p x = none) (fun v _ => k - (intOf v).toNat)
  case atStart => exact ⟨0, .map [], rfl, by omega, (Below.refl _ _).alloc (Nat.le_refl _) _, HM0.out, SeenM.zero f p, fun x hx => by omega⟩
  case round =>
    obtain ⟨i, D, rfl, hik, hbl, hown, hs, hno⟩ := hrel
    clear HM0
    have HS := Lib.hid hs
    have HO := Lib.hid hown
    have HN := Lib.hid hno
    have HBL := Lib.hid hbl
    clear hs hno hown
    generalize wr = WR at *
    by_cases hlt : i < k
    · have ST := Lib.hid (HS.out.step HO.out.isMap)
      have him := HPM.out i hlt
      have q0 := (HC.out.below hbl).at_ i hlt
      have q1 := (HC.out.below hbl).lt
      have HBK : Hid (∀ b, backN f t p i = b → lastF f p (t (p.getD i 0)) (i + 1) = b) := fun b h => h
      have q2 := (hbl.cell (p := ⟨b8, 1, none⟩) l0).trans c1
      have q3 := Nat.lt_of_lt_of_le l0 hbl.size
      have hfb := HR.out.f _ him
      have htb := HR.out.t _ him
      obtain ⟨ba, oa, hA, pp⟩ := (HP.out.below hbl).at_ (by omega)
      have x1 := pp.f _ him
      have x2 := pp.lt
      have x3 := pp.t _ him
      have HPP : Hid (∀ V', Below Z.heap.size Z V' → Chs V' ba oa m (fun i => (f i : Int)) (fun i => (t i : Int)) V) := fun V' h => by
        obtain ⟨b', o', e, h'⟩ := (HP.out.below h).at_ (by omega)
        rw [hA] at e
        obtain ⟨rfl, rfl⟩ : ba = b' ∧ oa = o' := by simpa using e
        exact h'
      have HC1 : Hid (Z.cell? ⟨b8, 1, none⟩ = some (.slice A m cap) ∧ b8 < Z.heap.size) := ⟨c1, l0⟩
      rw [hA] at q2 ⊢
      have HA := Lib.hid hA
      have k1 : keyOf Try.prog 3 (.int .i64 (f (p.getD i 0) : Nat)) = some (kN (f (p.getD i 0))) := keyOf_int_mk Try.underlying3 (kN_wf (by omega))
      have k2 : keyOf Try.prog 3 (.int .i64 (t (p.getD i 0) : Nat)) = some (kN (t (p.getD i 0))) := keyOf_int_mk Try.underlying3 (kN_wf (by omega))
      have K1 := Lib.hid k1
      have K2 := Lib.hid k2
      have hne : b8 ≠ b8 + 1 := by omega
      clear pp hA hbl k1 k2 c1 l0
      generalize p.getD i 0 = ci at *
      rcases hbk : backN f t p i with _ | j
      · have e1 : Maps.has (D.put (kN (f ci)) (.lit (.int .i64 (i : Nat)))) (kN (t ci)) = false := by rw [(ST.out (t ci)).1, HBK.out _ hbk]; rfl
        have E1 := Lib.hid e1
        have HK := Lib.hid hbk
        clear e1 hbk
        go_wp2_with (first
          | (at_mapUpdate; refine wpList_mapUpdate_own _ rfl _ _ _ 109 rfl 3 3 lawI Try.underlying109 (plainElem Try.prog 3) (b8 + 1) i D rfl HO.out (by unfold maxLen; omega) _ _ _ rfl rfl K1.out _ [] (plainElem_int Try.underlying3 (kN_wf (by omega))) ?_; intro w1 hown1 hgrow1; have hb1 : Below Z.heap.size Z w1 := HBL.out.grown hgrow1 HBL.out.size (fun j hj => by have := HZ.out; cases hj; omega); have y1 := (hb1.cell (p := ⟨b8, 1, none⟩) HC1.out.2).trans HC1.out.1; rw [HA.out] at y1; have y2 := Nat.lt_of_lt_of_le HC1.out.2 hb1.size; have y3 := (HPP.out w1 hb1).t ci him; have y4 := (HPP.out w1 hb1).lt; have HO1 := Lib.hid hown1; have HB1 := Lib.hid hb1; clear hown1 hgrow1 hb1)
          | (at_lookup; refine wpList_lookup_own_ok_int _ rfl _ _ 109 rfl 3 3 .i64 lawI Try.underlying109 Try.underlying3 (zeroI _) (b8 + 1) (i + 1) _ rfl HO1.out _ _ rfl K2.out ?_; intro c hat hwc; rw [E1.out]; clear hat))
        go_roundw
        case rel => exact ⟨i + 1, _, by go_num, by omega, HB1.out, HO1.out, ST.out, fun x hx => by
          rcases Nat.lt_or_ge x i with h1 | h1
          · exact HN.out x h1
          · obtain rfl : x = i := by omega
            exact HK.out⟩
        case measure => simp [intOf]; omega
      · have hji : j < i + 1 := (lastN_some hbk).1
        have e1 : Maps.has (D.put (kN (f ci)) (.lit (.int .i64 (i : Nat)))) (kN (t ci)) = true := by rw [(ST.out (t ci)).1, HBK.out _ hbk]; rfl
        have e2 := (ST.out (t ci)).2 j (HBK.out _ hbk)
        have E1 := Lib.hid e1
        have E2 := Lib.hid e2
        have HF : Hid (segN f t p p.length 0 = some (j, i + 1)) := segN_stop (Nat.zero_le _) (by have := HL.out; omega) (fun x _ h => HN.out x h) hbk
        clear e1 e2 hbk
        go_wp2_with (first
          | (at_mapUpdate; refine wpList_mapUpdate_own _ rfl _ _ _ 109 rfl 3 3 lawI Try.underlying109 (plainElem Try.prog 3) (b8 + 1) i D rfl HO.out (by unfold maxLen; omega) _ _ _ rfl rfl K1.out _ [] (plainElem_int Try.underlying3 (kN_wf (by omega))) ?_; intro w1 hown1 hgrow1; have hb1 : Below Z.heap.size Z w1 := HBL.out.grown hgrow1 HBL.out.size (fun j hj => by have := HZ.out; cases hj; omega); have y1 := (hb1.cell (p := ⟨b8, 1, none⟩) HC1.out.2).trans HC1.out.1; rw [HA.out] at y1; have y2 := Nat.lt_of_lt_of_le HC1.out.2 hb1.size; have y3 := (HPP.out w1 hb1).t ci him; have y4 := (HPP.out w1 hb1).lt; have HO1 := Lib.hid hown1; have HB1 := Lib.hid hb1; clear hown1 hgrow1 hb1)
          | (at_lookup; refine wpList_lookup_own_ok_int _ rfl _ _ 109 rfl 3 3 .i64 lawI Try.underlying109 Try.underlying3 (zeroI _) (b8 + 1) (i + 1) _ rfl HO1.out _ _ rfl K2.out ?_; intro c hat hwc; rw [E1.out]; (have hcj : c = (j : Int) := (by have h := E2.out.symm.trans hat; simpa using h.symm)); subst hcj; clear hat))
        go_ret
        exact ⟨by rw [HF.out]; rfl, ⟨_, HB.out.trans (HB1.out.mono HB.out.size)⟩, rfl⟩
    · obtain rfl : i = k := by omega
      have HF : Hid (segN f t p p.length 0 = none) := segN_go fun x _ h => HN.out x (by have := HL.out; omega)
      go_wp2
      go_ret
      exact ⟨by rw [HF.out]; rfl, ⟨_, HB.out.trans (HBL.out.mono HB.out.size)⟩, rfl⟩
end Go.Proofs.Ytnjloomhhgilcaa
