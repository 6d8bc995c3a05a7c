/- A region that draws its order, by an invariant: each operation is looked at once, whatever has been carried out before it. -/
import Derived.Orders
import Derived.RegionTactic
import Derived.StillTail
import Derived.Lib.Hide
namespace Go.Proofs.Ytelfinjnbncnlaa
open Go.RowKit

section
variable {P : Program} {ops : Array Oper} {Q : Exit → Act → World → Prop}

/-- The tmps of a list are written, one after the other. -/
def putL (a : Act) : List Tmp → List Value → Act
  | d :: ds, v :: vs => (putL a ds vs).put (some d) v
  | _, _ => a
theorem putL_self (a : Act) : ∀ ds : List Tmp, a = putL a ds (ds.map fun d => a.tmps.getD d undef)
  | [] => rfl
  | d :: ds => by
    show a = (putL a ds (ds.map fun d => a.tmps.getD d undef)).put (some d) (a.tmps.getD d undef)
    rw [← putL_self a ds]
    unfold Act.put
    have : a.tmps.setIfInBounds d (a.tmps.getD d undef) = a.tmps := by
      apply Array.ext_getElem?
      intro i
      by_cases e : d = i
      · subst e
        by_cases hl : d < a.tmps.size
        · simp [hl]
        · simp [hl]
      · rw [Array.getElem?_setIfInBounds_ne e]
    cases a
    simp only at this ⊢
    rw [this]
def updL (L : Nat → Bool) (i : Nat) : Nat → Bool := fun j => Nat.beq j i || L j
/-- All that an operation waits for has been carried out. -/
def AfterL (L : Nat → Bool) : List Nat → Prop
  | [] => True
  | e :: l => L e = true ∧ AfterL L l
def afterOf (o : Oper) : List Nat := (o.after.toList.filter (Region.binds .any)).map (·.on)
/-- One operation, folded. -/
structure Step1 (P : Program) (ops : Array Oper) (Q : Exit → Act → World → Prop) (o : Oper) (K : Act → World → Prop) (a : Act) (w : World) : Prop where
  out : if Region.wanted o (yielded ops a.tmps) = true then Oper.wp P o a w K Q else K (a.put o.dst undef) w
def StepOf (P : Program) (ops : Array Oper) (Q : Exit → Act → World → Prop) (I : (Nat → Bool) → Act → World → Prop) (k : Nat) (o : Oper) : Prop :=
  ∀ (L : Nat → Bool) (a : Act) (w : World) (K : Act → World → Prop), L k = false → AfterL L (afterOf o) → I L a w → Hid (∀ a' w', I (updL L k) a' w' → K a' w') → Step1 P ops Q o K a w
def StepsOf (P : Program) (ops : Array Oper) (Q : Exit → Act → World → Prop) (I : (Nat → Bool) → Act → World → Prop) : Nat → List Oper → Prop
  | _, [] => True
  | k, o :: l => StepOf P ops Q I k o ∧ StepsOf P ops Q I (k + 1) l

theorem StepsOf.get {I : (Nat → Bool) → Act → World → Prop} : ∀ {l : List Oper} {k : Nat}, StepsOf P ops Q I k l → ∀ {i : Nat} {o : Oper}, l[i]? = some o → StepOf P ops Q I (k + i) o
  | [], _, _, i, o, h => by simp at h
  | x :: l, k, hs, i, o, h => by
    cases i with
    | zero =>
      have : x = o := by simpa using h
      subst this
      exact hs.1
    | succ i =>
      have := StepsOf.get hs.2 (i := i) (o := o) (by simpa using h)
      rwa [show k + 1 + i = k + (i + 1) by omega] at this

/-- Each waits for earlier ones alone. -/
def backB (ops : Array Oper) : Bool := (List.range ops.size).all fun i => match ops[i]? with | some o => (afterOf o).all fun e => decide (e < i) | none => true

theorem afterL_iff {L : Nat → Bool} : ∀ {l : List Nat}, AfterL L l ↔ ∀ e ∈ l, L e = true
  | [] => by simp [AfterL]
  | e :: l => by simp [AfterL, afterL_iff (l := l)]

def leftL (L : Nat → Bool) (n : Nat) : Nat := ((List.range n).filter fun i => !L i).length

theorem beq_ne {i j : Nat} (h : i ≠ j) : Nat.beq i j = false := by
  cases hb : Nat.beq i j with
  | false => rfl
  | true => exact absurd (Nat.eq_of_beq_eq_true hb) h
theorem leftL_upd {L : Nat → Bool} {i : Nat} : ∀ {n : Nat}, i < n → L i = false → leftL (updL L i) n + 1 = leftL L n
  | 0, h, _ => by omega
  | n + 1, h, hi => by
    unfold leftL
    rw [List.range_succ, List.filter_append, List.filter_append, List.length_append, List.length_append]
    by_cases e : i = n
    · subst e
      have h1 : (List.range i).filter (fun j => !updL L i j) = (List.range i).filter fun j => !L j := by
        apply List.filter_congr
        intro j hj
        have := List.mem_range.1 hj
        simp [updL, beq_ne (show j ≠ i by omega)]
      rw [h1]
      simp [updL, hi]
    · have ih := leftL_upd (L := L) (i := i) (n := n) (by omega) hi
      unfold leftL at ih
      have h1 : updL L i n = L n := by simp [updL, beq_ne (show n ≠ i by omega)]
      simp only [List.filter_cons, List.filter_nil, h1]
      omega

theorem all_of_left {L : Nat → Bool} {n : Nat} (h : leftL L n = 0) : ∀ i, i < n → L i = true := fun i hi => by
  cases hc : L i with
  | true => rfl
  | false =>
    have : i ∈ (List.range n).filter fun i => !L i := List.mem_filter.2 ⟨List.mem_range.2 hi, by simp [hc]⟩
    unfold leftL at h
    rw [List.length_eq_zero_iff.1 h] at this
    cases this

/-- Something may come up as long as not all has been carried out. -/
theorem some_ready (hb : backB ops = true) {listed : Array Bool} (hsz : listed.size = ops.size) : ∀ (i : Nat), i < ops.size → listed.getD i false = false → Region.ready .any ops listed ≠ [] := by
  intro i
  induction i using Nat.strongRecOn with
  | ind i ih =>
    intro hi hl hr
    have hiL : listed.getD i true = false := getD_in (by omega) hl
    obtain ⟨o, ho⟩ : ∃ o, ops[i]? = some o := ⟨_, Array.getElem?_eq_getElem hi⟩
    by_cases hall : ∀ e ∈ o.after, Region.binds .any e = true → listed.getD e.on false = true
    · have : i ∈ Region.ready .any ops listed := mem_ready.2 ⟨hiL, o, ho, hall⟩
      rw [hr] at this
      cases this
    · simp only [Classical.not_forall] at hall
      obtain ⟨e, he, hbd, hne⟩ := hall
      have hlt : e.on < i := by
        have := List.all_eq_true.1 hb i (List.mem_range.2 hi)
        rw [ho] at this
        have := List.all_eq_true.1 this e.on (List.mem_map.2 ⟨e, List.mem_filter.2 ⟨Array.mem_def.1 he, hbd⟩, rfl⟩)
        simpa using this
      exact ih e.on hlt (by omega) (by simpa using hne) hr

theorem wpAny_inv {I : (Nat → Bool) → Act → World → Prop} (hb : backB ops = true) (hs : StepsOf P ops Q I 0 ops.toList)
    (hend : ∀ L a w, (∀ i, i < ops.size → L i = true) → I L a w → Q .normal a w) :
    ∀ (f : Nat) (listed : Array Bool) (a : Act) (w : World), listed.size = ops.size → leftL (fun j => listed.getD j false) ops.size ≤ f → I (fun j => listed.getD j false) a w → wpAny P .any ops Q f listed a w := by
  intro f
  induction f with
  | zero =>
    intro listed a w hsz hf hI
    have hall := all_of_left (Nat.le_zero.1 hf)
    refine ⟨?_, hend _ a w hall hI⟩
    rcases hr : Region.ready .any ops listed with _ | ⟨i, r⟩
    · rfl
    · have hm : i ∈ Region.ready .any ops listed := by rw [hr]; exact List.mem_cons_self
      obtain ⟨h1, o, ho, _⟩ := mem_ready.1 hm
      have hi : i < ops.size := (Array.getElem?_eq_some_iff.1 ho).1
      have := hall i hi
      rw [getD_both h1] at this
      cases this
  | succ f ih =>
    intro listed a w hsz hf hI
    refine ⟨fun hr => ?_, fun i hi => ?_⟩
    · refine hend _ a w (fun i hi => ?_) hI
      cases hc : listed.getD i false with
      | true => rfl
      | false => exact absurd hr (some_ready hb hsz i hi hc)
    · obtain ⟨h1, o, ho, hall⟩ := mem_ready.1 hi
      have hlt : i < ops.size := (Array.getElem?_eq_some_iff.1 ho).1
      have h0 := getD_both h1
      have st := hs.get (i := i) (o := o) (by simpa using ho)
      rw [Nat.zero_add] at st
      have hup : (fun j => (listed.setIfInBounds i true).getD j false) = updL (fun j => listed.getD j false) i := by
        funext j
        unfold updL
        by_cases e : j = i
        · subst e
          simp [show j < listed.size by omega]
        · rw [beq_ne e, getD_set_ne false (Ne.symm e)]
          simp
      refine wpOp_step ho fun K' hK => (st _ a w K' h0 (afterL_iff.2 fun e he => ?_) hI fun a' w' h => hK a' w' ?_).out
      · obtain ⟨x, hx, rfl⟩ := List.mem_map.1 he
        obtain ⟨hx1, hx2⟩ := List.mem_filter.1 hx
        exact hall x (Array.mem_def.2 hx1) hx2
      · refine ih _ a' w' (by simpa using hsz) ?_ (by rw [hup]; exact h)
        rw [hup]
        have := leftL_upd (L := fun j => listed.getD j false) hlt h0
        omega

theorem afterL_get {L : Nat → Bool} {l : List Nat} (h : AfterL L l) (e : Nat) (he : l.contains e = true) : L e = true := afterL_iff.1 h e (by simpa using he)
theorem steps_nil {I : (Nat → Bool) → Act → World → Prop} {k : Nat} : StepsOf P ops Q I k [] := trivial
theorem steps_cons {I : (Nat → Bool) → Act → World → Prop} {k : Nat} {o : Oper} {l : List Oper} (h : StepOf P ops Q I k o) (t : StepsOf P ops Q I (k + 1) l) : StepsOf P ops Q I k (o :: l) := ⟨h, t⟩

theorem wp_region_inv {id : Nat} {a : Act} {w : World} {l : List Oper} (I : Act → (Nat → Bool) → Act → World → Prop) (hm : P.follows .mixedOrders = true) (hb : backB l.toArray = true)
    (h0 : I a (fun _ => false) a w.drew) (hs : StepsOf P l.toArray Q (I a) 0 l)
    (hend : ∀ L a' w', (∀ i, i < l.length → L i = true) → I a L a' w' → Q .normal a' w') : (Code.region id l.toArray true).wp P Q a w := by
  refine wp_region_any hm ?_
  refine wpAny_inv (I := I a) hb (by simpa using hs) (fun L a' w' hall hI => hend L a' w' (by simpa using hall) hI) _ _ _ _ (by simp) ?_ ?_
  · refine Nat.le_trans (List.length_filter_le _ _) ?_
    simp
  · have : (fun j => (Array.replicate l.toArray.size false).getD j false) = fun _ => false := funext fun j => getD_replicate_false _ j
    rw [this]
    exact h0
end
end Go.Proofs.Ytelfinjnbncnlaa
