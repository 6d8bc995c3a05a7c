/- A region that draws its order: what reads comes first, whenever it comes, as long as a condition holds; then a row of operations that keep the condition; then a tail that need not. -/
import Derived.Test.YtelfinjnbncnlaaTail
import Derived.OrdersHeld
namespace Go.Proofs.Ytelfinjnbncnlaa
open Go.RowKit

section
variable {P : Program} {ops : Array Oper} {md : Region.Mode} {S : World → Prop} {Q : Exit → Act → World → Prop}

/-- Whatever is picked; the condition holds behind each operation ahead of number n. -/
def wpU (P : Program) (md : Region.Mode) (ops : Array Oper) (Q : Exit → Act → World → Prop) (S : World → Prop) (n : Nat) : Nat → Array Bool → Act → World → Prop
  | 0, listed, a, w => Region.ready md ops listed = [] ∧ Q .normal a w
  | f + 1, listed, a, w => (Region.ready md ops listed = [] → Q .normal a w) ∧ ∀ i ∈ Region.ready md ops listed, wpOp P ops Q i (fun a' w' => (i < n → S w') ∧ wpU P md ops Q S n f (listed.setIfInBounds i true) a' w') a w

theorem any_of_wpU {n : Nat} : ∀ (f : Nat) (listed : Array Bool) (a : Act) (w : World), wpU P md ops Q S n f listed a w → wpAny P md ops Q f listed a w
  | 0, _, _, _, h => h
  | f + 1, _, _, _, h => ⟨h.1, fun i hi => wpOp_mono (fun a' w' h' => any_of_wpU f _ a' w' h'.2) (h.2 i hi)⟩

theorem wpU_first {n i : Nat} {oi : Oper} {v : Value} (hi : ops[i]? = some oi) (hsel : ∀ (j : Nat) (o : Oper) cs b, ops[j]? = some o → o.op ≠ .select cs b)
    (hQ : ∀ c a w, Q (.panic c) (a.put oi.dst v) w → Q (.panic c) a w) (hs : sinkFrom md ops 0 n = true) (hc : Region.chainB md ops n = true) (hn : n < ops.size) (hin : i < n) :
    ∀ (f : Nat) (listed : Array Bool) (a : Act) (w : World), HeadInv md ops n listed →
      (∀ j oj, ops[j]? = some oj → j ≠ i → listed.getD j true = false → (∀ e ∈ oj.after, Region.binds md e = true → e.on ≠ i) → oi.apart ops oj = true) →
      i ∈ Region.ready md ops listed → YieldsIf P ops S oi v a → S w → wpU P md ops Q S n f (listed.setIfInBounds i true) (a.put oi.dst v) w → wpU P md ops Q S n (f + 1) listed a w := by
  intro f
  induction f with
  | zero =>
    intro listed a w _ _ hr hy hS H
    refine ⟨fun h => (by rw [h] at hr; cases hr), fun j hj => ?_⟩
    by_cases e : j = i
    · subst e; exact hy.wpOp hi hS ⟨fun _ => hS, H⟩
    · have := ready_mono hj e
      rw [H.1] at this
      cases this
  | succ f ih =>
    intro listed a w inv hfree hr hy hS H
    have hun := (mem_ready.1 hr).1
    refine ⟨fun h => (by rw [h] at hr; cases hr), fun j hj => ?_⟩
    by_cases e : j = i
    · subst e; exact hy.wpOp hi hS ⟨fun _ => hS, H⟩
    · obtain ⟨hjun, oj, hoj, hall⟩ := mem_ready.1 hj
      have hjn : j < n := by
        rcases Nat.lt_or_ge j n with h | h
        · exact h
        · exact absurd hj (waits hs hc hn inv _ i rfl (Nat.zero_le _) hin hun j h)
      have apart := hfree j oj hoj e hjun fun e' he hb hon => by
        have := hall e' he hb
        rw [hon, getD_both hun] at this
        cases this
      have step := wpOp_putIf hoj apart (fun cs b => hsel i oi cs b hi) (fun cs b => hsel j oj cs b hoj) hQ hy (H.2 j (ready_mono hj e))
      refine wpOp_mono (fun a' w' h3 => ⟨fun _ => h3.2.1 hjn, ih (listed.setIfInBounds j true) a' w' (inv.set hj hjn) (fun k ok hk hki hkun hno => ?_) (ready_mono hr (Ne.symm e)) h3.1 (h3.2.1 hjn) ?_⟩) step
      · refine hfree k ok hk hki ?_ hno
        by_cases hjk : j = k
        · subst hjk; exact hjun
        · rwa [getD_set_ne true hjk] at hkun
      · rw [Array.setIfInBounds_comm _ _ e]
        exact h3.2.2

/-- The row between: one after the other; the condition is shown behind each. -/
def midList (P : Program) (ops : Array Oper) (Q : Exit → Act → World → Prop) (S : World → Prop) (T : Act → World → Prop) : List Oper → Act → World → Prop
  | [], a, w => T a w
  | o :: l, a, w => ∀ K' : Act → World → Prop, (∀ a' w', S w' → midList P ops Q S T l a' w' → K' a' w') → if Region.wanted o (yielded ops a.tmps) = true then Oper.wp P o a w K' Q else K' (a.put o.dst undef) w

theorem wpU_tail {n : Nat} : ∀ (l : List Oper) (k : Nat) (listed : Array Bool) (a : Act) (w : World), n ≤ k → (∀ j, l[j]? = ops[k + j]?) →
    Region.seqB md ops l.length k listed = true → wpList P ops Q l a w → wpU P md ops Q S n l.length listed a w
  | [], _, _, _, _, _, _, hB, h => ⟨by simpa [Region.seqB] using hB, h⟩
  | o :: l, k, listed, a, w, hk, hl, hB, h => by
    have h0 : ops[k]? = some o := by simpa using (hl 0).symm
    simp only [List.length_cons, Region.seqB, Bool.and_eq_true, decide_eq_true_eq] at hB
    refine ⟨fun h1 => (by rw [hB.1] at h1; cases h1), fun i hi => ?_⟩
    rw [hB.1] at hi
    obtain rfl : i = k := by simpa using hi
    have step : wpOp P ops Q i (wpList P ops Q l) a w := by
      unfold wpOp
      rw [h0]
      exact h
    exact wpOp_mono (fun a' w' h' => ⟨fun h => absurd h (by omega), wpU_tail l (i + 1) _ a' w' (by omega) (fun j => by have := hl (j + 1); simpa [Nat.add_assoc, Nat.add_comm 1 j] using this) hB.2 h'⟩) step

theorem wpU_mid {n : Nat} (tl : List Oper) : ∀ (l : List Oper) (k : Nat) (listed : Array Bool) (a : Act) (w : World), k + l.length = n → (∀ j, (l ++ tl)[j]? = ops[k + j]?) →
    Region.seqB md ops (l.length + tl.length) k listed = true → midList P ops Q S (wpList P ops Q tl) l a w → wpU P md ops Q S n (l.length + tl.length) listed a w
  | [], k, listed, a, w, hk, hl, hB, h => by
    rw [List.length_nil, Nat.zero_add] at hB ⊢
    exact wpU_tail tl k listed a w (by simp only [List.length_nil] at hk; omega) hl hB h
  | o :: l, k, listed, a, w, hk, hl, hB, h => by
    have h0 : ops[k]? = some o := by simpa using (hl 0).symm
    rw [List.length_cons, show l.length + 1 + tl.length = (l.length + tl.length) + 1 by omega] at hB ⊢
    simp only [Region.seqB, Bool.and_eq_true, decide_eq_true_eq] at hB
    refine ⟨fun h1 => (by rw [hB.1] at h1; cases h1), fun i hi => ?_⟩
    rw [hB.1] at hi
    obtain rfl : i = k := by simpa using hi
    refine wpOp_step h0 fun K' hK => h K' fun a' w' hS hM => hK a' w' ⟨fun _ => hS, ?_⟩
    exact wpU_mid tl l (i + 1) _ a' w' (by simp only [List.length_cons] at hk; omega) (fun j => by have := hl (j + 1); simpa [Nat.add_assoc, Nat.add_comm 1 j] using this) hB.2 hM

/-- What reads, one after the other: each with its value in all worlds of the condition. -/
def takeList (P : Program) (ops : Array Oper) (S : World → Prop) (K : Act → Prop) : List Oper → Act → Prop
  | [], a => K a
  | o :: l, a => ∃ v, YieldsIf P ops S o v a ∧ takeList P ops S K l (a.put o.dst v)

theorem takeList_nil {K : Act → Prop} {a : Act} (h : K a) : takeList P ops S K [] a := h
theorem midList_nil {T : Act → World → Prop} {a : Act} {w : World} (h : T a w) : midList P ops Q S T [] a w := h
theorem midList_cons {T : Act → World → Prop} {o : Oper} {l : List Oper} {a : Act} {w : World}
    (h : ∀ K' : Act → World → Prop, Hid (∀ a' w', S w' → midList P ops Q S T l a' w' → K' a' w') → if Region.wanted o (yielded ops a.tmps) = true then Oper.wp P o a w K' Q else K' (a.put o.dst undef) w) : midList P ops Q S T (o :: l) a w := h

theorem wpU_take {m n g : Nat} (hmn : m ≤ n) {w : World} (hw : S w) {K : Act → Prop} (hsel : Region.noSelect ops = true) (hs : sinkFrom md ops 0 n = true) (hc : Region.chainB md ops n = true) (hn : n < ops.size)
    (hQ : ∀ (c : _) (a : Act) (d : Option Tmp) (v : Value) (w : World), Q (.panic c) (a.put d v) w → Q (.panic c) a w)
    (hK : ∀ (listed : Array Bool) (a : Act), HeadInv md ops n listed → Region.seqB md ops g m listed = true → K a → wpU P md ops Q S n g listed a w) :
    ∀ (l : List Oper) (k : Nat) (listed : Array Bool) (a : Act), (∀ j, j < l.length → l[j]? = ops[k + j]?) → k + l.length = m → HeadInv md ops n listed →
    Region.lexHead md ops g l.length k listed = true → takeList P ops S K l a → wpU P md ops Q S n (l.length + g) listed a w := by
  intro l
  induction l with
  | nil =>
    intro k listed a _ hk inv hB h
    rw [List.length_nil, Nat.zero_add]
    obtain rfl : k = m := by simpa using hk
    exact hK listed a inv (by simpa [Region.lexHead] using hB) h
  | cons o l ih =>
    intro k listed a hl hk inv hB h
    have h0 : ops[k]? = some o := by simpa using (hl 0 (by simp)).symm
    simp only [List.length_cons, Region.lexHead, Bool.and_eq_true] at hB
    have hkn : k < n := by simp only [List.length_cons] at hk; omega
    have hr : k ∈ Region.ready md ops listed := by simpa using hB.1.1
    obtain ⟨v, hy, hT⟩ := h
    rw [List.length_cons, show l.length + 1 + g = (l.length + g) + 1 by omega]
    refine wpU_first h0 (Region.noSelect_spec hsel) (fun c a w => hQ c a _ _ w) hs hc hn hkn _ listed a w inv (Region.free_spec h0 hB.1.2) hr hy hw ?_
    exact ih (k + 1) _ _ (fun j hj => by have := hl (j + 1) (by simp; omega); simpa [Nat.add_assoc, Nat.add_comm 1 j] using this) (by simp only [List.length_cons] at hk; omega) (inv.set hr hkn) hB.2 hT

def uptoB (ops : Array Oper) (m n : Nat) : Bool :=
  Region.noSelect ops && decide (n < ops.size) && decide (m ≤ n) && sinkFrom .any ops 0 n && Region.chainB .any ops n && Region.lexHead .any ops (ops.size - m) m 0 (Array.replicate ops.size false)

/-- m operations that read, whenever they come; those up to n, which keep the condition; the tail. -/
theorem wp_region_upto {id : Nat} {a : Act} {w : World} {l : List Oper} (m n : Nat) (S : World → Prop) (hm : P.follows .mixedOrders = true) (hB : uptoB l.toArray m n = true) (hS : S w.drew)
    (h : takeList P l.toArray S (fun a' => midList P l.toArray (Calm Q) S (wpList P l.toArray (Calm Q) (l.drop n)) ((l.drop m).take (n - m)) a' w.drew) (l.take m) a) : (Code.region id l.toArray true).wp P Q a w := by
  simp only [uptoB, Bool.and_eq_true, decide_eq_true_eq] at hB
  obtain ⟨⟨⟨⟨⟨hsel, hn⟩, hmn⟩, hs⟩, hc⟩, hlex⟩ := hB
  have hn' : n < l.length := by simpa using hn
  have hlm : (l.take m).length = m := by simp; omega
  have hrm : ((l.drop m).take (n - m)).length = n - m := by simp; omega
  have hdl : (l.drop n).length = l.length - n := by simp
  have hsp : (l.drop m).take (n - m) ++ l.drop n = l.drop m := by
    have : l.drop n = (l.drop m).drop (n - m) := by rw [List.drop_drop]; congr 1; omega
    rw [this, List.take_append_drop]
  have inv : HeadInv .any l.toArray n (Array.replicate l.toArray.size false) :=
    ⟨by simp, fun j oj _ hl => (by rw [getD_replicate_false] at hl; cases hl), fun t _ ht => getD_in (by simpa using ht) (getD_replicate_false _ _)⟩
  have hrow : ∀ j, j < (l.take m).length → (l.take m)[j]? = l.toArray[0 + j]? := fun j hj => by
    rw [hlm] at hj
    rw [Nat.zero_add, List.getElem?_take_of_lt hj]
    simp
  refine Code.wp_mono calm_imp (wp_region_any hm (any_of_wpU (S := S) (n := n) _ _ _ _ ?_))
  have := wpU_take (P := P) (ops := l.toArray) (md := .any) (Q := Calm Q) (S := S) (m := m) (n := n) (g := l.toArray.size - m) (w := w.drew) hmn hS hsel hs hc hn (fun _ _ _ _ _ h => h) (fun listed a' inv' hseq hK => ?_)
    (l.take m) 0 (Array.replicate l.toArray.size false) a hrow (by rw [hlm]; omega) inv (by rw [hlm]; exact hlex) h
  · rw [hlm, show m + (l.toArray.size - m) = l.toArray.size by simp; omega] at this
    exact this
  · have hg : l.toArray.size - m = ((l.drop m).take (n - m)).length + (l.drop n).length := by rw [hrm, hdl]; simp; omega
    rw [hg] at hseq ⊢
    exact wpU_mid (l.drop n) _ m listed a' _ (by rw [hrm]; omega) (fun j => by rw [hsp]; simp [List.getElem?_drop]) hseq hK
end
end Go.Proofs.Ytelfinjnbncnlaa
