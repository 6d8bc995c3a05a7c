/- A region that draws its order: operations that read and call quietly come first, in whatever order; a forced tail follows. The worlds between them are any that come later. -/
import Derived.Test.YtelfinjnbncnlaaBase
import Derived.StillTail
namespace Go.Proofs.Ytelfinjnbncnlaa
open Go.RowKit

section
variable {P : Program} {ops : Array Oper} {md : Region.Mode} {C : World → Prop}

/-- The head, whatever is picked; L speaks of what stands when 'fuel' operations have come. -/
def headQ (P : Program) (md : Region.Mode) (ops : Array Oper) (C : World → Prop) (n : Nat) (L : Array Bool → Act → Prop) : Nat → Array Bool → Act → Prop
  | 0, listed, a => L listed a
  | f + 1, listed, a => Region.ready md ops listed ≠ [] ∧ ∀ i ∈ Region.ready md ops listed, i < n ∧ qOp P ops C i (headQ P md ops C n L f (listed.setIfInBounds i true)) a

theorem any_of_headQ {n g : Nat} {L : Array Bool → Act → Prop} {Q : Exit → Act → World → Prop} (hL : ∀ listed a w, C w → L listed a → wpAny P md ops Q g listed a w) :
    ∀ (f : Nat) (listed : Array Bool) (a : Act) (w : World), C w → headQ P md ops C n L f listed a → wpAny P md ops Q (f + g) listed a w := by
  intro f
  induction f with
  | zero => intro listed a w hw h; rw [Nat.zero_add]; exact hL _ _ _ hw h
  | succ f ih =>
    intro listed a w hw h
    rw [show f + 1 + g = (f + g) + 1 by omega]
    exact ⟨fun e => absurd e h.1, fun i hi => wpOp_of_qOp hw (fun a' w' hw' h' => ih _ a' w' hw' h') (h.2 i hi).2⟩

/-- Each operation of the head from m on is waited for by a later one, up to the tail's first. -/
def sinkFrom (md : Region.Mode) (ops : Array Oper) (m n : Nat) : Bool :=
  (List.range n).all fun i => decide (i < m) || (List.range (n + 1)).any fun j => decide (i < j) && Region.waitsFor md ops j i

theorem waits {m n : Nat} {listed : Array Bool} (hs : sinkFrom md ops m n = true) (hc : Region.chainB md ops n = true) (hn : n < ops.size) (inv : HeadInv md ops n listed) :
    ∀ (d i : Nat), n - i = d → m ≤ i → i < n → listed.getD i true = false → ∀ t, n ≤ t → t ∉ Region.ready md ops listed := by
  intro d
  induction d using Nat.strongRecOn with
  | _ d ih =>
    intro i hd hm hi hun t ht hr
    obtain ⟨_, ot, hot, hall⟩ := mem_ready.1 hr
    have htlt : t < ops.size := (Array.getElem?_eq_some_iff.1 hot).1
    rcases Nat.lt_or_ge n t with htn | htn
    · have h1 := List.all_eq_true.1 hc t (List.mem_range.2 htlt)
      simp only [Bool.or_eq_true, decide_eq_true_eq] at h1
      rcases h1 with h1 | h1
      · omega
      · obtain ⟨o', ho', e, he, hb, hon⟩ := Region.waitsFor_spec h1
        obtain rfl := Option.some.inj (ho'.symm.trans hot)
        have h2 := hall e he hb
        rw [hon, getD_both (inv.tail (t - 1) (by omega) (by omega))] at h2
        cases h2
    · obtain rfl : t = n := by omega
      have h1 := List.all_eq_true.1 hs i (List.mem_range.2 hi)
      simp only [Bool.or_eq_true, decide_eq_true_eq] at h1
      rcases h1 with h1 | h1
      · omega
      · obtain ⟨j, hj, hj2⟩ := List.any_eq_true.1 h1
        simp only [Bool.and_eq_true, decide_eq_true_eq] at hj2
        obtain ⟨oj, hoj, e, he, hb, hon⟩ := Region.waitsFor_spec hj2.2
        have hjle := List.mem_range.1 hj
        by_cases hjt : j = t
        · subst hjt
          obtain rfl := Option.some.inj (hoj.symm.trans hot)
          have h2 := hall e he hb
          rw [hon, getD_both hun] at h2
          cases h2
        · cases hl : listed.getD j false with
          | true =>
            have h2 := inv.closed j oj hoj hl e he hb
            rw [hon, getD_both hun] at h2
            cases h2
          | false => exact ih (t - j) (by omega) j rfl (by omega) (by omega) (getD_in (by rw [inv.size]; omega) hl) t (Nat.le_refl _) hr

theorem headQ_take {m n i : Nat} {oi : Oper} {v : Value} {L : Array Bool → Act → Prop} (hi : ops[i]? = some oi) (hsel : ∀ (j : Nat) (o : Oper) cs b, ops[j]? = some o → o.op ≠ .select cs b)
    (hs : sinkFrom md ops m n = true) (hc : Region.chainB md ops n = true) (hn : n < ops.size) (him : m ≤ i) (hin : i < n) (hdone : ∀ listed a, L listed a → ∀ j ∈ Region.ready md ops listed, n ≤ j) :
    ∀ (f : Nat) (listed : Array Bool) (a : Act), HeadInv md ops n listed →
      (∀ j oj, ops[j]? = some oj → j ≠ i → listed.getD j true = false → (∀ e ∈ oj.after, Region.binds md e = true → e.on ≠ i) → oi.apart ops oj = true) →
      i ∈ Region.ready md ops listed → YieldsIn P ops C oi v a → headQ P md ops C n L f (listed.setIfInBounds i true) (a.put oi.dst v) → headQ P md ops C n L (f + 1) listed a := by
  intro f
  induction f with
  | zero =>
    intro listed a inv _ hr hy H
    have low : ∀ j ∈ Region.ready md ops listed, j < n := fun j hj => by
      rcases Nat.lt_or_ge j n with h | h
      · exact h
      · exact absurd hj (waits hs hc hn inv _ i rfl him hin (mem_ready.1 hr).1 j h)
    refine ⟨fun e => (by rw [e] at hr; cases hr), fun j hj => ⟨low j hj, ?_⟩⟩
    by_cases e : j = i
    · subst e; exact hy.qOp hi H
    · have := hdone _ _ H j (ready_mono hj e)
      have := low j hj
      omega
  | succ f ih =>
    intro listed a inv hfree hr hy H
    have hun := (mem_ready.1 hr).1
    have low : ∀ j ∈ Region.ready md ops listed, j < n := fun j hj => by
      rcases Nat.lt_or_ge j n with h | h
      · exact h
      · exact absurd hj (waits hs hc hn inv _ i rfl him hin hun j h)
    refine ⟨fun e => (by rw [e] at hr; cases hr), fun j hj => ⟨low j hj, ?_⟩⟩
    by_cases e : j = i
    · subst e; exact hy.qOp hi H
    · obtain ⟨hjun, oj, hoj, hall⟩ := mem_ready.1 hj
      have apart := hfree j oj hoj e hjun fun e' he hb hon => by
        have := hall e' he hb
        rw [hon, getD_both hun] at this
        cases this
      have step := qOp_put hoj apart (fun cs b => hsel i oi cs b hi) (fun cs b => hsel j oj cs b hoj) hy (H.2 j (ready_mono hj e)).2
      refine qOp_mono (fun a' h3 => ih (listed.setIfInBounds j true) a' (inv.set hj (low j hj)) (fun k ok hk hki hkun hno => ?_) (ready_mono hr (Ne.symm e)) h3.1 ?_) step
      · refine hfree k ok hk hki ?_ hno
        by_cases hjk : j = k
        · subst hjk; exact hjun
        · rwa [getD_set_ne true hjk] at hkun
      · rw [Array.setIfInBounds_comm _ _ e]
        exact h3.2

theorem headQ_lex {m n g : Nat} {K : Act → Prop} (hsel : Region.noSelect ops = true) (hs : sinkFrom md ops m n = true) (hc : Region.chainB md ops n = true) (hn : n < ops.size) :
    ∀ (l : List Oper) (k : Nat) (listed : Array Bool) (a : Act), (∀ j, j < l.length → l[j]? = ops[k + j]?) → m ≤ k → k + l.length = n → HeadInv md ops n listed →
    Region.lexHead md ops g l.length k listed = true → wpQuiet P ops C K l a → headQ P md ops C n (fun listed' a' => Region.seqB md ops g n listed' = true ∧ K a') l.length listed a := by
  intro l
  induction l with
  | nil =>
    intro k listed a _ _ hk _ hB h
    obtain rfl : k = n := by simpa using hk
    exact ⟨by simpa [Region.lexHead] using hB, h⟩
  | cons o l ih =>
    intro k listed a hl hmk hk inv hB h
    have h0 : ops[k]? = some o := by simpa using (hl 0 (by simp)).symm
    simp only [List.length_cons, Region.lexHead, Bool.and_eq_true] at hB
    have hkn : k < n := by simp only [List.length_cons] at hk; omega
    have hr : k ∈ Region.ready md ops listed := by simpa using hB.1.1
    obtain ⟨v, hy, hK⟩ := yieldsIn_of_qOp (C := C) (K := wpQuiet P ops C K l) h0 (by unfold qOp; simp only [h0]; exact h)
    exact headQ_take h0 (Region.noSelect_spec hsel) hs hc hn hmk hkn (fun _ _ hL => seqB_ready hL.1) l.length listed a inv (Region.free_spec h0 hB.1.2) hr hy
      (ih (k + 1) _ _ (fun j hj => by have := hl (j + 1) (by simp; omega); simpa [Nat.add_assoc, Nat.add_comm 1 j] using this) (by omega) (by simp only [List.length_cons] at hk; omega) (inv.set hr hkn) hB.2 hK)

/-- Q, but nothing at a panic. -/
def Calm (Q : Exit → Act → World → Prop) : Exit → Act → World → Prop
  | .panic _, _, _ => False
  | e, a, w => Q e a w
theorem calm_normal {Q : Exit → Act → World → Prop} {a : Act} {w : World} (h : Q .normal a w) : Calm Q .normal a w := h
theorem calm_imp {Q : Exit → Act → World → Prop} : ∀ (e : Exit) (a : Act) (w : World), Calm Q e a w → Q e a w := fun e a w h => by
  cases e <;> first | exact h | exact (h : False).elim

/-- A copy that nobody hinders. -/
def looseB (o : Oper) : Bool := o.guard.isNone && (match o.op with | .move _ => true | _ => false)

theorem loose_yields {o : Oper} {a : Act} {v : Value} (ho : looseB o = true) {w : World} (hw : C w) (h : YieldsIn P ops C o v a) : Yields P ops o v a := by
  obtain ⟨dst, op, ty, pos, after, guard⟩ := o
  simp only [looseB, Bool.and_eq_true, Option.isNone_iff_eq_none] at ho
  obtain ⟨rfl, ho⟩ := ho
  cases op with
  | move x =>
    refine .inl ⟨rfl, fun w' => ?_⟩
    rcases h with ⟨_, h⟩ | ⟨h, _⟩
    · have h1 := h w hw
      unfold Oper.quietAt at h1
      rw [BigFrame.run_move x rfl] at h1 ⊢
      rw [h1.2]
    · simp [Region.wanted] at h
  | _ => simp at ho

theorem any_loose {n g F r : Nat} {K : Act → Prop} {Q : Exit → Act → World → Prop} (hsel : Region.noSelect ops = true) {w : World} (hw : C w) (rest : List Oper) (hr : rest.length = r) :
    ∀ (lo : List Oper) (k : Nat) (listed : Array Bool) (a : Act), (∀ j, j < lo.length → lo[j]? = ops[k + j]?) → lo.all looseB = true → k + lo.length ≤ n → HeadInv md ops n listed →
    Region.lexHead md ops g (lo.length + r) k listed = true → wpQuiet P ops C K (lo ++ rest) a →
    (∀ listed' a', HeadInv md ops n listed' → Region.lexHead md ops g r (k + lo.length) listed' = true → wpQuiet P ops C K rest a' → wpAny P md ops (Calm Q) F listed' a' w) →
    wpAny P md ops (Calm Q) (lo.length + F) listed a w := by
  intro lo
  induction lo with
  | nil =>
    intro k listed a _ _ _ inv hB h hF
    simp only [List.length_nil, Nat.zero_add] at hB ⊢
    exact hF listed a inv hB h
  | cons o lo ih =>
    intro k listed a hl hlo hk inv hB h hF
    have h0 : ops[k]? = some o := by simpa using (hl 0 (by simp)).symm
    simp only [List.all_cons, Bool.and_eq_true] at hlo
    simp only [List.length_cons] at hk hB hF ⊢
    rw [show lo.length + 1 + r = (lo.length + r) + 1 by omega] at hB
    simp only [Region.lexHead, Bool.and_eq_true] at hB
    obtain ⟨v, hy, hK⟩ := yieldsIn_of_qOp (C := C) (K := wpQuiet P ops C K (lo ++ rest)) h0 (by unfold qOp; simp only [h0]; exact h)
    rw [show lo.length + 1 + F = (lo.length + F) + 1 by omega]
    refine wpAny_take h0 hsel hB.1.2 hB.1.1 (fun _ _ _ e => e) (loose_yields hlo.1 hw hy) ?_
    refine ih (k + 1) _ _ (fun j hj => by have := hl (j + 1) (by simp; omega); simpa [Nat.add_assoc, Nat.add_comm 1 j] using this) hlo.2 (by omega) (inv.set (by simpa using hB.1.1) (by omega)) hB.2 hK ?_
    intro listed' a' i1 i2 i3
    exact hF listed' a' i1 (by rwa [show k + (lo.length + 1) = k + 1 + lo.length by omega]) i3

def looseTailB (ops : Array Oper) (m n : Nat) : Bool :=
  Region.noSelect ops && decide (n < ops.size) && decide (m ≤ n) && (ops.toList.take m).all looseB && sinkFrom .any ops m n && Region.chainB .any ops n && Region.lexHead .any ops (ops.size - n) n 0 (Array.replicate ops.size false)

/-- m copies, whenever they come; the rest of the head, in whatever order; the tail from n on. -/
theorem wp_region_tail_in {id : Nat} {Q : Exit → Act → World → Prop} {a : Act} {w : World} {l : List Oper} (m n : Nat) (hm : P.follows .mixedOrders = true) (hB : looseTailB l.toArray m n = true) (hC : C w.drew)
    (h : wpQuiet P l.toArray C (fun a' => ∀ w', C w' → wpList P l.toArray (Calm Q) (l.drop n) a' w') (l.take n) a) : (Code.region id l.toArray true).wp P Q a w := by
  simp only [looseTailB, Bool.and_eq_true, decide_eq_true_eq] at hB
  obtain ⟨⟨⟨⟨⟨⟨hsel, hn⟩, hmn⟩, hlo⟩, hs⟩, hc⟩, hlex⟩ := hB
  have hn' : n < l.length := by simpa using hn
  have htl : (l.take n).length = n := by simp; omega
  have hdl : (l.drop n).length = l.toArray.size - n := by simp
  have inv : HeadInv .any l.toArray n (Array.replicate l.toArray.size false) :=
    ⟨by simp, fun j oj _ hl => (by rw [getD_replicate_false] at hl; cases hl), fun t _ ht => getD_in (by simpa using ht) (getD_replicate_false _ _)⟩
  have hsplit : l.take n = l.take m ++ (l.drop m).take (n - m) := by
    rw [← List.take_add, show m + (n - m) = n by omega]
  refine Code.wp_mono calm_imp (wp_region_any hm ?_)
  have hlm : (l.take m).length = m := by simp; omega
  have hrm : ((l.drop m).take (n - m)).length = n - m := by simp; omega
  rw [hsplit] at h
  have := any_loose (P := P) (md := .any) (C := C) (n := n) (g := l.toArray.size - n) (F := (n - m) + (l.toArray.size - n)) (r := n - m) (Q := Q) hsel hC ((l.drop m).take (n - m)) hrm (l.take m) 0 (Array.replicate l.toArray.size false) a
    (fun j hj => by have hj' : j < m := by rw [hlm] at hj; exact hj
                    simp [hj']) (by simpa using hlo) (by omega) inv (by rw [hlm, show m + (n - m) = n by omega]; exact hlex) h ?_
  · rw [hlm, show m + (n - m + (l.toArray.size - n)) = l.toArray.size by omega] at this
    exact this
  · intro listed' a' i1 i2 i3
    rw [hlm, Nat.zero_add] at i2
    have H := headQ_lex (P := P) (C := C) (md := .any) (m := m) (g := l.toArray.size - n) hsel hs hc hn ((l.drop m).take (n - m)) m listed' a' (fun j hj => by
      rw [hrm] at hj
      simp [List.getElem?_take, List.getElem?_drop, hj]) (Nat.le_refl _) (by rw [hrm]; omega) i1 (by rw [hrm]; exact i2) i3
    have := any_of_headQ (Q := Calm Q) (g := l.toArray.size - n) (fun listed a' w' hw' hL => by
      have := wpAny_of_seq (md := .any) (Q' := Calm Q) (l.drop n) n listed a' w' (fun j => by simp [List.getElem?_drop]) (by rw [hdl]; exact hL.1) (hL.2 w' hw')
      rwa [hdl] at this) _ _ _ _ hC H
    rw [hrm] at this
    exact this
end

theorem wp_region_tail_at {P : Program} {id : Nat} {Q : Exit → Act → World → Prop} {a : Act} {w : World} (x : Later w) {l : List Oper} (m n : Nat) (hm : P.follows .mixedOrders = true) (hB : looseTailB l.toArray m n = true)
    (h : wpQuiet P l.toArray (fun w' => ∃ x : Later w, w' = x.val) (fun a' => ∀ x : Later w, wpList P l.toArray (Calm Q) (l.drop n) a' x.val) (l.take n) a) : (Code.region id l.toArray true).wp P Q a x.val := by
  refine wp_region_tail_in (C := fun w' => ∃ x : Later w, w' = x.val) m n hm hB ⟨⟨x.val.drew, x.ok.drew⟩, rfl⟩ ?_
  have e : (fun a' => ∀ w', (∃ x : Later w, w' = x.val) → wpList P l.toArray (Calm Q) (l.drop n) a' w') = fun a' => ∀ x : Later w, wpList P l.toArray (Calm Q) (l.drop n) a' x.val := by
    funext a'
    apply propext
    constructor
    · intro h x
      exact h _ ⟨x, rfl⟩
    · rintro h w' ⟨x, rfl⟩
      exact h x
  rw [e]
  exact h
theorem wp_region_tail {P : Program} {id : Nat} {Q : Exit → Act → World → Prop} {a : Act} {w : World} {l : List Oper} (m n : Nat) (hm : P.follows .mixedOrders = true) (hB : looseTailB l.toArray m n = true)
    (h : wpQuiet P l.toArray (fun w' => ∃ x : Later w, w' = x.val) (fun a' => ∀ x : Later w, wpList P l.toArray (Calm Q) (l.drop n) a' x.val) (l.take n) a) : (Code.region id l.toArray true).wp P Q a w :=
  wp_region_tail_at ⟨w, Below.refl _ _⟩ m n hm hB h
end Go.Proofs.Ytelfinjnbncnlaa
