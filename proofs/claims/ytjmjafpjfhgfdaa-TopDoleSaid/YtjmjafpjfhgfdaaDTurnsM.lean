/- What a turned circle brings: maths. -/
import Derived.Test.YtjmjafpjfhgfdaaDCircle
import Derived.Test.YtjmjafpjfhgfdaaDBetter
import Derived.Test.YtjmjafpjfhgfdaaDFair
namespace Go.Proofs.Ytjmjafpjfhgfdaa
open Go.RowKit

theorem prsR_pos {E : Nat → Nat → Bool} {i j : Nat} (h : E i j = true) : ∀ k, j < k → prsR E i k ≠ [] := by
  intro k
  induction k with
  | zero => intro hj; omega
  | succ k ih =>
    intro hj
    rw [prsR_succ]
    by_cases e : j = k
    · subst e
      rw [if_pos h]
      simp
    · have := ih (by omega)
      split
      · simp
      · exact this
theorem prsT_pos {E : Nat → Nat → Bool} {i j k : Nat} (h : E i j = true) (hj : j < k) : ∀ d, i < d → prsT E k d ≠ [] := by
  intro d
  induction d with
  | zero => intro hi; omega
  | succ d ih =>
    intro hi
    rw [prsT_succ]
    by_cases e : i = d
    · subst e
      have := prsR_pos h k hj
      simp [this]
    · have := ih (by omega)
      simp [this]
/-- A circle that is turned. -/
def aft (l : List Nat) (s : Nat → Int) (j : Nat) : Int := turnTo (zl l) l.length (s j) l.length
structure Turns (k m : Nat) (R : Nat → Row) (s : Nat → Int) (l : List Nat) : Prop where
  cir : cirB (envT R s m) k (zl l) l.length = true
  two : 1 < l.length
  len : l.length ≤ k
  lt : ∀ p, p < l.length → l.getD p 0 < k
  some : 0 < (prsT (envT R s m) k k).length
  err : errE k R m (aft l s) = 0
  bet : betT R (aft l s) s m k = true
  up : ∀ p, p < l.length → ownW R s m (l.getD p 0) < ownW R (aft l s) m (l.getD p 0)
theorem turns_ok {k m : Nat} {R : Nat → Row} {s : Nat → Int} (h : errE k R m s = 0) (hne : circA (envT R s m) k ≠ []) : Turns k m R s (circA (envT R s m) k) := by
  obtain ⟨W, hmn, hin⟩ := errE_ok h
  have C := circA_cyc hne
  have hc := cir_of_cyc (env_self R s m) C (c := zl (circA (envT R s m) k)) fun i _ => rfl
  have hlen := C.1.len
  have hlt := C.1.lt
  generalize circA (envT R s m) k = l at *
  obtain ⟨hd, hk, he, h1⟩ := cir_dif hc
  have hz : ∀ p, zl l p = (l.getD p 0 : Nat) := fun p => rfl
  have up : ∀ p, p < l.length → ownW R s m (l.getD p 0) < ownW R (aft l s) m (l.getD p 0) := fun p hp => by
    have h2 := he p hp
    have h3 := wth_turn (f := (R (l.getD p 0)).f) (s := s) (n := m) hd (by omega) hp
    rw [hz, hz] at h2
    simp only [Int.toNat_natCast] at h2
    unfold envT at h2
    have h4 := of_decide_eq_true h2
    rw [hz, hz] at h3
    unfold ownW aft
    rw [h3]
    exact h4
  refine ⟨hc, h1, hlen, hlt, ?_, ?_, ?_, up⟩
  · have h2 := he 0 (by omega)
    rw [hz, hz] at h2
    simp only [Int.toNat_natCast] at h2
    have h3 := prsT_pos h2 (hlt _ (Nat.mod_lt _ (by omega))) k (hlt 0 (by omega))
    exact Nat.pos_of_ne_zero fun e => h3 (List.length_eq_zero_iff.1 e)
  · unfold errE
    rw [tabB_iff.2 W, if_neg (by simp), (shareB_iff (c := aft l s)).2 ⟨hmn, fun j hj => turnTo_in hk (hin j hj) l.length (Nat.le_refl _)⟩, if_neg (by simp)]
  · unfold betT betterB moreB
    rw [Bool.and_eq_true, Bool.not_eq_true']
    refine ⟨allB_iff.2 fun i hi => decide_eq_true ?_, allB_false (p := fun i => decide (ownW R (aft l s) m i ≤ ownW R s m i)) (hlt 0 (by omega)) (decide_eq_false (by have := up 0 (by omega); omega))⟩
    by_cases hx : ∃ p, p < l.length ∧ l.getD p 0 = i
    · obtain ⟨p, hp, e⟩ := hx
      subst e
      have := up p hp
      omega
    · have h3 := wth_out (f := (R i).f) (s := s) (n := m) hd (o := (i : Nat)) fun p hp e => hx ⟨p, hp, by rw [hz] at e; omega⟩
      unfold ownW aft
      rw [h3]
      exact Int.le_refl _
end Go.Proofs.Ytjmjafpjfhgfdaa
