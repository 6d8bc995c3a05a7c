/- SluiceRaises: the fen that is wanted, made in whatever order. -/
import Derived.Test.YtelfinjnbncnlaaLevelsLaw
import Derived.Test.YtelfinjnbncnlaaRaise
import Derived.Test.YtelfinjnbncnlaaOrd
import Derived.Deep.AppendLies
namespace Go.Proofs.Ytelfinjnbncnlaa
open Go.RowKit

theorem ite_in {c : Prop} [Decidable c] {A B : Prop} (h : c) (ha : A) : if c then A else B := by rw [if_pos h]; exact ha
theorem own_int_kd {V : World} {base : Nat} {v : Value} {l : List Int} (h : OwnI V base v l) {g : Nat} (hg : v.ownBlock = some g) : ∃ cs, V.heap[g]? = some (.cells cs 3 (0, 0)) := by
  rcases h.2 with ⟨rfl, _⟩ | ⟨g', cap, cur, rfl, _, hh, _⟩
  · simp [Value.ownBlock] at hg
  · simp [Value.ownBlock] at hg; subst hg; exact ⟨_, hh⟩
theorem own_ne_fen {V : World} {base : Nat} {v : Value} {l : List Int} {b : Nat} {cs : Array Value} (h : OwnI V base v l) (hb : V.heap[b]? = some (.cells cs 25 (0, 0))) {g : Nat} (hg : v.ownBlock = some g) : b ≠ g := by
  rintro rfl
  obtain ⟨c2, h2⟩ := own_int_kd h hg
  rw [hb] at h2
  simp only [Option.some.injEq, Obj.cells.injEq] at h2
  exact absurd h2.2.1 (by decide)
/-- What the region has made so far: the empty list, the heights, the box. -/
structure FenB (Z : World) (W H n m capS : Nat) (B : Option Addr) (l : List Int) (m4 m7 m11 d12 : Bool) (x65 x68 x10 : Value) (w : World) : Prop where
  below : Below Z.heap.size Z w
  at4 : m4 = true → m7 = false → ∃ g0, x65 = .slice (some ⟨g0, 0, none⟩) 0 0 ∧ OwnI w Z.heap.size x65 []
  at7 : m7 = true → ∃ g1 c1, x68 = .slice (some ⟨g1, 0, none⟩) n c1 ∧ OwnI w Z.heap.size x68 l
  at11 : m11 = true → ∃ nb u0 u1 u2 u3, x10 = .pointer (some ⟨nb, 0, none⟩) ∧ Z.heap.size ≤ nb ∧ w.heap[nb]? = some (.cells #[u0, u1, u2, u3] 25 (0, 0)) ∧ (d12 = true → u0 = .int .i64 W ∧ u1 = .int .i64 H ∧ u2 = x68 ∧ u3 = .slice B m capS)
  ok4 : m7 = true → m4 = true
  ok12 : d12 = true → m11 = true ∧ m7 = true
section
variable {Z w : World} {W H n m capS : Nat} {B : Option Addr} {l : List Int} {m4 m7 m11 d12 : Bool} {x65 x68 x10 : Value}
theorem FenB.new4 (h : FenB Z W H n m capS B l m4 m7 m11 d12 x65 x68 x10 w) (hn : m4 = false) : FenB Z W H n m capS B l true m7 m11 d12 (.slice (some ⟨w.heap.size, 0, none⟩) 0 0) x68 x10 (w.alloc (.cells #[] 3)) := by
  have hm7 : m7 = false := by
    cases hc : m7 with
    | false => rfl
    | true => have := h.ok4 hc; rw [hn] at this; cases this
  refine ⟨below_alloc h.below, fun _ _ => ⟨_, rfl, ?_⟩, fun e => absurd e (by simp [hm7]), fun e => ?_, fun _ => rfl, h.ok12⟩
  · exact World.ownsRow_made w #[] 0 h.below.size (by unfold maxLen; omega) rfl
  · obtain ⟨nb, u0, u1, u2, u3, e1, e2, e3, e4⟩ := h.at11 e
    exact ⟨nb, u0, u1, u2, u3, e1, e2, (Below.heap_alloc _ _ _ (get_lt e3)).trans e3, e4⟩
theorem FenB.new11 {u0 u1 u2 u3 : Value} (h : FenB Z W H n m capS B l m4 m7 m11 d12 x65 x68 x10 w) (hn : m11 = false) : FenB Z W H n m capS B l m4 m7 true d12 x65 x68 (.pointer (some ⟨w.heap.size, 0, none⟩)) (w.alloc (.cells #[u0, u1, u2, u3] 25)) := by
  refine ⟨below_alloc h.below, fun e e' => ?_, fun e => ?_, fun _ => ⟨_, _, _, _, _, rfl, h.below.size, World.alloc_heap_new _ _, fun hd => ?_⟩, h.ok4, fun hd => ⟨rfl, (h.ok12 hd).2⟩⟩
  · obtain ⟨g0, e1, e2⟩ := h.at4 e e'
    exact ⟨g0, e1, e2.alloc _⟩
  · obtain ⟨g1, c1, e1, e2⟩ := h.at7 e
    exact ⟨g1, c1, e1, e2.alloc _⟩
  · have := (h.ok12 hd).1
    rw [hn] at this
    cases this
theorem FenB.grow7 {g c : Nat} {w' : World} (h : FenB Z W H n m capS B l m4 m7 m11 d12 x65 x68 x10 w) (h4 : m4 = true) (hn : m7 = false) (ho : OwnI w' Z.heap.size (.slice (some ⟨g, 0, none⟩) n c) l) (hg : w.grownBy w' x65.ownBlock) :
    FenB Z W H n m capS B l m4 true m11 d12 x65 (.slice (some ⟨g, 0, none⟩) n c) x10 w' := by
  obtain ⟨g0, e1, e2⟩ := h.at4 h4 hn
  refine ⟨below_own h.below e2 (Nat.le_refl _) hg, fun _ e => absurd e (by decide), fun _ => ⟨g, c, rfl, ho⟩, fun e => ?_, fun _ => h4, fun hd => ?_⟩
  · obtain ⟨nb, u0, u1, u2, u3, k1, k2, k3, k4⟩ := h.at11 e
    refine ⟨nb, u0, u1, u2, u3, k1, k2, (hg.block nb (get_lt k3) fun e => own_ne_fen e2 k3 e.symm rfl).trans k3, fun hd => ?_⟩
    have := (h.ok12 hd).2
    rw [hn] at this
    cases this
  · have := (h.ok12 hd).2
    rw [hn] at this
    cases this
theorem FenB.put12 {nb : Nat} (h : FenB Z W H n m capS B l m4 m7 m11 d12 x65 x68 (.pointer (some ⟨nb, 0, none⟩)) w) (h7 : m7 = true) (h11 : m11 = true) :
    FenB Z W H n m capS B l m4 m7 m11 true x65 x68 (.pointer (some ⟨nb, 0, none⟩)) ((((w.setCell ⟨nb, 0, none⟩ (.int .i64 W)).setCell ⟨nb, 1, none⟩ (.int .i64 H)).setCell ⟨nb, 2, none⟩ x68).setCell ⟨nb, 3, none⟩ (.slice B m capS)) := by
  obtain ⟨b', u0, u1, u2, u3, e, k2, k3, k4⟩ := h.at11 h11
  simp only [Value.pointer.injEq, Option.some.injEq, Addr.mk.injEq] at e
  obtain ⟨rfl, _⟩ := e
  refine ⟨below_set (below_set (below_set (below_set h.below k2) k2) k2) k2, fun _ e => absurd (h7.symm.trans e) (by decide), fun _ => ?_, fun _ => ⟨nb, _, _, _, _, rfl, k2, put4 k3, fun _ => ⟨rfl, rfl, rfl, rfl⟩⟩, h.ok4, fun _ => ⟨h11, h7⟩⟩
  obtain ⟨g1, c1, e1, e2⟩ := h.at7 h7
  have fr : ∀ k : Nat, ∀ t, x68.ownBlock = some t → (⟨nb, k, none⟩ : Addr).block ≠ t := fun k t ht => own_ne_fen e2 k3 ht
  exact ⟨g1, c1, e1, (((e2.far (fr 0)).far (fr 1)).far (fr 2)).far (fr 3)⟩
end
end Go.Proofs.Ytelfinjnbncnlaa
