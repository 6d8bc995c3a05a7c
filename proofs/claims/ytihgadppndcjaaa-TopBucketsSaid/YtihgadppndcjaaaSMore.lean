/- Settle and Lost, as laws on more buckets use them. -/
import Derived.Test.YtihgadppndcjaaaSLost
import Derived.Test.YtihgadppndcjaaaSAfterLaw
import Derived.Test.YtihgadppndcjaaaPileMath
namespace Go.Proofs.Ytihgadppndcjaaa
open Go.RowKit

theorem rests_of {W H n : Nat} {f : Nat → Int} {b o : List Int} {k : Nat} (hn : n = W * H) (h : (b, o) = passes W H n ((List.range n).map f, List.replicate n 0) k) (hs : ∀ j, j < n → b.getD j 0 < 4) (sv : SV W H n b o) : Rests W H n f b o where
  lin := settled_lin hn h
  nb i hi := ⟨sv.nb i (by rw [sv.lb]; exact hi), hs i hi⟩
  no := sv.no
  least _ hm h0 := settled_le hn hm h0 h
/-- What Settle answers, told by its rest. -/
def PostRe (w : World) (W H n : Nat) (f : Nat → Int) (e : Ending) (w' : World) : Prop :=
  ∃ v1 v2 b o, e = .returned (.tuple #[v1, v2, .int .i64 0]) ∧ ∃ x : Later w, w' = x.val ∧ OwnI w' w.heap.size v1 b ∧ OwnI w' w.heap.size v2 o ∧ Rests W H n f b o
theorem settle_rests (W H n cap : Nat) (A : Option Addr) (f : Nat → Int) (w : World) (hp : IsInts w A n f) (hv : bucketsB W H n f = true) :
    Calls Try.prog 42 #[.int .i64 W, .int .i64 H, .slice A n cap] w (PostRe w W H n f) := by
  have hn : n = W * H := by
    have := (buckets_facts hv).2.1
    rw [← Int.natCast_mul] at this; omega
  refine Calls.mono (Settle_ok W H n cap A f w hp hv) ?_
  rintro e w' ⟨v1, v2, b, o, k, rfl, x, rfl, h1, h2, r1, r2, r3⟩
  exact ⟨v1, v2, b, o, rfl, x, rfl, h1, h2, rests_of hn r1 r2 r3⟩
theorem settle_again (W H n cap : Nat) (A : Option Addr) (bb : List Int) (w : World) (hl : bb.length = n) (hp : IsInts w A n fun i => bb.getD i 0) (hb : ∀ i, i < n → 0 ≤ bb.getD i 0 ∧ bb.getD i 0 < 4) (hv : bucketsB W H n (fun i => bb.getD i 0) = true) :
    Calls Try.prog 42 #[.int .i64 W, .int .i64 H, .slice A n cap] w fun e w' => ∃ v1 v2, e = .returned (.tuple #[v1, v2, .int .i64 0]) ∧ ∃ x : Later w, w' = x.val ∧ OwnI w' w.heap.size v1 bb ∧ OwnI w' w.heap.size v2 (List.replicate n 0) := by
  refine Calls.mono (settle_rests W H n cap A _ w hp hv) ?_
  rintro e w' ⟨v1, v2, b, o, rfl, x, rfl, h1, h2, r⟩
  obtain ⟨rfl, rfl⟩ := r.unique (rest_still hl hb)
  exact ⟨v1, v2, rfl, x, rfl, h1, h2⟩
theorem lost_rests (W H n cap : Nat) (A : Option Addr) (f : Nat → Int) (w : World) (hp : IsInts w A n f) (hv : bucketsB W H n f = true) {bb oo : List Int} (hr : Rests W H n f bb oo) :
    Gives Try.prog 43 #[.int .i64 W, .int .i64 H, .slice A n cap] w (.tuple #[.int .i64 (sumN f n - sumN (fun i => bb.getD i 0) n), .int .i64 0]) := by
  have hn : n = W * H := by
    have := (buckets_facts hv).2.1
    rw [← Int.natCast_mul] at this; omega
  refine Calls.mono (lost_ok W H n cap A f w hp hv) ?_
  rintro e w' ⟨b, o, k, rfl, hx, r1, r2, r3⟩
  obtain ⟨rfl, rfl⟩ := hr.unique (rests_of hn r1 r2 r3)
  exact ⟨rfl, hx⟩
/-- Right buckets. -/
theorem buckets_true {W H n : Nat} {f : Nat → Int} (hW : 1 ≤ W) (hW2 : W ≤ 16) (hH : 1 ≤ H) (hH2 : H ≤ 16) (hn : n = W * H) (hf : ∀ i, i < n → 0 ≤ f i ∧ f i ≤ 100) : bucketsB W H n f = true := by
  unfold bucketsB sidesB numB
  simp only [Bool.and_eq_true, decide_eq_true_eq, allB_iff]
  refine ⟨⟨⟨by omega, by omega⟩, by omega, by omega⟩, by rw [hn, Int.natCast_mul], fun i hi => hf i hi⟩
theorem sum_none {n : Nat} : ∀ k, sumN (fun i => (List.replicate n (0 : Int)).getD i 0) k = 0
  | 0 => rfl
  | k + 1 => by show sumN _ k + (List.replicate n (0 : Int)).getD k 0 = 0; rw [sum_none k, rep_nil]; rfl
end Go.Proofs.Ytihgadppndcjaaa
