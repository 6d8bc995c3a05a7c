/- The law of coats: walked. -/
import Derived.Test.YtcjahpbbkdkbpaaTThin
import Derived.ChangeKeysEq
namespace Go.Proofs.Ytcjahpbbkdkbpaa
open Go.RowKit

theorem guard_pair : Try.prog.eqGuardType Try.prog.depth 57 = false := by kernel_rfl
theorem plain_int : Try.prog.plainKey 3 = true := by kernel_rfl
theorem cells_int : Try.prog.cellsOf 3 = 1 := by kernel_rfl
theorem eq_pair (w : World) (a b x y : Int) : (Op.equalIn 10000 57 (.agg #[.int .i64 a, .int .i64 b]) (.agg #[.int .i64 x, .int .i64 y])).run Try.prog w = .ok ((a == x) && (b == y)) w := by
  obtain ⟨i, hi, _⟩ := info_int
  rw [run_equalIn_array w 9999 _ _ Try.underlying57 hi, cells_int]
  have p0 : ∀ (w : World) (u v : Value), (part 3 #[u, v] 0).run Try.prog w = .ok u w := fun w u v => run_part_plain w plain_int rfl
  have p1 : ∀ (w : World) (u v : Value), (part 3 #[u, v] 1).run Try.prog w = .ok v w := fun w u v => run_part_plain w plain_int rfl
  have q : ∀ (w : World) (u v : Int), (Op.equalIn 9999 3 (.int .i64 u) (.int .i64 v)).run Try.prog w = .ok (u == v) w := fun w u v => run_equalIn_int w 9998 _ _ _ u v Try.underlying3
  simp only [List.range_succ, List.range_zero, List.nil_append, List.cons_append, Op.eqItems, Nat.zero_mul, Nat.one_mul, Sem.run_bind, p0, p1, q, Result.andThen_ok]
  by_cases h1 : a = x <;> by_cases h2 : b = y <;> simp [h1, h2, p0, p1, q]
attribute [local go_sem] guard_pair eq_pair
theorem okCoat_congr {s g r : Int} {n : Nat} {f k : Nat → Int} (h : ∀ i, i < n → f i = k i) : okCoat s g r n f = okCoat s g r n k := by
  have e : ascB n f (upN s.toNat g.toNat : Nat) = ascB n k (upN s.toNat g.toNat : Nat) := by
    have key : ∀ c : Int, ∀ i, i < n → ascQ f c i = ascQ k c i := fun c i hi => by
      unfold ascQ
      rw [h i hi]
      by_cases h0 : 0 < i
      · rw [h (i - 1) (by omega)]
      · rw [decide_eq_false h0]; rfl
    unfold ascB allB
    rw [Bool.eq_iff_iff, List.all_eq_true, List.all_eq_true]
    constructor
    · intro hA x hx; rw [← key _ x (List.mem_range.1 hx)]; exact hA x hx
    · intro hA x hx; rw [key _ x (List.mem_range.1 hx)]; exact hA x hx
  unfold okCoat
  rw [e]
def Both (f f' : FuncId) (a : Array Value) (w : World) (v : Value) : Prop := (∀ V, Below w.heap.size w V → Gives Try.prog f a V v) ∧ ∀ V, Below w.heap.size w V → Gives Try.prog f' a V v
def BothQ (f f' : FuncId) (a : Array Value) (w : World) (m : Nat) (E : Int) (X Y : Nat → Int) : Prop :=
  (∀ V, Below w.heap.size w V → Calls Try.prog f a V fun e w' => ∃ A c, e = .returned (.tuple #[.slice A m c, .int .i64 E]) ∧ ∃ x : Later V, w' = x.val ∧ IsPairs w' A m X Y) ∧
  ∀ V, Below w.heap.size w V → Calls Try.prog f' a V fun e w' => ∃ A c, e = .returned (.tuple #[.slice A m c, .int .i64 E]) ∧ ∃ x : Later V, w' = x.val ∧ IsPairs w' A m X Y
theorem none_pairs (V : World) (X Y : Nat → Int) : IsPairs V none 0 X Y := ⟨by omega, fun h => absurd h (by omega)⟩
theorem gives_none {f : FuncId} {a : Array Value} {V : World} {E : Int} (h : Gives Try.prog f a V (.tuple #[.slice none 0 0, .int .i64 E])) : Calls Try.prog f a V fun e w' => ∃ A c, e = .returned (.tuple #[.slice A 0 c, .int .i64 E]) ∧ ∃ x : Later V, w' = x.val ∧ IsPairs w' A 0 (fun _ => 0) (fun _ => 0) :=
  Calls.mono h fun _ w' ⟨he, x, hx⟩ => ⟨none, 0, he, x, hx, none_pairs _ _ _⟩
theorem post_pairs {f : FuncId} {a : Array Value} {V : World} {l : List Pt} (hs : l.length ≤ 100000) (h : Calls Try.prog f a V (PostQE V l)) : Calls Try.prog f a V fun e w' => ∃ A c, e = .returned (.tuple #[.slice A l.length c, .int .i64 0]) ∧ ∃ x : Later V, w' = x.val ∧ IsPairs w' A l.length (hx l) (hy l) :=
  Calls.mono h fun _ w' ⟨v, he, x, hx, ho⟩ => by
    obtain ⟨A, c, rfl⟩ := ho.shape
    exact ⟨A, c, he, x, hx, ho.pairs rfl (by omega)⟩
end Go.Proofs.Ytcjahpbbkdkbpaa
