/- A slice of posts, opened, with its capacity. -/
import Derived.Test.YticjjikodignfaaDoorLaw
namespace Go.Proofs.YticjjikodignfaaDoor
open Go.ChangeShapes Go.WideShapes Go.ChangeAt Go.RowKit Go.Deep

set_option maxRecDepth 100000 in
/-- A slice of posts, opened. -/
theorem open_posts_cap {H : Type} {enc : TypeId × Value → H} {W : World} {r : Reach} {base : Nat} {v : Value} {d : DataW H} {p : List MemPlace} (hb : ∀ b ∈ p, b.block < W.heap.size)
    (hval : Value.okWide Tryd.prog W r base 32 v) (h : DataW.Trod enc Tryd.prog W 0 (fun _ => true) true 32 v d p) :
    ∃ A n cap px py, v = .slice A n cap ∧ n ≤ maxLen ∧ n ≤ cap ∧ cap ≤ maxLen ∧ (n ≤ 60 → IsPosts W A n px py) := by
  obtain ⟨A, n, cap, rfl⟩ := okWide_slice Tryd.underlying32 hval
  obtain ⟨fuel, hf⟩ := h
  have hu : Tryd.prog.underlying 37 = some (.struct #[_, _]) := Tryd.underlying37
  rcases open_slice_pairs Tryd.underlying32 hu (by kernel_rfl) rfl rfl (by kernel_rfl) (by kernel_rfl) hf with ⟨h1, h2⟩ | ⟨a, len, cap', m, k, V0, V1, D0, D1, P0, P1, h1, h2, h3, h4, h5, h6, h7⟩
  · have h1' : [Value.slice A n cap] = [.slice none 0 0] := h1
    simp only [List.cons.injEq, Value.slice.injEq, and_true] at h1'
    obtain ⟨rfl, rfl, rfl⟩ := h1'
    exact ⟨none, 0, 0, fun _ => 0, fun _ => 0, rfl, by omega, by omega, by omega, fun _ => ⟨by omega, fun h => absurd h (by omega)⟩⟩
  · have h1' : [Value.slice A n cap] = [.slice (some a) len cap'] := h1
    simp only [List.cons.injEq, Value.slice.injEq, and_true] at h1'
    obtain ⟨rfl, rfl, rfl⟩ := h1'
    rw [if_pos rfl] at h5
    subst h5
    have hx : ∀ i, i < m → ∃ x : Int, V0 i = .int .i64 x := fun i hi => by
      obtain ⟨x, e, _⟩ := DataW.trod_int Tryd.underlying3 (h7 i hi).2.2.1
      exact ⟨x, by simpa using e⟩
    have hy : ∀ i, i < m → ∃ x : Int, V1 i = .int .i64 x := fun i hi => by
      obtain ⟨x, e, _⟩ := DataW.trod_int Tryd.underlying3 (h7 i hi).2.2.2
      exact ⟨x, by simpa using e⟩
    obtain ⟨px, hpx⟩ := choose_lt hx
    obtain ⟨py, hpy⟩ := choose_lt hy
    refine ⟨some a, n, m, px, py, rfl, by omega, by omega, by omega, fun h60 => ⟨by omega, fun h0 => ?_⟩⟩
    have hc := (h7 0 (by omega)).1
    have hs : a.spot = none := by
      have e : a.add (0 * 2) = a := by simp [Addr.add]
      rw [e] at hc
      cases hsp : a.spot with
      | none => rfl
      | some s =>
        exfalso
        unfold World.cell? at hc
        split at hc
        · simp [hsp] at hc
        · cases hc
    obtain ⟨b, off, spot⟩ := a
    obtain rfl : spot = none := hs
    have hrow : MemPlace.cell b off ∈ p := by
      have : p = _ := (Prod.mk.inj h6).2
      rw [this]
      refine List.mem_append_left _ ?_
      unfold MemPlace.row
      exact List.mem_map.2 ⟨0, List.mem_range.2 (by omega), rfl⟩
    refine ⟨b, off, rfl, hb _ hrow, fun i hi => ?_, fun i hi => ?_⟩
    · have := (h7 i (by omega)).1
      rw [hpx i (by omega), add_plain] at this
      exact this
    · have := (h7 i (by omega)).2.1
      rw [hpy i (by omega), add_plain] at this
      exact this


theorem wf_i64 {i : Int} (h : (Lit.int .i64 i).wf = true) : -9223372036854775808 ≤ i ∧ i ≤ 9223372036854775807 := by
  have h' : (decide (IntKind.i64.min ≤ i) && decide (i ≤ IntKind.i64.max)) = true := h
  have e1 : IntKind.i64.min = -9223372036854775808 := by rfl
  have e2 : IntKind.i64.max = 9223372036854775807 := by rfl
  rw [e1, e2, Bool.and_eq_true, decide_eq_true_eq, decide_eq_true_eq] at h'
  exact h'
end Go.Proofs.YticjjikodignfaaDoor
