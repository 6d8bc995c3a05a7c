/- What comes in, opened: sightings, nests, squares, lists of lists, small arrays. -/
import Derived.Test.YtlljjaafejjeeaaSLaw
import Derived.Test.YtlljjaafejjeeaaKNests
import Derived.ChangeSlices
import Derived.Deep.Slices
import Derived.OpenShut
namespace Go.Proofs.Ytlljjaafejjeeaa
open Go.ChangeShapes Go.WideShapes Go.ChangeAt Go.RowKit Go.Deep

theorem ints_of {H : Type} {enc : TypeId × Value → H} {W : World} {fuel : Nat} {cs : List Value} {x : DataW H × List MemPlace} (hb : ∀ b ∈ x.2, b.block < W.heap.size)
    (h : DataW.trod enc Try.prog W 0 (fun _ => true) true fuel 24 cs = some x) :
    ∃ A n cap f, cs = [.slice A n cap] ∧ n ≤ cap ∧ cap ≤ maxLen ∧ (n ≤ 9223372036854775807 → IsInts W A n f) ∧ ∀ i, i < n → (Lit.int .i64 (f i)).wf = true := by
  rcases open_ints Try.underlying24 Try.underlying3 (by kernel_rfl) h with ⟨rfl, rfl⟩ | ⟨a, len, cap, zs, rfl, _, hl, hc, hz, rfl, hcell, hwf⟩
  · exact ⟨none, 0, 0, fun _ => 0, rfl, by omega, by omega, fun _ => ⟨by omega, fun h => absurd h (by omega)⟩, fun i hi => absurd hi (by omega)⟩
  · rw [if_pos rfl] at hz
    refine ⟨some a, len, cap, fun i => zs.getD i 0, rfl, hl, hc, fun hs => ⟨hs, fun h0 => ?_⟩, fun i hi => hwf _ ?_⟩
    · have hc0 := hcell 0 (by omega)
      have hs : a.spot = none := by
        have e : a.add 0 = a := by simp [Addr.add]
        rw [e] at hc0
        cases hsp : a.spot with
        | none => rfl
        | some s =>
          exfalso
          unfold World.cell? at hc0
          split at hc0
          · simp [hsp] at hc0
          · cases hc0
      obtain ⟨b, off, spot⟩ := a
      obtain rfl : spot = none := hs
      have hrow : MemPlace.cell b off ∈ MemPlace.row ⟨b, off, none⟩ zs.length := by
        unfold MemPlace.row
        exact List.mem_map.2 ⟨0, List.mem_range.2 (by omega), rfl⟩
      exact ⟨b, off, rfl, hb _ hrow, fun i hi => by have := hcell i (by omega); rw [add_plain] at this; exact this⟩
    · show zs.getD i 0 ∈ zs
      rw [List.getD_eq_getElem?_getD, List.getElem?_eq_getElem (by omega), Option.getD_some]
      exact List.getElem_mem _

set_option maxRecDepth 100000 in
/-- A list of whole numbers, opened. -/
theorem open_list {H : Type} {enc : TypeId × Value → H} {W : World} {r : Reach} {base : Nat} {v : Value} {d : DataW H} {p : List MemPlace} (hb : ∀ b ∈ p, b.block < W.heap.size)
    (hval : Value.okWide Try.prog W r base 24 v) (h : DataW.Trod enc Try.prog W 0 (fun _ => true) true 24 v d p) :
    ∃ A n cap f, v = .slice A n cap ∧ n ≤ cap ∧ cap ≤ maxLen ∧ (n ≤ 9223372036854775807 → IsInts W A n f) ∧ ∀ i, i < n → (Lit.int .i64 (f i)).wf = true := by
  obtain ⟨A, n, cap, rfl⟩ := okWide_slice Try.underlying24 hval
  obtain ⟨fuel, hf⟩ := h
  obtain ⟨A', n', cap', f, e, h1⟩ := ints_of hb hf
  have e' : [Value.slice A n cap] = [.slice A' n' cap'] := e
  simp only [List.cons.injEq, Value.slice.injEq, and_true] at e'
  obtain ⟨rfl, rfl, rfl⟩ := e'
  exact ⟨A, n, cap, f, rfl, h1⟩

theorem pick_lt {α : Type} [Inhabited α] {n : Nat} {P : Nat → α → Prop} (h : ∀ i, i < n → ∃ x, P i x) : ∃ f : Nat → α, ∀ i, i < n → P i (f i) := by
  classical
  exact ⟨fun i => if hi : i < n then Classical.choose (h i hi) else default, fun i hi => by
    show P i (if hi : i < n then _ else _)
    rw [dif_pos hi]
    exact Classical.choose_spec (h i hi)⟩
theorem list_three {α : Type} {l : List α} (h : l.length = 3) : ∃ a b c, l = [a, b, c] := by
  obtain ⟨a, m, rfl, hm⟩ := list_more (n := 2) h
  obtain ⟨b, c, rfl⟩ := list_two hm
  exact ⟨a, b, c, rfl⟩
set_option maxRecDepth 100000 in
/-- What one sighting reads as: three numbers in three cells. -/
theorem sight_cells {H : Type} {enc : TypeId × Value → H} {W : World} {fuel : Nat} {a : Addr} {i : Nat} {cs : List Value} {x : DataW H × List MemPlace}
    (h1 : W.cells? 0 (a.add (i * Try.prog.cellsOf 44)) (Try.prog.cellsOf 44) = some cs) (h2 : DataW.trod enc Try.prog W 0 (fun _ => true) true fuel 44 cs = some x) :
    ∃ r : Int × Int × Int, (∀ j (v : Value), [Value.int .i64 r.1, .int .i64 r.2.1, .int .i64 r.2.2][j]? = some v → W.cell? ((a.add (i * 3)).add j) = some v) ∧ (Lit.int .i64 r.1).wf = true ∧ (Lit.int .i64 r.2.1).wf = true ∧ (Lit.int .i64 r.2.2).wf = true := by
  have hu : Try.prog.underlying 44 = some (.struct #[_, _, _]) := Try.underlying44
  have hc : Try.prog.cellsOf 44 = 3 := by kernel_rfl
  have c3 : Try.prog.cellsOf 3 = 1 := by kernel_rfl
  rw [hc] at h1
  obtain ⟨_, hlen, hcell⟩ := World.cells?_some h1
  obtain ⟨xs, k, rfl, hx, hl, hn, hfd⟩ := DataW.trod_struct hu h2
  obtain ⟨v0, v1, v2, rfl⟩ := list_three hlen
  obtain ⟨x0, x1, x2, rfl⟩ := list_three hn
  have g0 := hfd 0 _ rfl
  have g1 := hfd 1 _ rfl
  have g2 := hfd 2 _ rfl
  have g0' : DataW.trod enc Try.prog W 0 (fun _ => true) true k 3 (([v0, v1, v2].drop 0).take (Try.prog.cellsOf 3)) = some x0 := g0
  have g1' : DataW.trod enc Try.prog W 0 (fun _ => true) true k 3 (([v0, v1, v2].drop 1).take (Try.prog.cellsOf 3)) = some x1 := g1
  have g2' : DataW.trod enc Try.prog W 0 (fun _ => true) true k 3 (([v0, v1, v2].drop 2).take (Try.prog.cellsOf 3)) = some x2 := g2
  rw [c3] at g0' g1' g2'
  obtain ⟨z0, e0, _, w0⟩ := DataW.trod_int Try.underlying3 g0'
  obtain ⟨z1, e1, _, w1⟩ := DataW.trod_int Try.underlying3 g1'
  obtain ⟨z2, e2, _, w2⟩ := DataW.trod_int Try.underlying3 g2'
  have e0' : [v0] = [Value.int .i64 z0] := e0
  have e1' : [v1] = [Value.int .i64 z1] := e1
  have e2' : [v2] = [Value.int .i64 z2] := e2
  simp only [List.cons.injEq, and_true] at e0' e1' e2'
  subst e0' e1' e2'
  refine ⟨(z0, z1, z2), fun j v hj => ?_, w0, w1, w2⟩
  have hj3 : j < 3 := by
    rcases Nat.lt_or_ge j 3 with h | h
    · exact h
    · rw [List.getElem?_eq_none (by simpa using h)] at hj; cases hj
  rw [hcell j hj3]
  exact hj
set_option maxRecDepth 100000 in
theorem sights_of {H : Type} {enc : TypeId × Value → H} {W : World} {fuel : Nat} {cs : List Value} {x : DataW H × List MemPlace} (hb : ∀ b ∈ x.2, b.block < W.heap.size)
    (h : DataW.trod enc Try.prog W 0 (fun _ => true) true fuel 22 cs = some x) :
    ∃ A n cap F T V, cs = [.slice A n cap] ∧ n ≤ cap ∧ cap ≤ maxLen ∧ (n ≤ 60 → IsChs W A n F T V) ∧ ∀ i, i < n → (Lit.int .i64 (F i)).wf = true ∧ (Lit.int .i64 (T i)).wf = true ∧ (Lit.int .i64 (V i)).wf = true := by
  have hc : Try.prog.cellsOf 44 = 3 := by kernel_rfl
  rcases open_slice Try.underlying22 h with ⟨h1, _⟩ | ⟨a, len, cap, m, k, D, Pl, h1, _, hl, hm, h5, h6, h7⟩
  · exact ⟨none, 0, 0, fun _ => 0, fun _ => 0, fun _ => 0, h1, by omega, by omega, fun _ => ⟨by omega, fun h => absurd h (by omega)⟩, fun i hi => absurd hi (by omega)⟩
  · rw [if_pos rfl] at h5
    subst h5
    have each : ∀ i, i < m → ∃ r : Int × Int × Int, (∀ j (v : Value), [Value.int .i64 r.1, .int .i64 r.2.1, .int .i64 r.2.2][j]? = some v → W.cell? ((a.add (i * 3)).add j) = some v) ∧ (Lit.int .i64 r.1).wf = true ∧ (Lit.int .i64 r.2.1).wf = true ∧ (Lit.int .i64 r.2.2).wf = true := fun i hi => by
      obtain ⟨cs', q1, q2⟩ := h7 i hi
      exact sight_cells q1 q2
    obtain ⟨r, hr⟩ := pick_lt each
    refine ⟨some a, len, m, fun i => (r i).1, fun i => (r i).2.1, fun i => (r i).2.2, h1, by omega, by omega, fun h60 => ⟨by omega, fun h0 => ?_⟩, fun i hi => (hr i (by omega)).2⟩
    have hs : a.spot = none := by
      have hc0 := (hr 0 (by omega)).1 0 _ rfl
      have e : (a.add (0 * 3)).add 0 = a := by simp [Addr.add]
      rw [e] at hc0
      cases hsp : a.spot with
      | none => rfl
      | some s =>
        exfalso
        unfold World.cell? at hc0
        split at hc0
        · simp [hsp] at hc0
        · cases hc0
    obtain ⟨b, off, spot⟩ := a
    obtain rfl : spot = none := hs
    have hrow : MemPlace.cell b off ∈ x.2 := by
      rw [h6]
      refine List.mem_append_left _ ?_
      unfold MemPlace.row
      rw [hc]
      exact List.mem_map.2 ⟨0, List.mem_range.2 (by omega), rfl⟩
    refine ⟨b, off, rfl, hb _ hrow, fun i hi => ?_, fun i hi => ?_, fun i hi => ?_⟩
    · have := (hr i (by omega)).1 0 _ rfl
      rw [add_plain, add_plain] at this
      exact this
    · have := (hr i (by omega)).1 1 _ rfl
      rw [add_plain, add_plain] at this
      exact this
    · have := (hr i (by omega)).1 2 _ rfl
      rw [add_plain, add_plain] at this
      exact this
set_option maxRecDepth 100000 in
theorem open_sights {H : Type} {enc : TypeId × Value → H} {W : World} {r : Reach} {base : Nat} {v : Value} {d : DataW H} {p : List MemPlace} (hb : ∀ b ∈ p, b.block < W.heap.size)
    (hval : Value.okWide Try.prog W r base 22 v) (h : DataW.Trod enc Try.prog W 0 (fun _ => true) true 22 v d p) :
    ∃ (A : Option Addr) (n cap : Nat) (X Y T : Nat → Int), v = .slice A n cap ∧ n ≤ cap ∧ cap ≤ maxLen ∧ (n ≤ 60 → IsChs W A n X Y T) ∧ ∀ i, i < n → (Lit.int .i64 (X i)).wf = true ∧ (Lit.int .i64 (Y i)).wf = true ∧ (Lit.int .i64 (T i)).wf = true := by
  obtain ⟨A, n, cap, rfl⟩ := okWide_slice Try.underlying22 hval
  obtain ⟨fuel, hf⟩ := h
  obtain ⟨A', n', cap', F, T, V, e, h1⟩ := sights_of hb hf
  have e' : [Value.slice A n cap] = [.slice A' n' cap'] := e
  simp only [List.cons.injEq, Value.slice.injEq, and_true] at e'
  obtain ⟨rfl, rfl, rfl⟩ := e'
  exact ⟨A, n, cap, F, T, V, rfl, h1⟩
end Go.Proofs.Ytlljjaafejjeeaa
