/- A fen that comes in, opened. -/
import Derived.Test.YtelfinjnbncnlaaSBoard
import Derived.Test.YtelfinjnbncnlaaFenValid
namespace Go.Proofs.Ytelfinjnbncnlaa
open Go.ChangeShapes Go.WideShapes Go.ChangeAt Go.RowKit Go.Deep

theorem pick_lt {α : Type} [Inhabited α] {n : Nat} {P : Nat → α → Prop} (h : ∀ i, i < n → ∃ x, P i x) : ∃ f : Nat → α, ∀ i, i < n → P i (f i) := by
  classical
  exact ⟨fun i => if hi : i < n then Classical.choose (h i hi) else default, fun i hi => by
    show P i (if hi : i < n then _ else _)
    rw [dif_pos hi]
    exact Classical.choose_spec (h i hi)⟩
set_option maxRecDepth 100000 in
theorem slus_of {H : Type} {enc : TypeId × Value → H} {W : World} {fuel : Nat} {cs : List Value} {x : DataW H × List MemPlace} (hb : ∀ b ∈ x.2, b.block < W.heap.size)
    (h : DataW.trod enc Try.prog W 0 (fun _ => true) true fuel 23 cs = some x) :
    ∃ A n cap a s, cs = [.slice A n cap] ∧ n ≤ cap ∧ cap ≤ maxLen ∧ (n ≤ 60 → IsSlu W A n a s) ∧ ∀ i, i < n → (Lit.int .i64 (a i)).wf = true ∧ (Lit.int .i64 (s i)).wf = true := by
  have hu : Try.prog.underlying 47 = some (.struct #[_, _]) := Try.underlying47
  rcases open_slice_pairs Try.underlying23 hu (by kernel_rfl) rfl rfl (by kernel_rfl) (by kernel_rfl) h with ⟨h1, h2⟩ | ⟨a, len, cap, m, k, V0, V1, D0, D1, P0, P1, h1, h2, h3, h4, h5, h6, h7⟩
  · exact ⟨none, 0, 0, fun _ => 0, fun _ => 0, h1, by omega, by omega, fun _ => ⟨by omega, fun h => absurd h (by omega)⟩, fun i hi => absurd hi (by omega)⟩
  · rw [if_pos rfl] at h5
    subst h5
    have hx : ∀ i, i < m → ∃ x : Int, V0 i = .int .i64 x ∧ (Lit.int .i64 x).wf = true := fun i hi => by
      obtain ⟨x, e, _, wf⟩ := DataW.trod_int Try.underlying3 (h7 i hi).2.2.1
      exact ⟨x, by simpa using e, wf⟩
    have hy : ∀ i, i < m → ∃ x : Int, V1 i = .int .i64 x ∧ (Lit.int .i64 x).wf = true := fun i hi => by
      obtain ⟨x, e, _, wf⟩ := DataW.trod_int Try.underlying3 (h7 i hi).2.2.2
      exact ⟨x, by simpa using e, wf⟩
    obtain ⟨px, hpx⟩ := pick_lt hx
    obtain ⟨py, hpy⟩ := pick_lt hy
    refine ⟨some a, len, m, px, py, h1, by omega, by omega, fun h60 => ⟨by omega, fun h0 => ?_⟩, fun i hi => ⟨(hpx i (by omega)).2, (hpy i (by omega)).2⟩⟩
    have hc := (h7 0 (by omega)).1
    have hs : a.spot = none := by
      have e : a.add (0 * 2) = a := by simp [Addr.add]
      rw [e] at hc
      cases hsp : a.spot with
      | none => rfl
      | some s =>
        exfalso
        unfold World.cell? at hc
        split at hc
        · simp [hsp] at hc
        · cases hc
    obtain ⟨b, off, spot⟩ := a
    obtain rfl : spot = none := hs
    have hrow : MemPlace.cell b off ∈ x.2 := by
      rw [h6]
      refine List.mem_append_left _ ?_
      unfold MemPlace.row
      exact List.mem_map.2 ⟨0, List.mem_range.2 (by omega), rfl⟩
    refine ⟨b, off, rfl, hb _ hrow, fun i hi => ?_, fun i hi => ?_⟩
    · have := (h7 i (by omega)).1
      rw [(hpx i (by omega)).1, add_plain] at this
      exact this
    · have := (h7 i (by omega)).2.1
      rw [(hpy i (by omega)).1, add_plain] at this
      exact this
set_option maxRecDepth 100000 in
/-- A fen, opened. -/
theorem open_fen {H : Type} {enc : TypeId × Value → H} {W : World} {r : Reach} {base : Nat} {v : Value} {d : DataW H} {p : List MemPlace} (hb : ∀ b ∈ p, b.block < W.heap.size)
    (hval : Value.okWide Try.prog W r base 25 v) (h : DataW.Trod enc Try.prog W 0 (fun _ => true) true 25 v d p) :
    ∃ (x y : Int) (A : Option Addr) (n cap : Nat) (f : Nat → Int) (B : Option Addr) (m capS : Nat) (a s : Nat → Int), v = .agg #[.int .i64 x, .int .i64 y, .slice A n cap, .slice B m capS] ∧ ((Lit.int .i64 x).wf = true ∧ (Lit.int .i64 y).wf = true) ∧ (n ≤ cap ∧ cap ≤ maxLen ∧ m ≤ capS ∧ capS ≤ maxLen) ∧ (n ≤ 9223372036854775807 → IsInts W A n f) ∧ (∀ i, i < n → (Lit.int .i64 (f i)).wf = true) ∧ (m ≤ 60 → IsSlu W B m a s) ∧ ∀ i, i < m → (Lit.int .i64 (a i)).wf = true ∧ (Lit.int .i64 (s i)).wf = true := by
  have hu : Try.prog.underlying 25 = some (.struct #[_, _, _, _]) := Try.underlying25
  simp only [Value.okWide, hu] at hval
  obtain ⟨cs, rfl, hsz, _⟩ := hval
  obtain ⟨fuel, hf⟩ := h
  obtain ⟨xs, k, rfl, hx, hl, hn, hfd⟩ := DataW.trod_struct hu hf
  have hp : p = xs.flatMap (·.2) := (Prod.mk.inj hx).2
  have hc : Try.prog.cellsOf 25 = 4 := by kernel_rfl
  have c3 : Try.prog.cellsOf 3 = 1 := by kernel_rfl
  have c4 : Try.prog.cellsOf 22 = 1 := by kernel_rfl
  have c5 : Try.prog.cellsOf 23 = 1 := by kernel_rfl
  rw [hc] at hsz
  obtain ⟨cl⟩ := cs
  obtain ⟨v0, l1, rfl, hl1⟩ := list_more (n := 3) hsz
  obtain ⟨v1, l2, rfl, hl2⟩ := list_more (n := 2) hl1
  obtain ⟨v2, v3, rfl⟩ := list_two hl2
  obtain ⟨x0, m1, rfl, hm1⟩ := list_more (n := 3) hn
  obtain ⟨x1, m2, rfl, hm2⟩ := list_more (n := 2) hm1
  obtain ⟨x2, x3, rfl⟩ := list_two hm2
  have h0 := hfd 0 _ rfl
  have h1 := hfd 1 _ rfl
  have h2 := hfd 2 _ rfl
  have h3 := hfd 3 _ rfl
  have h0' : DataW.trod enc Try.prog W 0 (fun _ => true) true k 3 (([v0, v1, v2, v3].drop 0).take (Try.prog.cellsOf 3)) = some x0 := h0
  have h1' : DataW.trod enc Try.prog W 0 (fun _ => true) true k 3 (([v0, v1, v2, v3].drop 1).take (Try.prog.cellsOf 3)) = some x1 := h1
  have h2' : DataW.trod enc Try.prog W 0 (fun _ => true) true k 22 (([v0, v1, v2, v3].drop 2).take (Try.prog.cellsOf 22)) = some x2 := h2
  have h3' : DataW.trod enc Try.prog W 0 (fun _ => true) true k 23 (([v0, v1, v2, v3].drop 3).take (Try.prog.cellsOf 23)) = some x3 := h3
  rw [c3] at h0' h1'
  rw [c4] at h2'
  rw [c5] at h3'
  obtain ⟨a, e0, _, w0⟩ := DataW.trod_int Try.underlying3 h0'
  obtain ⟨b, e1, _, w1⟩ := DataW.trod_int Try.underlying3 h1'
  obtain ⟨A, n, cap, f, e2, q1, q2, q3, q4⟩ := ints_of (fun y hy => hb y (by rw [hp]; exact List.mem_flatMap.2 ⟨x2, by simp, hy⟩)) h2'
  obtain ⟨B, m, capS, sa, ss, e3, r1, r2, r3, r4⟩ := slus_of (fun y hy => hb y (by rw [hp]; exact List.mem_flatMap.2 ⟨x3, by simp, hy⟩)) h3'
  have e0' : [v0] = [Value.int .i64 a] := e0
  have e1' : [v1] = [Value.int .i64 b] := e1
  have e2' : [v2] = [Value.slice A n cap] := e2
  have e3' : [v3] = [Value.slice B m capS] := e3
  simp only [List.cons.injEq, and_true] at e0' e1' e2' e3'
  subst e0' e1' e2' e3'
  exact ⟨a, b, A, n, cap, f, B, m, capS, sa, ss, rfl, ⟨w0, w1⟩, ⟨q1, q2, r1, r2⟩, q3, q4, r3, r4⟩
end Go.Proofs.Ytelfinjnbncnlaa
