/- What comes in, opened (layer 8): pitches, roofs, coats. -/
import Derived.Test.YtcjahpbbkdkbpaaDOpen
import Derived.Test.YtcjahpbbkdkbpaaTAwake
namespace Go.Proofs.Ytcjahpbbkdkbpaa
open Go.ChangeShapes Go.WideShapes Go.ChangeAt Go.RowKit Go.Deep

theorem ls_two {α : Type} {l : List α} (h : l.length = 2) : ∃ a b, l = [a, b] := by
  match l, h with
  | [a, b], _ => exact ⟨a, b, rfl⟩
theorem ls_three {α : Type} {l : List α} (h : l.length = 3) : ∃ a b c, l = [a, b, c] := by
  match l, h with
  | [a, b, c], _ => exact ⟨a, b, c, rfl⟩
theorem ls_four {α : Type} {l : List α} (h : l.length = 4) : ∃ a b c d, l = [a, b, c, d] := by
  match l, h with
  | [a, b, c, d], _ => exact ⟨a, b, c, d, rfl⟩
theorem ls_six {α : Type} {l : List α} (h : l.length = 6) : ∃ a b c d e f, l = [a, b, c, d, e, f] := by
  match l, h with
  | [a, b, c, d, e, f], _ => exact ⟨a, b, c, d, e, f, rfl⟩
set_option maxRecDepth 100000 in
theorem open_pitch {H : Type} {enc : TypeId × Value → H} {W : World} {r : Reach} {base : Nat} {v : Value} {d : DataW H} {p : List MemPlace}
    (hval : Value.okWide Try.prog W r base 23 v) (h : DataW.Trod enc Try.prog W 0 (fun _ => true) true 23 v d p) :
    ∃ a b c : Int, v = pitV a b c := by
  have hu : Try.prog.underlying 23 = some (.struct #[_, _, _]) := Try.underlying23
  simp only [Value.okWide, hu] at hval
  obtain ⟨cs, rfl, hsz, _⟩ := hval
  obtain ⟨fuel, hf⟩ := h
  obtain ⟨xs, k, rfl, hx, hl, hn, hfd⟩ := DataW.trod_struct hu hf
  have hc : Try.prog.cellsOf 23 = 3 := by kernel_rfl
  have c3 : Try.prog.cellsOf 3 = 1 := by kernel_rfl
  rw [hc] at hsz
  obtain ⟨cl⟩ := cs
  obtain ⟨v0, v1, v2, rfl⟩ := ls_three hsz
  obtain ⟨x0, x1, x2, rfl⟩ := ls_three hn
  have h0 := hfd 0 _ rfl
  have h1 := hfd 1 _ rfl
  have h2 := hfd 2 _ rfl
  have h0' : DataW.trod enc Try.prog W 0 (fun _ => true) true k 3 (([v0, v1, v2].drop 0).take (Try.prog.cellsOf 3)) = some x0 := h0
  have h1' : DataW.trod enc Try.prog W 0 (fun _ => true) true k 3 (([v0, v1, v2].drop 1).take (Try.prog.cellsOf 3)) = some x1 := h1
  have h2' : DataW.trod enc Try.prog W 0 (fun _ => true) true k 3 (([v0, v1, v2].drop 2).take (Try.prog.cellsOf 3)) = some x2 := h2
  rw [c3] at h0' h1' h2'
  obtain ⟨a, e0, _, _⟩ := DataW.trod_int Try.underlying3 h0'
  obtain ⟨b, e1, _, _⟩ := DataW.trod_int Try.underlying3 h1'
  obtain ⟨c, e2, _, _⟩ := DataW.trod_int Try.underlying3 h2'
  have e0' : [v0] = [Value.int .i64 a] := e0
  have e1' : [v1] = [Value.int .i64 b] := e1
  have e2' : [v2] = [Value.int .i64 c] := e2
  simp only [List.cons.injEq, and_true] at e0' e1' e2'
  subst e0' e1' e2'
  exact ⟨a, b, c, rfl⟩
set_option maxRecDepth 100000 in
theorem open_roof {H : Type} {enc : TypeId × Value → H} {W : World} {r : Reach} {base : Nat} {v : Value} {d : DataW H} {p : List MemPlace}
    (hval : Value.okWide Try.prog W r base 25 v) (h : DataW.Trod enc Try.prog W 0 (fun _ => true) true 25 v d p) :
    ∃ (l e a b c : Int) (h : Bool), v = roofV l e a b c h := by
  have hu : Try.prog.underlying 25 = some (.struct #[_, _, _, _]) := Try.underlying25
  have hr : Try.prog.underlying 23 = some (.struct #[_, _, _]) := Try.underlying23
  simp only [Value.okWide, hu] at hval
  obtain ⟨cs, rfl, hsz, _⟩ := hval
  obtain ⟨fuel, hf⟩ := h
  obtain ⟨xs, k, rfl, hx, hl, hn, hfd⟩ := DataW.trod_struct hu hf
  have hc : Try.prog.cellsOf 25 = 6 := by kernel_rfl
  have c2 : Try.prog.cellsOf 23 = 3 := by kernel_rfl
  have c3 : Try.prog.cellsOf 3 = 1 := by kernel_rfl
  have c4 : Try.prog.cellsOf 4 = 1 := by kernel_rfl
  rw [hc] at hsz
  obtain ⟨cl⟩ := cs
  obtain ⟨v0, v1, v2, v3, v4, v5, rfl⟩ := ls_six hsz
  obtain ⟨x0, x1, x2, x3, rfl⟩ := ls_four hn
  have h0 := hfd 0 _ rfl
  have h1 := hfd 1 _ rfl
  have h2 := hfd 2 _ rfl
  have h3 := hfd 3 _ rfl
  have h0' : DataW.trod enc Try.prog W 0 (fun _ => true) true k 3 (([v0, v1, v2, v3, v4, v5].drop 0).take (Try.prog.cellsOf 3)) = some x0 := h0
  have h1' : DataW.trod enc Try.prog W 0 (fun _ => true) true k 3 (([v0, v1, v2, v3, v4, v5].drop 1).take (Try.prog.cellsOf 3)) = some x1 := h1
  have h2' : DataW.trod enc Try.prog W 0 (fun _ => true) true k 23 (([v0, v1, v2, v3, v4, v5].drop 2).take (Try.prog.cellsOf 23)) = some x2 := h2
  have h3' : DataW.trod enc Try.prog W 0 (fun _ => true) true k 4 (([v0, v1, v2, v3, v4, v5].drop 5).take (Try.prog.cellsOf 4)) = some x3 := h3
  rw [c3] at h0' h1'
  rw [c2] at h2'
  rw [c4] at h3'
  obtain ⟨ys, k2, rfl, hy, hl2, hn2, hfd2⟩ := DataW.trod_struct hr h2'
  obtain ⟨y0, y1, y2, rfl⟩ := ls_three hn2
  have g0 := hfd2 0 _ rfl
  have g1 := hfd2 1 _ rfl
  have g2 := hfd2 2 _ rfl
  have g0' : DataW.trod enc Try.prog W 0 (fun _ => true) true k2 3 (([v2, v3, v4].drop 0).take (Try.prog.cellsOf 3)) = some y0 := g0
  have g1' : DataW.trod enc Try.prog W 0 (fun _ => true) true k2 3 (([v2, v3, v4].drop 1).take (Try.prog.cellsOf 3)) = some y1 := g1
  have g2' : DataW.trod enc Try.prog W 0 (fun _ => true) true k2 3 (([v2, v3, v4].drop 2).take (Try.prog.cellsOf 3)) = some y2 := g2
  rw [c3] at g0' g1' g2'
  obtain ⟨l, e0, _, _⟩ := DataW.trod_int Try.underlying3 h0'
  obtain ⟨e, e1, _, _⟩ := DataW.trod_int Try.underlying3 h1'
  obtain ⟨a, e2, _, _⟩ := DataW.trod_int Try.underlying3 g0'
  obtain ⟨b, e3, _, _⟩ := DataW.trod_int Try.underlying3 g1'
  obtain ⟨c, e4, _, _⟩ := DataW.trod_int Try.underlying3 g2'
  obtain ⟨q, e5, _⟩ := DataW.trod_bool Try.underlying4 h3'
  have e0' : [v0] = [Value.int .i64 l] := e0
  have e1' : [v1] = [Value.int .i64 e] := e1
  have e2' : [v2] = [Value.int .i64 a] := e2
  have e3' : [v3] = [Value.int .i64 b] := e3
  have e4' : [v4] = [Value.int .i64 c] := e4
  have e5' : [v5] = [Value.bool q] := e5
  simp only [List.cons.injEq, and_true] at e0' e1' e2' e3' e4' e5'
  subst e0' e1' e2' e3' e4' e5'
  exact ⟨l, e, a, b, c, q, rfl⟩
set_option maxRecDepth 100000 in
theorem open_coat {H : Type} {enc : TypeId × Value → H} {W : World} {r : Reach} {base : Nat} {v : Value} {d : DataW H} {p : List MemPlace} (hb : ∀ b ∈ p, b.block < W.heap.size)
    (hval : Value.okWide Try.prog W r base 46 v) (h : DataW.Trod enc Try.prog W 0 (fun _ => true) true 46 v d p) :
    ∃ (s g q : Int) (A : Option Addr) (n cap : Nat) (f : Nat → Int), v = coatV s g q A n cap ∧ n ≤ cap ∧ cap ≤ maxLen ∧ (n ≤ 9223372036854775807 → IsInts W A n f) := by
  have hu : Try.prog.underlying 46 = some (.struct #[_, _, _, _]) := Try.underlying46
  simp only [Value.okWide, hu] at hval
  obtain ⟨cs, rfl, hsz, _⟩ := hval
  obtain ⟨fuel, hf⟩ := h
  obtain ⟨xs, k, rfl, hx, hl, hn, hfd⟩ := DataW.trod_struct hu hf
  have hp : p = xs.flatMap (·.2) := (Prod.mk.inj hx).2
  have hc : Try.prog.cellsOf 46 = 4 := by kernel_rfl
  have c3 : Try.prog.cellsOf 3 = 1 := by kernel_rfl
  have c4 : Try.prog.cellsOf 44 = 1 := by kernel_rfl
  rw [hc] at hsz
  obtain ⟨cl⟩ := cs
  obtain ⟨v0, v1, v2, v3, rfl⟩ := ls_four hsz
  obtain ⟨x0, x1, x2, x3, rfl⟩ := ls_four hn
  have h0 := hfd 0 _ rfl
  have h1 := hfd 1 _ rfl
  have h2 := hfd 2 _ rfl
  have h3 := hfd 3 _ rfl
  have h0' : DataW.trod enc Try.prog W 0 (fun _ => true) true k 3 (([v0, v1, v2, v3].drop 0).take (Try.prog.cellsOf 3)) = some x0 := h0
  have h1' : DataW.trod enc Try.prog W 0 (fun _ => true) true k 3 (([v0, v1, v2, v3].drop 1).take (Try.prog.cellsOf 3)) = some x1 := h1
  have h2' : DataW.trod enc Try.prog W 0 (fun _ => true) true k 3 (([v0, v1, v2, v3].drop 2).take (Try.prog.cellsOf 3)) = some x2 := h2
  have h3' : DataW.trod enc Try.prog W 0 (fun _ => true) true k 44 (([v0, v1, v2, v3].drop 3).take (Try.prog.cellsOf 44)) = some x3 := h3
  rw [c3] at h0' h1' h2'
  rw [c4] at h3'
  obtain ⟨s, e0, _, _⟩ := DataW.trod_int Try.underlying3 h0'
  obtain ⟨g, e1, _, _⟩ := DataW.trod_int Try.underlying3 h1'
  obtain ⟨q, e2, _, _⟩ := DataW.trod_int Try.underlying3 h2'
  obtain ⟨A, n, cap, f, e3, q1, q2, q3, _⟩ := ints_of (fun y hy => hb y (by rw [hp]; exact List.mem_flatMap.2 ⟨x3, by simp, hy⟩)) h3'
  have e0' : [v0] = [Value.int .i64 s] := e0
  have e1' : [v1] = [Value.int .i64 g] := e1
  have e2' : [v2] = [Value.int .i64 q] := e2
  have e3' : [v3] = [Value.slice A n cap] := e3
  simp only [List.cons.injEq, and_true] at e0' e1' e2' e3'
  subst e0' e1' e2' e3'
  exact ⟨s, g, q, A, n, cap, f, rfl, q1, q2, q3⟩
end Go.Proofs.Ytcjahpbbkdkbpaa
