/- The last step of every law of this seat: 'true, and the arguments as before', from a walk that leaves old memory. -/
import Derived.Test.YtamhhbkjgfhfoaaDoorLaid
import Derived.Below
import Derived.ChangeSame
namespace Go.Proofs.YtamhhbkjgfhfoaaDoor
open Go.ChangeShapes Go.WideShapes Go.ChangeAt Go.RowKit Go.Deep

set_option maxRecDepth 100000 in
theorem laid_out : laidOutB Tryd.prog = true := by kernel_rfl

theorem stays {P : Program} (hl : laidOutB P = true) {H : Type} {enc : TypeId × Value → H} {W W' : World} {sp : Nat → Bool} (hb : Below W.heap.size W W') : ∀ {ts : List TypeId} {vs : List Value} {ds : List (DataW H)} {ps : List MemPlace},
    (ts.all fun t => P.readableRec t && decide (t < P.types.size)) = true → DataW.TrodAll enc P W 0 (fun _ => true) true ts vs ds ps → (∀ p ∈ ps, p.block < W.heap.size) → (∀ p ∈ ps, sp p.block = true) →
    DataW.TrodAll enc P W' 0 sp true ts vs ds ps
  | [], vs, ds, ps, _, h, _, _ => by
    obtain ⟨rfl, rfl, rfl⟩ := trodAll_nil h
    exact trodAll_mk0
  | t :: ts, vs, ds, ps, hr, h, hlt, hsp => by
    simp only [List.all_cons, Bool.and_eq_true, decide_eq_true_eq] at hr
    obtain ⟨v, vs', d, ds', p, q, rfl, rfl, rfl, h0, h1⟩ := trodAll_cons h
    exact trodAll_cons_mk (WideElems.Trod_stays hl hr.1.1 hr.1.2 h0 (fun x hx => hb.same (hlt x (List.mem_append_left _ hx))) (fun x hx => hsp x (List.mem_append_left _ hx)))
      (stays hl hb hr.2 h1 (fun x hx => hlt x (List.mem_append_right _ hx)) (fun x hx => hsp x (List.mem_append_right _ hx)))

theorem law_post {P : Program} (hl : laidOutB P = true) {tb : TypeId} (hbool : P.underlying tb = some .bool) {H : Type} {enc : TypeId × Value → H} {f : Func} {s : ChangeSpec} {W W' : World} {args : Array Value} {ds gs : List (DataW H)} {before : List MemPlace}
    (hv : s.vars = []) (hf : f.resultTypes = #[tb]) (hr : (f.params.toList.all fun t => P.readableRec t && decide (t < P.types.size)) = true)
    (hW : DataW.Whole enc P f.params.toList s.vars false W args.toList ds gs before)
    (hs : s.fn H ds = { results := [.lit (.bool true)], args := ds }) (hb : Below W.heap.size W W') : s.post enc P f false true false false W args (.bool true) W' := by
  have hlt : ∀ p ∈ before, p.block < W.heap.size := fun p hp => hW.lt p hp
  have hold : ∀ p ∈ before, (fun b => decide (b < W.heap.size)) p.block = true := fun p hp => by simpa using hlt p hp
  have hW2 := hW
  obtain ⟨p, q, hA, hV, he, hz, hn⟩ := hW2
  rw [hv] at hV
  obtain ⟨rfl, rfl⟩ := trodVars_none hV
  obtain rfl : before = p := by simpa using he
  have hargs : ∀ sp : Nat → Bool, (∀ x ∈ before, sp x.block = true) → DataW.TrodAll enc P W' 0 sp true f.params.toList args.toList (s.fn H (ds ++ [])).args before := fun sp hsp => by
    rw [List.append_nil, hs]
    exact stays hl hb hr hA hlt hsp
  have hres : ∀ (b : Nat) (sp : Nat → Bool) (hd : Bool), DataW.TrodAll enc P W' b sp hd f.resultTypes.toList ((Value.bool true).resultList f.resultTypes.size) (s.fn H (ds ++ [])).results [] := fun b sp hd => by
    rw [List.append_nil, hs, hf]
    exact trodAll_mk1 (shut_bool hbool _)
  have hvars : ∀ sp : Nat → Bool, (∀ x ∈ before, sp x.block = true) → DataW.TrodVars enc P W' sp s.vars (s.fn H (ds ++ [])).vars [] := fun sp _ => by
    rw [List.append_nil, hs, hv]
    rfl
  refine ⟨ds, [], before, [], before, [], hW, hres _ _ _, hargs _ hold, hvars _ hold, World.keptBut_mono (fun p hp => ⟨hp, ?_⟩) (hb.frame (· ∈ before)), fun _ => ?_⟩
  · exact Or.inr (by simpa using hp)
  · refine ⟨ok_one hf rfl (okWide_bool_mk hbool _), _, _, ([] ++ before) ++ [], ⟨[] ++ before, [], trodAll_append (hargs _ (fun _ _ => rfl)) (hres _ _ _), hvars _ (fun _ _ => rfl), rfl, ?_, ?_⟩, ?_⟩
    · intro b off hp
      have hin : MemPlace.cell b off ∈ before := by simpa using hp
      rw [hb.frozen (hlt _ hin)]
      exact hz b off (by simpa using hin)
    · intro ha
      cases ha
    · intro p hp _
      simpa using hp

set_option maxRecDepth 100000 in
/-- A slice of posts, opened. -/
theorem open_posts {H : Type} {enc : TypeId × Value → H} {W : World} {r : Reach} {base : Nat} {v : Value} {d : DataW H} {p : List MemPlace} (hb : ∀ b ∈ p, b.block < W.heap.size)
    (hval : Value.okWide Tryd.prog W r base 22 v) (h : DataW.Trod enc Tryd.prog W 0 (fun _ => true) true 22 v d p) :
    ∃ A n cap px py, v = .slice A n cap ∧ n ≤ maxLen ∧ (n ≤ 60 → IsPosts W A n px py) := by
  obtain ⟨A, n, cap, rfl⟩ := okWide_slice Tryd.underlying22 hval
  obtain ⟨fuel, hf⟩ := h
  have hu : Tryd.prog.underlying 34 = some (.struct #[_, _]) := Tryd.underlying34
  rcases open_slice_pairs Tryd.underlying22 hu (by kernel_rfl) rfl rfl (by kernel_rfl) (by kernel_rfl) hf with ⟨h1, h2⟩ | ⟨a, len, cap', m, k, V0, V1, D0, D1, P0, P1, h1, h2, h3, h4, h5, h6, h7⟩
  · have h1' : [Value.slice A n cap] = [.slice none 0 0] := h1
    simp only [List.cons.injEq, Value.slice.injEq, and_true] at h1'
    obtain ⟨rfl, rfl, rfl⟩ := h1'
    exact ⟨none, 0, 0, fun _ => 0, fun _ => 0, rfl, by omega, fun _ => ⟨by omega, fun h => absurd h (by omega)⟩⟩
  · have h1' : [Value.slice A n cap] = [.slice (some a) len cap'] := h1
    simp only [List.cons.injEq, Value.slice.injEq, and_true] at h1'
    obtain ⟨rfl, rfl, rfl⟩ := h1'
    rw [if_pos rfl] at h5
    subst h5
    have hx : ∀ i, i < m → ∃ x : Int, V0 i = .int .i64 x := fun i hi => by
      obtain ⟨x, e, _⟩ := DataW.trod_int Tryd.underlying3 (h7 i hi).2.2.1
      exact ⟨x, by simpa using e⟩
    have hy : ∀ i, i < m → ∃ x : Int, V1 i = .int .i64 x := fun i hi => by
      obtain ⟨x, e, _⟩ := DataW.trod_int Tryd.underlying3 (h7 i hi).2.2.2
      exact ⟨x, by simpa using e⟩
    obtain ⟨px, hpx⟩ := choose_lt hx
    obtain ⟨py, hpy⟩ := choose_lt hy
    refine ⟨some a, n, m, px, py, rfl, by omega, fun h60 => ⟨by omega, fun h0 => ?_⟩⟩
    have hc := (h7 0 (by omega)).1
    have hs : a.spot = none := by
      have e : a.add (0 * 2) = a := by simp [Addr.add]
      rw [e] at hc
      cases hsp : a.spot with
      | none => rfl
      | some s =>
        exfalso
        unfold World.cell? at hc
        split at hc
        · simp [hsp] at hc
        · cases hc
    obtain ⟨b, off, spot⟩ := a
    obtain rfl : spot = none := hs
    have hrow : MemPlace.cell b off ∈ p := by
      have : p = _ := (Prod.mk.inj h6).2
      rw [this]
      refine List.mem_append_left _ ?_
      unfold MemPlace.row
      exact List.mem_map.2 ⟨0, List.mem_range.2 (by omega), rfl⟩
    refine ⟨b, off, rfl, hb _ hrow, fun i hi => ?_, fun i hi => ?_⟩
    · have := (h7 i (by omega)).1
      rw [hpx i (by omega), add_plain] at this
      exact this
    · have := (h7 i (by omega)).2.1
      rw [hpy i (by omega), add_plain] at this
      exact this

set_option maxRecDepth 100000 in
/-- One post, opened. -/
theorem open_xy {H : Type} {enc : TypeId × Value → H} {W : World} {r : Reach} {base : Nat} {v : Value} {d : DataW H} {p : List MemPlace}
    (hval : Value.okWide Tryd.prog W r base 34 v) (h : DataW.Trod enc Tryd.prog W 0 (fun _ => true) true 34 v d p) :
    ∃ x y : Int, v = .agg #[.int .i64 x, .int .i64 y] ∧ (Lit.int .i64 x).wf = true ∧ (Lit.int .i64 y).wf = true := by
  have hu : Tryd.prog.underlying 34 = some (.struct #[_, _]) := Tryd.underlying34
  simp only [Value.okWide, hu] at hval
  obtain ⟨cs, rfl, hsz, _⟩ := hval
  obtain ⟨fuel, hf⟩ := h
  obtain ⟨xs, k, rfl, hx, hl, hn, hfd⟩ := DataW.trod_struct hu hf
  have hc : Tryd.prog.cellsOf 34 = 2 := by kernel_rfl
  have c3 : Tryd.prog.cellsOf 3 = 1 := by kernel_rfl
  rw [hc] at hsz
  obtain ⟨cl⟩ := cs
  obtain ⟨v0, v1, rfl⟩ := list_two (l := cl) hsz
  obtain ⟨x0, x1, rfl⟩ := list_two (l := xs) hn
  have h0 := hfd 0 _ rfl
  have h1 := hfd 1 _ rfl
  have h0' : DataW.trod enc Tryd.prog W 0 (fun _ => true) true k 3 (([v0, v1].drop 0).take (Tryd.prog.cellsOf 3)) = some x0 := h0
  have h1' : DataW.trod enc Tryd.prog W 0 (fun _ => true) true k 3 (([v0, v1].drop 1).take (Tryd.prog.cellsOf 3)) = some x1 := h1
  rw [c3] at h0' h1'
  obtain ⟨a, e0, _, w0⟩ := DataW.trod_int Tryd.underlying3 h0'
  obtain ⟨b, e1, _, w1⟩ := DataW.trod_int Tryd.underlying3 h1'
  have e0' : [v0] = [Value.int .i64 a] := e0
  have e1' : [v1] = [Value.int .i64 b] := e1
  simp only [List.cons.injEq, and_true] at e0' e1'
  subst e0' e1'
  exact ⟨a, b, rfl, w0, w1⟩
end Go.Proofs.YtamhhbkjgfhfoaaDoor
