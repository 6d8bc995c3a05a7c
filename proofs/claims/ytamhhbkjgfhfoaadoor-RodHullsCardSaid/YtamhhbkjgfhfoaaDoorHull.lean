/- rod.Hull: walked. -/
import Derived.Test.YtamhhbkjgfhfoaaDoorHullSort
import Derived.Test.YtamhhbkjgfhfoaaDoorConcat
import Derived.Shelf.SlSortCmp.NoneTotal
namespace Go.Proofs.YtamhhbkjgfhfoaaDoor
open Go.RowKit

/-- What a hull call gives: none, the posts being on one line; or a hull. -/
def HullR (l L : List Pt) (E : Int) : Prop := (E = 5 ∧ L = [] ∧ Flat l) ∨ (E = 0 ∧ IsHull l L)
def HullP (w : World) (l : List Pt) (e : Ending) (w' : World) : Prop := ∃ L E, HullR l L E ∧ PostP w L E e w'

theorem hull_of {l l' : List Pt} (hr : ∀ p ∈ l, InP p) (hp : l'.Perm l) (hs : l'.Pairwise fun p q => Go.Proofs.ltOf cmpXY q p = false) :
    ((ddN l' l'.length).length < 3 → Flat l) ∧ (3 ≤ (ddN l' l'.length).length → (3 ≤ (hullOf (ddN l' l'.length)).length → IsHull l (hullOf (ddN l' l'.length))) ∧ ((hullOf (ddN l' l'.length)).length < 3 → Flat l)) := by
  have hr' : ∀ p ∈ l', InP p := fun p h => hr p (hp.mem_iff.1 h)
  obtain ⟨ha, hm⟩ := dd_all hr' hs
  have he : ∀ x, x ∈ ddN l' l'.length ↔ x ∈ l := fun x => (hm x).trans hp.mem_iff
  refine ⟨fun h => flat_congr he (flat_small h), fun h => ?_⟩
  obtain ⟨h1, h2⟩ := hull_ok ha (by omega)
  exact ⟨fun k => hull_congr he (h1 k), fun k => flat_congr he (h2 k)⟩
theorem own_pts (l : List Pt) : ptsOf l.length (hx l) (hy l) = l := by
  apply List.ext_getElem?
  intro i
  rcases Nat.lt_or_ge i l.length with h | h
  · rw [ptsOf_get h, get_hxy h]
  · rw [List.getElem?_eq_none (by rw [ptsOf_length]; exact h), List.getElem?_eq_none h]
theorem OwnP.posts_at {w : World} {base g n cap : Nat} {l : List Pt} (h : OwnP w base (.slice (some ⟨g, 0, none⟩) n cap) l) (hn : l.length = n) (h0 : 0 < n) (hb : n ≤ 1000) : Posts w g 0 n (hx l) (hy l) := by
  subst hn
  obtain ⟨b, off, e, hq⟩ := (h.posts (by omega)).2.at_ h0
  simp only [Option.some.injEq, Addr.mk.injEq] at e
  obtain ⟨rfl, rfl, _⟩ := e
  exact hq

/-! No post at all. -/
set_option maxHeartbeats 400000 in
theorem allInRange_none (A : Option Addr) (cap : Nat) (w : World) : Gives Tryd.prog 15 #[.slice A 0 cap] w (.bool true) := by
  go_enter Tryd.func15, Tryd.ntmps15
  go_wp2
  go_loop [7] (fun i => i = .int .i64 0) (fun _ => 0)
  case atStart => rfl
  case round =>
    subst hrel
    go_wp2
    go_ret
    exact ⟨rfl, later_of (by repeat (first | exact Below.refl _ _ | (with_reducible assumption) | apply below_later | apply below_alloc | apply below_drew | apply below_drewN))⟩
set_option maxHeartbeats 400000 in
theorem compact_none (A : Option Addr) (cap : Nat) (w : World) : Gives Tryd.prog 19 #[.slice A 0 cap] w (.slice A 0 cap) := by
  go_enter Tryd.func19, Tryd.ntmps19
  go_wp2
  go_ret
  exact ⟨rfl, later_of (by repeat (first | exact Below.refl _ _ | (with_reducible assumption) | apply below_later | apply below_alloc | apply below_drew | apply below_drewN))⟩
def SomeS (w : World) (e : Ending) (w' : World) : Prop := ∃ A cap, e = .returned (.slice A 0 cap) ∧ ∃ x : Later w, w' = x.val
set_option maxRecDepth 100000 in
set_option maxHeartbeats 800000 in
theorem clone_none (A : Option Addr) (cap : Nat) (w : World) : Calls Tryd.prog 16 #[.slice A 0 cap] w (SomeS w) := by
  have hnil := Lib.run_eql_slice_nil (P := Tryd.prog) w 22 34 A 0 cap 0 0 Tryd.underlying22
  cases A with
  | none =>
    go_enter Tryd.func16, Tryd.ntmps16
    go_wp2
    go_ret
    exact ⟨_, _, rfl, later_of (by repeat (first | exact Below.refl _ _ | (with_reducible assumption) | apply below_later | apply below_alloc | apply below_drew | apply below_drewN))⟩
  | some a =>
    obtain ⟨i0, hi, hz0, hz1, hz2⟩ := info_parts infoXY
    have hown : OwnP (w.alloc (.cells #[] 34)) w.heap.size (.slice (some ⟨w.heap.size, 0, none⟩) 0 0) [] := World.ownsRow_made w #[] 0 (Nat.le_refl _) (by unfold maxLen; omega) rfl
    go_enter Tryd.func16, Tryd.ntmps16
    go_wp2_with (at_builtin; refine wpList_append_own _ rfl _ _ 22 rfl w.heap.size 34 i0 (.agg #[.int .i64 0, .int .i64 0]) 2 16 Tryd.underlying22 hi hz0 hz1 hz2 rfl (by decide) _ _ _ rfl hown a 0 cap [] rfl rfl (fun j u h => by cases h) (fun u h => by cases h) ?c3 ?c4 ?c5 ?_)
    case c3 => simp [maxLen]
    case c4 => simp
    case c5 => simp
    intro v' w1 hown2 hg1 _
    obtain ⟨A', cap', rfl⟩ := OwnP.shape_n (l := []) hown2 (n := 0) rfl
    go_wp2
    go_ret
    exact ⟨_, _, rfl, ⟨w1, below_own (by repeat (first | exact Below.refl _ _ | (with_reducible assumption) | apply below_later | apply below_alloc | apply below_drew | apply below_drewN)) hown (Nat.le_refl _) hg1⟩, rfl⟩
set_option maxRecDepth 100000 in
set_option maxHeartbeats 800000 in
theorem hull_none (A : Option Addr) (cap : Nat) (w : World) : Calls Tryd.prog 6 #[.slice A 0 cap] w (HullP w []) := by
  have S : Hid (∀ A cap w, Calls Tryd.prog 17 #[.slice A 0 cap, .func (.func 18) #[] #[]] w fun e w' => e = .returned (.tuple #[]) ∧ w' = w) := fun A cap w => Go.Proofs.AnyF.slices_SortFunc_none Go.Proofs.Tryd.sortXY A cap _ w
  go_enter Tryd.func6, Tryd.ntmps6
  go_wp2_with (first | (go_at_call 15; (first | (with_reducible show Calls _ _ _ (Later.val _) _; with_reducible refine Calls.mono (Later.call _ (allInRange_none _ _ _)) ?_) | (with_reducible refine Calls.mono (Gives.calls (allInRange_none _ _ _)) ?_)); rintro e w1 ⟨rfl, y1, rfl⟩) | (go_at_call 16; refine (clone_none _ _ _).mono ?_; rintro e w1 ⟨B, cap2, rfl, y2, rfl⟩) | (go_at_call 17; refine (S.out _ _ _).mono ?_; rintro e w1 ⟨rfl, rfl⟩) | (go_at_call 19; (first | (with_reducible show Calls _ _ _ (Later.val _) _; with_reducible refine Calls.mono (Later.call _ (compact_none _ _ _)) ?_) | (with_reducible refine Calls.mono (Gives.calls (compact_none _ _ _)) ?_)); rintro e w1 ⟨rfl, y3, rfl⟩))
  go_ret2
  exact ⟨[], 5, .inl ⟨rfl, rfl, fun a ha => by cases ha⟩, _, rfl, ⟨_, (by repeat (first | exact Below.refl _ _ | (with_reducible assumption) | apply below_later | apply below_alloc | apply below_drew | apply below_drewN))⟩, rfl, OwnP.nil _ _⟩

set_option maxRecDepth 100000 in
set_option maxHeartbeats 800000 in
theorem hull_bad (A : Option Addr) (n cap : Nat) (px py : Nat → Int) (w : World) (hn : n ≤ 1000) (hp : IsPosts w A n px py) (h0 : 0 < n) (hv : 40 < n ∨ rangedB n px py = false) :
    GivesP 6 #[.slice A n cap] w [] 2 := by
  obtain ⟨b, off, rfl, hq⟩ := hp.at_ h0
  by_cases h40 : 40 < n
  · go_enter Tryd.func6, Tryd.ntmps6
    go_wp2
    go_ret2
    exact ⟨_, rfl, ⟨_, (by repeat (first | exact Below.refl _ _ | (with_reducible assumption) | apply below_later | apply below_alloc | apply below_drew | apply below_drewN))⟩, rfl, OwnP.nil _ _⟩
  · have hr : rangedB n px py = false := hv.resolve_left h40
    have HR := Lib.hid hr
    clear hr hv
    go_enter Tryd.func6, Tryd.ntmps6
    go_wp2_with (go_at_call 15; with_reducible refine Calls.mono (Gives.calls (HR.out ▸ allInRange_any _ _ _ _ _ _ _ (by omega) hq)) ?_; rintro e w1 ⟨rfl, y1, rfl⟩)
    go_ret2
    exact ⟨_, rfl, ⟨_, (by repeat (first | exact Below.refl _ _ | (with_reducible assumption) | apply below_later | apply below_alloc | apply below_drew | apply below_drewN))⟩, rfl, OwnP.nil _ _⟩

theorem wrote_later {w0 w w' : World} {g : Nat} {base : Nat} {v : Value} {l : List Pt} (hb : Below w0.heap.size w0 w) (hg : w0.heap.size ≤ g) (h : Wrote w g base v l w') : ∃ x : Later w0, w' = x.val :=
  later_of (hb.grown h.1 hb.size fun k hk => by cases hk; exact hg)
theorem range_pts {n : Nat} {px py : Nat → Int} (h : rangedB n px py = true) : ∀ p ∈ ptsOf n px py, InP p := by
  intro p hp
  obtain ⟨i, hi, rfl⟩ := List.mem_map.1 hp
  have := allB_iff.1 h i (List.mem_range.1 hi)
  simp only [inR, Bool.and_eq_true, decide_eq_true_eq] at this
  unfold InP InRange
  simp only
  omega
set_option maxRecDepth 100000 in
set_option maxHeartbeats 3200000 in
theorem hull_any (A : Option Addr) (n cap : Nat) (px py : Nat → Int) (w0 : World) (hn : n ≤ 40) (hp : IsPosts w0 A n px py) (h0 : 0 < n) (hv : rangedB n px py = true) :
    Calls Tryd.prog 6 #[.slice A n cap] w0 (HullP w0 (ptsOf n px py)) := by
  obtain ⟨b, off, rfl, hq⟩ := hp.at_ h0
  have Hq := Lib.hid hq
  have HR := Lib.hid hv
  have HIN := Lib.hid (range_pts hv)
  clear hp hq hv
  go_enter Tryd.func6, Tryd.ntmps6
  go_wp2_with (first | (go_at_call 15; with_reducible refine Calls.mono (Gives.calls (HR.out ▸ allInRange_any _ _ _ _ _ _ _ (by omega) Hq.out)) ?_; rintro e w1 ⟨rfl, y1, rfl⟩) | (go_at_call 16; with_reducible refine Calls.mono (GivesL.calls (clone_any _ _ _ _ _ _ _ h0 (by omega) (Hq.out.later _))) ?_; rintro e w1 ⟨v, rfl, y2, rfl, ho⟩; obtain ⟨g, cap2, rfl, hg1, hg2, hg3⟩ := ho.form (ptsOf_length _ _ _) h0) | (go_at_call 17; refine (sort_any _ _ _ _ _ _ (ptsOf_length n px py) (by omega) h0 ho).mono ?_; rintro e w1 ⟨rfl, l', hperm, hpw, hwr⟩))
  have hyy := y1.size
  obtain ⟨x3, rfl⟩ := wrote_later (w0 := w0) (by repeat (first | exact Below.refl _ _ | (with_reducible assumption) | apply below_later | apply below_alloc | apply below_drew | apply below_drewN)) (by omega) hwr
  have hl' : l'.length = n := by rw [hperm.length_eq, ptsOf_length]
  have hho := hull_of HIN.out hperm hpw
  rw [hl'] at hho
  have ho3 := hwr.2.mono (base' := w0.heap.size) hyy
  have HO3 := Lib.hid ho3
  have HH := Lib.hid hho
  have HL' := Lib.hid hl'
  clear hwr hho ho3 hl' ho
  have hda := dd_all (l := l') (fun p h => HIN.out p (hperm.mem_iff.1 h)) hpw
  rw [HL'.out] at hda
  have HDI : Hid (∀ p ∈ ddN l' n, InP p) := fun p h => HIN.out p (hperm.mem_iff.1 ((hda.2 p).1 h))
  have HAsc := Lib.hid hda.1
  clear hda hperm hpw
  have CC := Lib.hid (compact_any g n cap2 w0.heap.size l' x3.val HL'.out h0 (by omega) HO3.out)
  have hdl := ddN_len l' n
  generalize ddN l' n = D at *
  have hg4 : w0.heap.size ≤ g := by omega
  by_cases h3 : D.length < 3
  · have HF := Lib.hid (HH.out.1 h3)
    go_wp2_with (go_at_call 19; refine CC.out.mono ?_; rintro e w1 ⟨rfl, hwr⟩; obtain ⟨x4, rfl⟩ := wrote_later (w0 := w0) (by repeat (first | exact Below.refl _ _ | (with_reducible assumption) | apply below_later | apply below_alloc | apply below_drew | apply below_drewN)) hg4 hwr)
    go_ret2
    exact ⟨[], 5, .inl ⟨rfl, rfl, HF.out⟩, _, rfl, ⟨_, (by repeat (first | exact Below.refl _ _ | (with_reducible assumption) | apply below_later | apply below_alloc | apply below_drew | apply below_drewN))⟩, rfl, OwnP.nil _ _⟩
  · have HH2 := Lib.hid (HH.out.2 (by omega))
    have hm2 : D.length ≤ 40 := by omega
    obtain ⟨m, hm⟩ : ∃ m, D.length = m := ⟨_, rfl⟩
    rw [hm] at h3 hm2
    have CC2 : Hid (Calls Tryd.prog 19 #[.slice (some ⟨g, 0, none⟩) n cap2] x3.val fun e w' => e = .returned (.slice (some ⟨g, 0, none⟩) m cap2) ∧ Wrote x3.val g w0.heap.size (.slice (some ⟨g, 0, none⟩) m cap2) D w') := by
      show Calls _ _ _ _ _
      rw [← hm]
      exact CC.out
    have HM := Lib.hid hm
    have hm3 : 0 < m := by omega
    have h3' : 3 ≤ m := by omega
    have HD : Hid (∀ p ∈ D, InP p) := HDI.out
    have HIR : Hid (∀ i, i < m → InRange (hx D i) (hy D i)) := fun i hi => by
      have := HDI.out _ (List.mem_of_getElem? (get_hxy (l := D) (i := i) (by rw [HM.out]; exact hi)))
      exact this
    have HIR2 : Hid (∀ i, i < m → InRange (hx D.reverse i) (hy D.reverse i)) := fun i hi => by
      have := HDI.out _ (List.mem_reverse.1 (List.mem_of_getElem? (get_hxy (l := D.reverse) (i := i) (by rw [List.length_reverse, HM.out]; exact hi))))
      exact this
    have HP : Hid (ptsOf m (hx D) (hy D) = D) := HM.out ▸ own_pts D
    have HP2 : Hid (ptsOf m (hx D.reverse) (hy D.reverse) = D.reverse) := by
      have := own_pts D.reverse
      rw [List.length_reverse, HM.out] at this
      exact this
    have HT1 := Lib.hid (chain_two HAsc.out (by rw [HM.out]; omega))
    have HT2 := Lib.hid (chain_two (asc_rev HAsc.out) (by rw [List.length_reverse, HM.out]; omega))
    clear hm CC
    obtain ⟨K1, hK1⟩ : ∃ K, (chainR D).reverse = K := ⟨_, rfl⟩
    obtain ⟨K2, hK2⟩ : ∃ K, (chainR D.reverse).reverse = K := ⟨_, rfl⟩
    obtain ⟨k1, hk1⟩ : ∃ k, K1.length = k := ⟨_, rfl⟩
    obtain ⟨k2, hk2⟩ : ∃ k, K2.length = k := ⟨_, rfl⟩
    have t1 : 2 ≤ k1 := by rw [← hk1, ← hK1, List.length_reverse]; exact HT1.out
    have t2 : 2 ≤ k2 := by rw [← hk2, ← hK2, List.length_reverse]; exact HT2.out
    have t3 : k1 ≤ 1000 := by
      rw [← hk1, ← hK1, List.length_reverse]
      have := chTo_len D D.length
      unfold chTo at this
      rw [List.take_of_length_le (Nat.le_refl _), HM.out] at this
      omega
    have t4 : k2 ≤ 1000 := by
      rw [← hk2, ← hK2, List.length_reverse]
      have := chTo_len D.reverse D.reverse.length
      unfold chTo at this
      rw [List.take_of_length_le (Nat.le_refl _), List.length_reverse, HM.out] at this
      omega
    have hhull : hullOf D = K1.dropLast ++ K2.dropLast := by unfold hullOf; rw [hK1, hK2]
    have LC1 : Hid (∀ w c, Posts w g 0 m (hx D) (hy D) → GivesL 20 #[.slice (some ⟨g, 0, none⟩) m c] w K1) := fun w c hq => by
      have := leftChain_any g 0 m c (hx D) (hy D) w (by omega) hq HIR.out
      rw [HP.out, hK1] at this
      exact this
    have LC2 : Hid (∀ w c, Posts w g 0 m (hx D.reverse) (hy D.reverse) → GivesL 20 #[.slice (some ⟨g, 0, none⟩) m c] w K2) := fun w c hq => by
      have := leftChain_any g 0 m c (hx D.reverse) (hy D.reverse) w (by omega) hq HIR2.out
      rw [HP2.out, hK2] at this
      exact this
    have RV : Hid (∀ w, OwnP w w0.heap.size (.slice (some ⟨g, 0, none⟩) m cap2) D → Calls Tryd.prog 21 #[.slice (some ⟨g, 0, none⟩) m cap2] w fun e w' => e = .returned (.tuple #[]) ∧ Wrote w g w0.heap.size (.slice (some ⟨g, 0, none⟩) m cap2) D.reverse w') := fun w' ho => by
      have := reverse_any g m cap2 w0.heap.size (hx D) (hy D) w' hm3 (by omega) (by rw [HP.out]; exact ho)
      rw [HP.out] at this
      exact this
    have HK1 := Lib.hid hk1
    have HK2 := Lib.hid hk2
    have HHU := Lib.hid hhull
    have hdr : Hid (D.reverse.length = m) := by show _ = _; rw [List.length_reverse]; exact HM.out
    clear hK1 hK2 hk1 hk2 hhull
    obtain ⟨j1, hj1⟩ : ∃ j, j + 1 = k1 := ⟨k1 - 1, by omega⟩
    obtain ⟨j2, hj2⟩ : ∃ j, j + 1 = k2 := ⟨k2 - 1, by omega⟩
    have w1 : IntKind.i64.wrap ((k1 : Int) - 1) = (j1 : Int) := by rw [IntWalk.i64_in _ (by omega)]; omega
    have w2 : IntKind.i64.wrap ((k2 : Int) - 1) = (j2 : Int) := by rw [IntWalk.i64_in _ (by omega)]; omega
    have HJ1 := Lib.hid hj1
    have HJ2 := Lib.hid hj2
    have HW1 := Lib.hid w1
    have HW2 := Lib.hid w2
    clear hj1 hj2 w1 w2
    go_wp2_with (go_at_call 19; refine CC2.out.mono ?_; rintro e w1 ⟨rfl, hwr⟩; obtain ⟨x4, rfl⟩ := wrote_later (w0 := w0) (by repeat (first | exact Below.refl _ _ | (with_reducible assumption) | apply below_later | apply below_alloc | apply below_drew | apply below_drewN)) hg4 hwr)
    have ho4 := hwr.2
    obtain ⟨g', c', eg, _, hg5, _⟩ := ho4.form HM.out hm3
    simp only [Value.slice.injEq, Option.some.injEq, Addr.mk.injEq] at eg
    obtain ⟨⟨rfl, _, _⟩, _, rfl⟩ := eg
    refine Calls.mono (GivesL.calls (LC1.out _ _ (ho4.posts_at HM.out hm3 (by omega)))) ?_
    rintro e w1 ⟨v1, rfl, y5, rfl, ho5⟩
    go_wp2_with (go_at_call 21; refine (RV.out _ (ho4.later y5)).mono ?_; rintro e w1 ⟨rfl, hwr6⟩)
    obtain ⟨g1, c1, rfl, hb1, hb2, hb3⟩ := ho5.form HK1.out (by omega)
    obtain ⟨x6, rfl⟩ := wrote_later (w0 := w0) (by repeat (first | exact Below.refl _ _ | (with_reducible assumption) | apply below_later | apply below_alloc | apply below_drew | apply below_drewN)) hg4 hwr6
    have ho6 : OwnP x6.val x4.val.heap.size (.slice (some ⟨g1, 0, none⟩) k1 c1) K1 := World.ownsRow.kept ho5 hwr6.1 (.inr (fun e => by simp only [Value.ownBlock, Option.some.injEq] at e; omega))
    have ho7 := hwr6.2
    have HO6 := Lib.hid ho6
    have HO7 := Lib.hid ho7
    clear hwr hwr6 ho4 ho5 ho6 ho7
    go_wp2_with (go_at_call 20; with_reducible refine Calls.mono (GivesL.calls (LC2.out _ _ (HO7.out.posts_at hdr.out hm3 (by omega)))) ?_; rintro e w1 ⟨v2, rfl, y8, rfl, ho8⟩; obtain ⟨g2, c2, rfl, hb4, hb5, hb6⟩ := ho8.form HK2.out (by omega))
    have w1 := HW1.out
    have w2 := HW2.out
    have hj1 := HJ1.out
    have hj2 := HJ2.out
    have l1 : j1 ≤ k1 := by omega
    have l2 : j2 ≤ k2 := by omega
    have l3 : j1 ≤ c1 := by omega
    have l4 : j2 ≤ c2 := by omega
    have HO8 := Lib.hid ho8
    clear ho8 hj1 hj2
    refine wp_region_tail 0 10 (by kernel_rfl) (by kernel_rfl) ?_
    simp only [List.take_succ_cons, List.take_zero, List.drop_succ_cons, List.drop_zero]
    repeat (go_big_quiet_step ((fail)))
    refine wpQuiet_nil ?_
    intro y9
    have e1 : K1.take j1 = K1.dropLast := by rw [List.dropLast_eq_take, HK1.out, ← HJ1.out]; rfl
    have e2 : K2.take j2 = K2.dropLast := by rw [List.dropLast_eq_take, HK2.out, ← HJ2.out]; rfl
    have q1 : OwnP y9.val x4.val.heap.size (.slice (some ⟨g1, 0, none⟩) j1 c1) (K1.take j1) := ((HO6.out.later y8).later y9).pop HK1.out l1
    have q2 : OwnP y9.val x6.val.heap.size (.slice (some ⟨g2, 0, none⟩) j2 c2) (K2.take j2) := (HO8.out.later y9).pop HK2.out l2
    have n1 : (K1.take j1).length = j1 := by rw [List.length_take, HK1.out]; omega
    have n2 : (K2.take j2).length = j2 := by rw [List.length_take, HK2.out]; omega
    have p1 := Lib.hid (q1.posts_at n1 (by have := HJ1.out; omega) (by omega))
    have p2 := Lib.hid (q2.posts_at n2 (by have := HJ2.out; omega) (by omega))
    have u1 := own_pts (K1.take j1)
    have u2 := own_pts (K2.take j2)
    rw [n1] at u1
    rw [n2] at u2
    have CT : Hid (∀ w gg cc, Posts w g1 0 j1 (hx (K1.take j1)) (hy (K1.take j1)) → Posts w g2 0 j2 (hx (K2.take j2)) (hy (K2.take j2)) → w.cell? ⟨gg, 0, none⟩ = some (.slice (some ⟨g1, 0, none⟩) j1 c1) → w.cell? ⟨gg, 1, none⟩ = some (.slice (some ⟨g2, 0, none⟩) j2 c2) → gg < w.heap.size →
        GivesL 22 #[.slice (some ⟨gg, 0, none⟩) 2 cc] w (hullOf D)) := fun w gg cc a b d1 d2 hg => by
      have := concat2_any gg cc g1 0 j1 c1 g2 0 j2 c2 (hx (K1.take j1)) (hy (K1.take j1)) (hx (K2.take j2)) (hy (K2.take j2)) w (by have := HJ1.out; omega) (by omega) (by have := HJ2.out; omega) (by omega) a b d1 d2 hg
      rw [u1, u2, e1, e2, ← HHU.out] at this
      exact this
    clear e1 e2 q1 q2 n1 n2 u1 u2
    generalize hullOf D = HL at *
    obtain ⟨hl, hhl⟩ : ∃ k, HL.length = k := ⟨_, rfl⟩
    have HHL := Lib.hid hhl
    clear hhl
    by_cases h5 : hl < 3
    · have HF := Lib.hid (HH2.out.2 (by rw [HHL.out]; exact h5))
      go_wp2_with (go_at_call 22; with_reducible refine Calls.mono (GivesL.calls (CT.out _ _ _ (p1.out.later ⟨_, (by repeat (first | exact Below.refl _ _ | (with_reducible assumption) | apply below_later | apply below_alloc | apply below_drew | apply below_drewN))⟩) (p2.out.later ⟨_, (by repeat (first | exact Below.refl _ _ | (with_reducible assumption) | apply below_later | apply below_alloc | apply below_drew | apply below_drewN))⟩) (by simp) (by simp) (by simp))) ?_; rintro e w1 ⟨v, rfl, y10, rfl, ho2⟩; obtain ⟨A2, c3, rfl⟩ := ho2.shape_n HHL.out)
      refine calm_normal ?_
      go_wp2
      go_ret2
      exact ⟨[], 5, .inl ⟨rfl, rfl, HF.out⟩, _, rfl, ⟨_, (by repeat (first | exact Below.refl _ _ | (with_reducible assumption) | apply below_later | apply below_alloc | apply below_drew | apply below_drewN))⟩, rfl, OwnP.nil _ _⟩
    · have HF := Lib.hid (HH2.out.1 (by rw [HHL.out]; omega))
      go_wp2_with (go_at_call 22; with_reducible refine Calls.mono (GivesL.calls (CT.out _ _ _ (p1.out.later ⟨_, (by repeat (first | exact Below.refl _ _ | (with_reducible assumption) | apply below_later | apply below_alloc | apply below_drew | apply below_drewN))⟩) (p2.out.later ⟨_, (by repeat (first | exact Below.refl _ _ | (with_reducible assumption) | apply below_later | apply below_alloc | apply below_drew | apply below_drewN))⟩) (by simp) (by simp) (by simp))) ?_; rintro e w1 ⟨v, rfl, y10, rfl, ho2⟩; obtain ⟨A2, c3, rfl⟩ := ho2.shape_n HHL.out)
      have z1 := y9.size
      have z2 := y8.size
      have z3 := x6.size
      refine calm_normal ?_
      have ho9 := Lib.hid (ho2.mono (base' := w0.heap.size) (by simp only [World.size_alloc]; omega))
      clear ho2 z1 z2 z3
      go_wp2
      go_ret2
      exact ⟨HL, 0, .inr ⟨rfl, HF.out⟩, _, rfl, ⟨_, (by repeat (first | exact Below.refl _ _ | (with_reducible assumption) | apply below_later | apply below_alloc | apply below_drew | apply below_drewN))⟩, rfl, ho9.out⟩
end Go.Proofs.YtamhhbkjgfhfoaaDoor
