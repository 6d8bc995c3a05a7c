/- rod.Move and the document's: a parcel that is moved. -/
import Derived.Test.YticjjikodignfaaDoorOwn
import Derived.Test.YticjjikodignfaaDoorRefValid
import Derived.RegionTactic
import Derived.BigRegion
namespace Go.Proofs.YticjjikodignfaaDoor
open Go.RowKit

theorem posts_news {w : World} {b off n : Nat} {px py : Nat → Int} (h : Posts w b off n px py) : ∀ j u, (cells2 (ptsOf n px py))[j]? = some u → w.cell? ((⟨b, off, none⟩ : Addr).add j) = some u := by
  intro j u hu
  have hl : j < n * 2 := by
    have := (List.getElem?_eq_some_iff.1 hu).1
    rwa [cells2_length, ptsOf_length] at this
  have hj : j = (j / 2) * 2 ∨ j = (j / 2) * 2 + 1 := by omega
  have hi : j / 2 < n := by omega
  generalize j / 2 = i at *
  rcases hj with rfl | rfl
  · rw [cells2_x _ _ (by rw [ptsOf_length]; exact hi), hx_pts hi] at hu
    obtain rfl := Option.some.inj hu
    have := h.x i hi
    rcases Nat.eq_zero_or_pos i with rfl | h0
    · simpa [Addr.add] using this
    · have : i * 2 ≠ 0 := by omega
      simpa [Addr.add, this] using h.x i hi
  · rw [cells2_y _ _ (by rw [ptsOf_length]; exact hi), hy_pts hi] at hu
    obtain rfl := Option.some.inj hu
    have := h.y i hi
    simpa [Addr.add, Nat.add_assoc] using this

theorem valid_bounds' {n : Nat} {px py : Nat → Int} (h : validB n px py = true) : 3 ≤ n ∧ n ≤ 40 := by
  simp only [validB, Bool.and_eq_true, decide_eq_true_eq] at h
  exact ⟨h.1.1.1, h.1.1.2⟩

set_option maxRecDepth 100000 in
set_option maxHeartbeats 800000 in
theorem clone_any (b off n cap : Nat) (px py : Nat → Int) (w : World) (h0 : 0 < n) (hn : n ≤ 1000) (hp : Posts w b off n px py) :
    GivesL 79 #[.slice (some ⟨b, off, none⟩) n cap] w (ptsOf n px py) := by
  have hl := hp.lt
  have Hp := Lib.hid hp
  clear hp
  have hnil := Lib.run_eql_slice_nil (P := Tryd.prog) w 32 37 (some ⟨b, off, none⟩) n cap 0 0 Tryd.underlying32
  go_enter Tryd.func79, Tryd.ntmps79
  obtain ⟨i0, hi, hz0, hz1, hz2⟩ := info_parts infoXY
  have hown : OwnP (w.alloc (.cells #[] 37)) w.heap.size (.slice (some ⟨w.heap.size, 0, none⟩) 0 0) [] := World.ownsRow_made w #[] 0 (Nat.le_refl _) (by unfold maxLen; omega) rfl
  have hnews := posts_news (Hp.out.later ⟨w.alloc (.cells #[] 37), by repeat (first | exact Below.refl _ _ | (with_reducible assumption) | apply below_later | apply below_alloc | apply below_drew | apply below_drewN)⟩)
  have HN := Lib.hid hnews
  clear hnews
  go_wp2_with (at_builtin; refine wpList_append_own _ rfl _ _ 32 rfl w.heap.size 37 i0 (.agg #[.int .i64 0, .int .i64 0]) 2 16 Tryd.underlying32 hi hz0 hz1 hz2 rfl (by decide) _ _ _ rfl hown ⟨b, off, none⟩ n cap (cells2 (ptsOf n px py)) rfl ?c1 HN.out (cells2_one _) ?c3 ?c4 ?c5 ?_)
  case c1 => rw [cells2_length, ptsOf_length]
  case c3 => simp only [maxLen]; omega
  case c4 => omega
  intro v' w1 hown2 hg1 _
  go_wp2
  go_ret
  refine ⟨v', rfl, ⟨w1, below_own (by repeat (first | exact Below.refl _ _ | (with_reducible assumption) | apply below_later | apply below_alloc | apply below_drew | apply below_drewN)) hown (Nat.le_refl _) hg1⟩, rfl, ?_⟩
  unfold OwnP
  rw [ptsOf_length]
  exact hown2


def betB (n a b : Int) : Bool := decide (a ≤ n) && decide (n ≤ b)
theorem between_any (n a b : Int) (w : World) : Gives Tryd.prog 57 #[.int .i64 n, .int .i64 a, .int .i64 b] w (.bool (betB n a b)) := by
  by_cases h1 : a ≤ n <;> by_cases h2 : n ≤ b
  all_goals
    have e : betB n a b = (decide (a ≤ n) && decide (n ≤ b)) := rfl
    rw [e]
    clear e
    go_enter Tryd.func57, Tryd.ntmps57
    go_wp2
    go_ret
    exact ⟨ret_bool (by simp [h1, h2]), later_of (by repeat (first | exact Below.refl _ _ | (with_reducible assumption) | apply below_later | apply below_alloc | apply below_drew | apply below_drewN))⟩

def moveI (p : Nat → Int) (d : Int) (i : Nat) : Int := p i + d
def farB (d : Int) : Bool := betB d (-2000) 2000
/-- Part of the way: the first k corners are moved. -/
def partMoved (n k : Nat) (px py : Nat → Int) (dx dy : Int) : List Pt := ptsOf n (fun i => if i < k then px i + dx else px i) (fun i => if i < k then py i + dy else py i)
theorem pts_congr {n : Nat} {px py qx qy : Nat → Int} (h : ∀ i, i < n → px i = qx i ∧ py i = qy i) : ptsOf n px py = ptsOf n qx qy := by
  unfold ptsOf
  apply List.map_congr_left
  intro i hi
  obtain ⟨a, b⟩ := h i (List.mem_range.1 hi)
  rw [a, b]
theorem part_zero (n : Nat) (px py : Nat → Int) (dx dy : Int) : partMoved n 0 px py dx dy = ptsOf n px py := pts_congr fun i _ => by simp
theorem part_all (n : Nat) (px py : Nat → Int) (dx dy : Int) : partMoved n n px py dx dy = ptsOf n (moveI px dx) (moveI py dy) := pts_congr fun i hi => by simp [hi, moveI]
theorem part_step {n k : Nat} (hk : k < n) (px py : Nat → Int) (dx dy : Int) : partMoved n (k + 1) px py dx dy = (partMoved n k px py dx dy).set k (px k + dx, py k + dy) := by
  apply List.ext_getElem?
  intro i
  unfold partMoved
  rw [List.getElem?_set]
  rcases Nat.lt_or_ge i n with h | h
  · rw [ptsOf_get h]
    by_cases e : k = i
    · subst e
      rw [if_pos rfl, if_pos (show k < (ptsOf n (fun i => if i < k then px i + dx else px i) fun i => if i < k then py i + dy else py i).length by rw [ptsOf_length]; exact hk)]
      simp
    · rw [if_neg e, ptsOf_get h]
      have : (i < k + 1) = (i < k) := by rw [eq_iff_iff]; omega
      simp only [this]
  · rw [List.getElem?_eq_none (by rw [ptsOf_length]; exact h)]
    rw [if_neg (by omega), List.getElem?_eq_none (by rw [ptsOf_length]; exact h)]

set_option maxRecDepth 100000 in
set_option maxHeartbeats 1600000 in
theorem move_far (b off n cap : Nat) (px py : Nat → Int) (dx dy : Int) (w : World) (hp : Posts w b off n px py) (hv : validB n px py = true) (hf : (farB dx && farB dy) = false) :
    GivesP 50 #[.slice (some ⟨b, off, none⟩) n cap, .agg #[.int .i64 dx, .int .i64 dy]] w [] 2 := by
  have V1 := Lib.hid hv
  have hq : IsPosts w (some ⟨b, off, none⟩) n px py := ⟨by have := (valid_bounds' hv).2; omega, fun _ => ⟨b, off, rfl, hp⟩⟩
  have Hq := Lib.hid hq
  clear hv hp hq
  unfold farB at hf
  cases h1 : betB dx (-2000) 2000
  · clear hf
    go_enter Tryd.func50, Tryd.ntmps50
    go_wp2_with (first | (go_at_call 33; (first | (with_reducible show Calls _ _ _ (Later.val _) _; with_reducible refine Calls.mono (Later.call _ ((V1.out ▸ valid_any _ _ _ _ _ _ (Hq.out.later ⟨_, by repeat (first | exact Below.refl _ _ | (with_reducible assumption) | apply below_later | apply below_alloc | apply below_drew | apply below_drewN)⟩)))) ?_) | (with_reducible refine Calls.mono (Gives.calls ((V1.out ▸ valid_any _ _ _ _ _ _ (Hq.out.later ⟨_, by repeat (first | exact Below.refl _ _ | (with_reducible assumption) | apply below_later | apply below_alloc | apply below_drew | apply below_drewN)⟩)))) ?_)); rintro e w1 ⟨rfl, y1, rfl⟩) | (go_at_call 57; (first | (with_reducible show Calls _ _ _ (Later.val _) _; with_reducible refine Calls.mono (Later.call _ (between_any _ _ _ _)) ?_) | (with_reducible refine Calls.mono (Gives.calls (between_any _ _ _ _)) ?_)); rintro e w1 ⟨rfl, y2, rfl⟩))
    go_ret2
    exact ⟨_, rfl, ⟨_, by repeat (first | exact Below.refl _ _ | (with_reducible assumption) | apply below_later | apply below_alloc | apply below_drew | apply below_drewN)⟩, rfl, OwnP.nil _ _⟩
  · have h2 : betB dy (-2000) 2000 = false := by
      rw [h1] at hf; simpa using hf
    clear hf
    go_enter Tryd.func50, Tryd.ntmps50
    go_wp2_with (first | (go_at_call 33; (first | (with_reducible show Calls _ _ _ (Later.val _) _; with_reducible refine Calls.mono (Later.call _ ((V1.out ▸ valid_any _ _ _ _ _ _ (Hq.out.later ⟨_, by repeat (first | exact Below.refl _ _ | (with_reducible assumption) | apply below_later | apply below_alloc | apply below_drew | apply below_drewN)⟩)))) ?_) | (with_reducible refine Calls.mono (Gives.calls ((V1.out ▸ valid_any _ _ _ _ _ _ (Hq.out.later ⟨_, by repeat (first | exact Below.refl _ _ | (with_reducible assumption) | apply below_later | apply below_alloc | apply below_drew | apply below_drewN)⟩)))) ?_)); rintro e w1 ⟨rfl, y1, rfl⟩) | (go_at_call 57; (first | (with_reducible show Calls _ _ _ (Later.val _) _; with_reducible refine Calls.mono (Later.call _ (between_any _ _ _ _)) ?_) | (with_reducible refine Calls.mono (Gives.calls (between_any _ _ _ _)) ?_)); rintro e w1 ⟨rfl, y2, rfl⟩))
    go_ret2
    exact ⟨_, rfl, ⟨_, by repeat (first | exact Below.refl _ _ | (with_reducible assumption) | apply below_later | apply below_alloc | apply below_drew | apply below_drewN)⟩, rfl, OwnP.nil _ _⟩

theorem OwnP.form {w : World} {base n : Nat} {v : Value} {l : List Pt} (h : OwnP w base v l) (hn : l.length = n) (h0 : 0 < n) : ∃ g cap, v = .slice (some ⟨g, 0, none⟩) n cap ∧ base ≤ g ∧ g < w.heap.size ∧ n ≤ cap := by
  subst hn
  obtain ⟨A, cap, rfl⟩ := h.shape
  obtain ⟨_, g, rfl, h1, h2, h3⟩ := h.at_ h0
  exact ⟨g, cap, rfl, h1, h2, h3⟩
/-- What a list of one's own holds at one place. -/
theorem OwnP.cell {w : World} {base g n cap : Nat} {l : List Pt} (h : OwnP w base (.slice (some ⟨g, 0, none⟩) n cap) l) (hn : l.length = n) {i : Nat} (hi : i < n) :
    w.cell? ⟨g, i * 2, none⟩ = some (.int .i64 (hx l i)) ∧ w.cell? ⟨g, i * 2 + 1, none⟩ = some (.int .i64 (hy l i)) ∧ (∀ j, w.frozen? ⟨g, j, none⟩ = false) := by
  subst hn
  refine ⟨?_, ?_, fun j => World.ownsRow.frozenAt h j⟩
  · rw [World.ownsRow.cellAt h (i * 2) (by omega), cells2_x l i hi]
  · rw [World.ownsRow.cellAt h (i * 2 + 1) (by omega), cells2_y l i hi]
/-- A post is written. -/
theorem OwnP.set {w : World} {base g n cap : Nat} {l : List Pt} (h : OwnP w base (.slice (some ⟨g, 0, none⟩) n cap) l) (hn : l.length = n) {i : Nat} (hi : i < n) (x y : Int) :
    OwnP ((w.setCell ⟨g, i * 2, none⟩ (.int .i64 x)).setCell ⟨g, i * 2 + 1, none⟩ (.int .i64 y)) base (.slice (some ⟨g, 0, none⟩) n cap) (l.set i (x, y)) := by
  subst hn
  have h1 := (World.ownsRow.stored h (i * 2) (.int .i64 x)).1
  have h2 := (World.ownsRow.stored h1 (i * 2 + 1) (.int .i64 y)).1
  unfold OwnP
  rw [List.length_set, cells2_set l i (x, y) hi]
  exact h2

theorem betB_iff {n a b : Int} : betB n a b = true ↔ a ≤ n ∧ n ≤ b := by simp [betB]

set_option maxRecDepth 100000 in
set_option maxHeartbeats 3200000 in
theorem move_near (b off n cap : Nat) (px py : Nat → Int) (dx dy : Int) (w : World) (hp : Posts w b off n px py) (hv : validB n px py = true) (hf : (farB dx && farB dy) = true) (L : List Pt) (E : Int) (hr0 : rangedB n (moveI px dx) (moveI py dy) = true → L = ptsOf n (moveI px dx) (moveI py dy) ∧ E = 0) (hr1 : rangedB n (moveI px dx) (moveI py dy) = false → L = [] ∧ E = 2) :
    GivesP 50 #[.slice (some ⟨b, off, none⟩) n cap, .agg #[.int .i64 dx, .int .i64 dy]] w L E := by
  generalize hrr : rangedB n (moveI px dx) (moveI py dy) = r at hr0 hr1
  have HR := Lib.hid hrr
  have H0 := Lib.hid hr0
  have H1 := Lib.hid hr1
  clear hrr hr0 hr1
  have V1 := Lib.hid hv
  have hq : IsPosts w (some ⟨b, off, none⟩) n px py := ⟨by have := (valid_bounds' hv).2; omega, fun _ => ⟨b, off, rfl, hp⟩⟩
  obtain ⟨n3, n40, hr⟩ : 3 ≤ n ∧ n ≤ 40 ∧ ∀ i, i < n → InRange (px i) (py i) := by
    simp only [validB, Bool.and_eq_true, decide_eq_true_eq] at hv
    exact ⟨hv.1.1.1, hv.1.1.2, ranged_of_B hv.1.2⟩
  have Hq := Lib.hid (hq.later ⟨w.alloc (.cells #[.int .i64 dx, .int .i64 dy] 37), by repeat (first | exact Below.refl _ _ | (with_reducible assumption) | apply below_later | apply below_alloc | apply below_drew | apply below_drewN)⟩)
  have Hp := Lib.hid (hp.later ⟨w.alloc (.cells #[.int .i64 dx, .int .i64 dy] 37), by repeat (first | exact Below.refl _ _ | (with_reducible assumption) | apply below_later | apply below_alloc | apply below_drew | apply below_drewN)⟩)
  have Hr := Lib.hid hr
  clear hv hp hq hr
  unfold farB at hf
  rw [Bool.and_eq_true] at hf
  obtain ⟨h1, h2⟩ := hf
  obtain ⟨d1, d2⟩ := betB_iff.1 h1
  obtain ⟨d3, d4⟩ := betB_iff.1 h2
  have P0 := Lib.hid (part_zero n px py dx dy)
  have P1 := Lib.hid (part_all n px py dx dy)
  have P2 := Lib.hid (fun k (hk : k < n) => part_step hk px py dx dy)
  go_enter Tryd.func50, Tryd.ntmps50
  go_wp2_with (first | (go_at_call 33; (first | (with_reducible show Calls _ _ _ (Later.val _) _; with_reducible refine Calls.mono (Later.call _ ((V1.out ▸ valid_any _ _ _ _ _ _ Hq.out))) ?_) | (with_reducible refine Calls.mono (Gives.calls ((V1.out ▸ valid_any _ _ _ _ _ _ Hq.out))) ?_)); rintro e w1 ⟨rfl, y1, rfl⟩) | (go_at_call 57; (first | (with_reducible show Calls _ _ _ (Later.val _) _; with_reducible refine Calls.mono (Later.call _ (between_any _ _ _ _)) ?_) | (with_reducible refine Calls.mono (Gives.calls (between_any _ _ _ _)) ?_)); rintro e w1 ⟨rfl, y2, rfl⟩) | (go_at_call 79; with_reducible refine Calls.mono (GivesL.at_ _ (clone_any _ _ _ _ _ _ _ (by omega) (by omega) (Hp.out.later _))) ?_; rintro e w1 ⟨v, rfl, y3, rfl, hown⟩; obtain ⟨g, cap', rfl, hg1, hg2, hg3⟩ := hown.form (ptsOf_length n px py) (by omega)))
  have z2 := y2.size
  simp only [World.size_alloc] at z2
  go_loopw [25] (fun v wr => ∃ k : Nat, k ≤ n ∧ v = .int .i64 k ∧ ∃ x : Later w, wr = x.val ∧ OwnP wr (w.heap.size + 1) (.slice (some ⟨g, 0, none⟩) n cap') (partMoved n k px py dx dy) ∧ wr.cell? ⟨w.heap.size, 0, none⟩ = some (.int .i64 dx) ∧ wr.cell? ⟨w.heap.size, 1, none⟩ = some (.int .i64 dy)) (fun v _ => n - (intOf v).toNat)
  case atStart =>
    refine ⟨0, by omega, rfl, ⟨y3.val, (by repeat (first | exact Below.refl _ _ | (with_reducible assumption) | apply below_later | apply below_alloc | apply below_drew | apply below_drewN))⟩, rfl, ?_, ?_, ?_⟩
    · rw [P0.out]; exact hown.mono z2
    · rw [y3.cell _ _ (by simp)]; simp
    · rw [y3.cell _ _ (by simp)]; simp
  case round =>
    obtain ⟨k, hk, rfl, x, rfl, ho, b1, b2⟩ := hrel
    have hlen : (partMoved n k px py dx dy).length = n := ptsOf_length _ _ _
    by_cases hlt : k < n
    · obtain ⟨c1, c2, c3⟩ := ho.cell hlen hlt
      have e1 : hx (partMoved n k px py dx dy) k = px k := by unfold partMoved; rw [hx_pts hlt]; simp
      have e2 : hy (partMoved n k px py dx dy) k = py k := by unfold partMoved; rw [hy_pts hlt]; simp
      rw [e1] at c1
      rw [e2] at c2
      obtain ⟨r1, r2, r3, r4⟩ := Hr.out k hlt
      have f1 := c3 (k * 2)
      have f2 := c3 (k * 2 + 1)
      clear c3 e1 e2
      have hne : ¬ g = w.heap.size := by omega
      have HO := Lib.hid ho
      clear ho
      have Hlen := Lib.hid hlen
      clear hlen
      go_wp2_with fail
      go_region
      go_wp2_with fail
      go_region
      go_wp2
      go_roundw
      case rel =>
        refine ⟨k + 1, by omega, by go_num, ⟨_, ?_⟩, rfl, ?_, ?_, ?_⟩
        · exact below_drew (below_drew (below_put (below_put x.ok (by simp; omega)) (by simp; omega)))
        · rw [P2.out k hlt]
          exact HO.out.set Hlen.out hlt _ _
        · exact (cell_put_far hne).trans ((cell_put_far hne).trans b1)
        · exact (cell_put_far hne).trans ((cell_put_far hne).trans b2)
      case measure => simp [intOf]; omega
    · obtain rfl : k = n := by omega
      rw [P1.out] at ho
      have hq2 := (ho.posts (by rw [ptsOf_length]; omega)).2
      obtain ⟨bb, oo, e0, hp2⟩ := hq2.at_ (by omega)
      simp only [Option.some.injEq, Addr.mk.injEq, and_true] at e0
      obtain ⟨rfl, rfl⟩ := e0
      have hp3 : Posts x.val g 0 k (moveI px dx) (moveI py dy) := ⟨hp2.lt, fun i hi => by rw [hp2.x i hi, hx_pts hi], fun i hi => by rw [hp2.y i hi, hy_pts hi]⟩
      have Hp3 := Lib.hid hp3
      have HO := Lib.hid ho
      clear ho hq2 hp2 hp3 b1 b2
      cases r
      · obtain ⟨rfl, rfl⟩ := H1.out rfl
        go_wp2_with (go_at_call 67; with_reducible refine Calls.mono (Gives.calls (HR.out ▸ allInRange_any _ _ _ _ _ _ _ (by omega) Hp3.out)) ?_; rintro e w1 ⟨rfl, y4, rfl⟩)
        go_ret2
        exact ⟨_, rfl, ⟨_, (by repeat (first | exact Below.refl _ _ | (with_reducible assumption) | apply below_later | apply below_alloc | apply below_drew | apply below_drewN))⟩, rfl, OwnP.nil _ _⟩
      · obtain ⟨rfl, rfl⟩ := H0.out rfl
        go_wp2_with (go_at_call 67; with_reducible refine Calls.mono (Gives.calls (HR.out ▸ allInRange_any _ _ _ _ _ _ _ (by omega) Hp3.out)) ?_; rintro e w1 ⟨rfl, y4, rfl⟩)
        go_ret2
        exact ⟨_, rfl, ⟨_, (by repeat (first | exact Below.refl _ _ | (with_reducible assumption) | apply below_later | apply below_alloc | apply below_drew | apply below_drewN))⟩, rfl, (HO.out.later y4).mono (Nat.le_succ _)⟩

theorem move_bad (A : Option Addr) (n cap : Nat) (px py : Nat → Int) (dx dy : Int) (w : World) (hp : IsPosts w A n px py) (hv : validB n px py = false) :
    GivesP 50 #[.slice A n cap, .agg #[.int .i64 dx, .int .i64 dy]] w [] 10 := by
  have V1 := Lib.hid hv
  have Hq := Lib.hid (hp.later ⟨w.alloc (.cells #[.int .i64 dx, .int .i64 dy] 37), by repeat (first | exact Below.refl _ _ | (with_reducible assumption) | apply below_later | apply below_alloc | apply below_drew | apply below_drewN)⟩)
  clear hv hp
  go_enter Tryd.func50, Tryd.ntmps50
  go_wp2_with (first | (go_at_call 33; (first | (with_reducible show Calls _ _ _ (Later.val _) _; with_reducible refine Calls.mono (Later.call _ ((V1.out ▸ valid_any _ _ _ _ _ _ Hq.out))) ?_) | (with_reducible refine Calls.mono (Gives.calls ((V1.out ▸ valid_any _ _ _ _ _ _ Hq.out))) ?_)); rintro e w1 ⟨rfl, y1, rfl⟩))
  go_ret2
  exact ⟨_, rfl, ⟨_, (by repeat (first | exact Below.refl _ _ | (with_reducible assumption) | apply below_later | apply below_alloc | apply below_drew | apply below_drewN))⟩, rfl, OwnP.nil _ _⟩
theorem pts_snoc (k : Nat) (px py : Nat → Int) : ptsOf (k + 1) px py = ptsOf k px py ++ [(px k, py k)] := by
  unfold ptsOf
  rw [List.range_succ, List.map_append]; rfl
theorem OwnP.push {w : World} {base : Nat} {v : Value} {l : List Pt} {x y : Int} (h : w.ownsRow base 37 2 v (l.length + 1) (cells2 l ++ [.int .i64 x, .int .i64 y])) : OwnP w base v (l ++ [(x, y)]) := by
  unfold OwnP
  rw [List.length_append, cells2_append]
  exact h
theorem cells2_pair (x y : Int) : cells2 [(x, y)] = [.int .i64 x, .int .i64 y] := rfl
theorem cell_two_new (w : World) (x y : Value) (t : TypeId) : ∀ j u, [x, y][j]? = some u → (w.alloc (.cells #[x, y] t)).cell? ((⟨w.heap.size, 0, none⟩ : Addr).add j) = some u := by
  intro j u hj
  match j, hj with
  | 0, hj => simp at hj; subst hj; simp [Addr.add]
  | 1, hj => simp at hj; subst hj; simp [Addr.add]

set_option maxRecDepth 100000 in
set_option maxHeartbeats 3200000 in
theorem r_move_near (b off n cap : Nat) (px py : Nat → Int) (dx dy : Int) (w : World) (hp : Posts w b off n px py) (n3 : 3 ≤ n) (n40 : n ≤ 40) (hr : ∀ i, i < n → InRange (px i) (py i)) (hf : (farB dx && farB dy) = true) (L : List Pt) (E : Int) (hr0 : rangedB n (moveI px dx) (moveI py dy) = true → L = ptsOf n (moveI px dx) (moveI py dy) ∧ E = 0) (hr1 : rangedB n (moveI px dx) (moveI py dy) = false → L = [] ∧ E = 2) :
    GivesP 51 #[.slice (some ⟨b, off, none⟩) n cap, .agg #[.int .i64 dx, .int .i64 dy]] w L E := by
  have HR := Lib.hid hr0
  have HR1 := Lib.hid hr1
  have Hp := Lib.hid hp
  have hl := hp.lt
  have Hr := Lib.hid hr
  clear hp hr hr0 hr1
  unfold farB at hf
  rw [Bool.and_eq_true] at hf
  obtain ⟨h1, h2⟩ := hf
  obtain ⟨d1, d2⟩ := betB_iff.1 h1
  obtain ⟨d3, d4⟩ := betB_iff.1 h2
  clear h1 h2
  have g1 : ¬ dx < -2000 := by omega
  have g2 : ¬ 2000 < dx := by omega
  have g3 : ¬ dy < -2000 := by omega
  have g4 : ¬ 2000 < dy := by omega
  go_enter Tryd.func51, Tryd.ntmps51
  go_wp2
  go_loopw [6, 7] (fun v i wr => ∃ k : Nat, k ≤ n ∧ i = .int .i64 k ∧ (∀ j, j < k → (inR (moveI px dx j) && inR (moveI py dy j)) = true) ∧ ∃ x : Later (w.alloc (.cells #[.int .i64 dx, .int .i64 dy] 37)), wr = x.val ∧ OwnP wr (w.heap.size + 1) v (ptsOf k (moveI px dx) (moveI py dy))) (fun _ i _ => n - (intOf i).toNat)
  case atStart =>
    refine ⟨0, by omega, rfl, by omega, ⟨_, (by repeat (first | exact Below.refl _ _ | (with_reducible assumption) | apply below_later | apply below_alloc | apply below_drew | apply below_drewN))⟩, rfl, OwnP.nil _ _⟩
  case round =>
    obtain ⟨k, hk, rfl, hj, x, rfl, ho⟩ := hrel
    have Hj := Lib.hid hj
    clear hj
    obtain ⟨A, cap', rfl⟩ := ho.shape_n (ptsOf_length _ _ _)
    by_cases hlt : k < n
    · have c1 := Hp.out.x k hlt
      have c2 := Hp.out.y k hlt
      obtain ⟨r1, r2, r3, r4⟩ := Hr.out k hlt
      have hs := x.size
      simp only [World.size_alloc] at hs
      have hs2 : w.heap.size < x.val.heap.size := by omega
      have hs3 : b < x.val.heap.size := by omega
      have HO := Lib.hid ho
      clear ho
      go_wp2_with fail
      go_region
      generalize hg : (inR (px k + dx) && inR (py k + dy)) = g
      have Hg := Lib.hid hg
      clear hg
      cases g
      · go_wp2_with (go_at_call 64; with_reducible refine Calls.mono (Gives.calls (Hg.out ▸ r_ranged_any _ _ _)) ?_; rintro e w1 ⟨rfl, y4, rfl⟩)
        obtain ⟨rfl, rfl⟩ := HR1.out (allB_false hlt Hg.out)
        go_ret2
        exact ⟨_, rfl, ⟨_, (by repeat (first | exact Below.refl _ _ | (with_reducible assumption) | apply below_later | apply below_alloc | apply below_drew | apply below_drewN))⟩, rfl, OwnP.nil _ _⟩
      · obtain ⟨i0, hi, hz0, hz1, hz2⟩ := info_parts infoXY
        go_wp2_with (first | (go_at_call 64; with_reducible refine Calls.mono (Gives.calls (Hg.out ▸ r_ranged_any _ _ _)) ?_; rintro e w1 ⟨rfl, y4, rfl⟩) | (at_builtin; (refine wpList_append_own _ rfl _ _ 32 rfl (w.heap.size + 1) 37 i0 (.agg #[.int .i64 0, .int .i64 0]) 2 16 Tryd.underlying32 hi hz0 hz1 hz2 rfl (by decide) _ _ _ rfl (((HO.out.alloc _).drew.later y4).alloc (.cells #[.int .i64 (px k + dx), .int .i64 (py k + dy)] 37)) ⟨y4.val.heap.size, 0, none⟩ 1 1 [.int .i64 (px k + dx), .int .i64 (py k + dy)] rfl rfl (cell_two_new _ _ _ _) (by simp [Value.oneCell']) (by simp only [maxLen]; rw [ptsOf_length]; omega) (by rw [ptsOf_length]; omega) (by have := y4.size; simp at this ⊢; omega) ?_); intro v' w1 hown2 hg1 _))
        go_wp2
        go_roundw
        case rel =>
          refine ⟨k + 1, by omega, by go_num, all_step Hj.out Hg.out, ⟨w1, below_own (by repeat (first | exact Below.refl _ _ | (with_reducible assumption) | apply below_later | apply below_alloc | apply below_drew | apply below_drewN)) (((HO.out.alloc _).drew.later y4).alloc (.cells #[.int .i64 (px k + dx), .int .i64 (py k + dy)] 37)) (by simp) hg1⟩, rfl, ?_⟩
          rw [pts_snoc]
          exact OwnP.push hown2
        case measure => simp [intOf]; omega
    · obtain rfl : k = n := by omega
      obtain ⟨rfl, rfl⟩ := HR.out (allB_true Hj.out)
      go_wp2
      go_ret2
      exact ⟨_, rfl, ⟨_, (by repeat (first | exact Below.refl _ _ | (with_reducible assumption) | apply below_later | apply below_alloc | apply below_drew | apply below_drewN))⟩, rfl, ho.mono (Nat.le_succ _)⟩
end Go.Proofs.YticjjikodignfaaDoor
