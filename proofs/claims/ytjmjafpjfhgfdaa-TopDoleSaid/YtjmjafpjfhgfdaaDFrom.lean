/- dole's circleFrom: walked. -/
import Derived.Test.YtjmjafpjfhgfdaaDCirc1
import Derived.Laws.Cover3
import Derived.Deep.RegionLaw
import Derived.Deep.AppendLies
namespace Go.Proofs.Ytjmjafpjfhgfdaa
open Go.RowKit

/-- A list as numbers. -/
def zl (p : List Nat) (i : Nat) : Int := ((p.getD i 0 : Nat) : Int)
/-- A call that returns a list of numbers, nil if it is empty. -/
def PostC (w : World) (l : List Nat) (e : Ending) (w' : World) : Prop := ∃ A c, e = .returned (.slice A l.length c) ∧ (∃ x : Later w, w' = x.val) ∧ IsInts w' A l.length (zl l) ∧ l.length ≤ c ∧ (l = [] → A = none ∧ c = 0) ∧ (l ≠ [] → A.isNone = false)
theorem has_contains {p : List Nat} {x : Nat} : hasI (zl p) p.length (x : Nat) = p.contains x := by
  cases h : p.contains x
  · unfold hasI
    rw [allB_true fun j hj => ?_]
    · rfl
    · simp only [Bool.not_eq_true', decide_eq_false_iff_not]
      intro e
      have : x ∈ p := mem_getD.2 ⟨j, hj, by unfold zl at e; omega⟩
      simp at h
      exact h this
  · simp only [List.contains_iff_mem] at h
    obtain ⟨i, hi, e⟩ := mem_getD.1 h
    unfold hasI
    rw [allB_false (p := fun j => !decide (zl p j = (x : Nat))) hi (by unfold zl; rw [e]; simp)]
    rfl
theorem scan_skip {g : Nat → List Nat} {c x : Nat} (h : g x = []) : scanF g (c + 1) x = scanF g c (x + 1) := by
  conv => lhs; unfold scanF
  rw [if_pos h]
theorem scan_take {g : Nat → List Nat} {c x : Nat} (h : g x ≠ []) : scanF g (c + 1) x = g x := by
  conv => lhs; unfold scanF
  rw [if_neg h]
def gF (E : Nat → Nat → Bool) (k d : Nat) (p : List Nat) (x : Nat) : List Nat := if p.contains x = true ∨ E (p.getD (p.length - 1) 0) x = false then [] else circF E k d (p ++ [x])
theorem circF_yes {E : Nat → Nat → Bool} {k d : Nat} {p : List Nat} (h : E (p.getD (p.length - 1) 0) (p.getD 0 0) = true) : circF E k (d + 1) p = p := by
  unfold circF
  rw [if_pos h]
theorem circF_no {E : Nat → Nat → Bool} {k d : Nat} {p : List Nat} (h : E (p.getD (p.length - 1) 0) (p.getD 0 0) = false) : circF E k (d + 1) p = scanF (gF E k d p) (k - (p.getD 0 0 + 1)) (p.getD 0 0 + 1) := by
  unfold circF
  rw [if_neg (by rw [h]; simp)]
  rfl
theorem lit_later {w : World} {v : Value} {t : TypeId} (z : Later (w.alloc (.cells #[v] t)).drew) : ∀ (j : Nat) (u : Value), [v][j]? = some u → z.val.cell? ((⟨w.heap.size, 0, none⟩ : Addr).add j) = some u := by
  intro j u hj
  match j, hj with
  | 0, hj =>
    have h := lit_news (w := w) (v := v) (t := t) 0 u hj
    have e : (⟨w.heap.size, 0, none⟩ : Addr).add 0 = ⟨w.heap.size, 0, none⟩ := by simp [Addr.add]
    rw [e] at h ⊢
    exact (z.cell _ _ (show w.heap.size < (w.alloc (.cells #[v] t)).heap.size by simp)).trans h
theorem own_done {w : World} {base g cp pn : Nat} {pl : List Int} {x : Int} {zx : Nat → Int} (h : w.ownsRow base 3 1 (.slice (some ⟨g, 0, none⟩) (pn + 1) cp) (pn + 1) (cellsI pl ++ [.int .i64 x])) (hl : pl.length = pn) (hp : pn ≤ 6) (hz : ∀ i, i < pn + 1 → (pl ++ [x]).getD i 0 = zx i) :
    IsInts w (some ⟨g, 0, none⟩) (pn + 1) zx ∧ pn + 1 ≤ cp := by
  have ho : OwnI w base (.slice (some ⟨g, 0, none⟩) (pn + 1) cp) (pl ++ [x]) := by
    unfold OwnI
    rw [List.length_append, hl, cellsI_append]
    exact h
  have hlen : (pl ++ [x]).length = pn + 1 := by rw [List.length_append, hl]; rfl
  refine ⟨((ho.ints (by rw [hlen]; omega)).2).congr hz, ?_⟩
  obtain ⟨g', c', e, _, _, hc⟩ := ho.form hlen (by omega)
  simp only [Value.slice.injEq] at e
  omega
theorem zl_more {p : List Nat} {x pn : Nat} (hN : p.length = pn) : ∀ i, i < pn + 1 → (((List.range pn).map (zl p)) ++ [(x : Int)]).getD i 0 = zl (p ++ [x]) i := by
  intro i hi
  have LP : ((List.range pn).map (zl p)).length = pn := by simp
  have e : zl (p ++ [x]) i = if i < pn then zl p i else (x : Int) := by
    unfold zl
    rw [getD_app, hN]
    by_cases h : i < pn
    · rw [if_pos h, if_pos h]
    · rw [if_neg h, if_neg h, if_pos (by omega)]
  rw [e, List.getD_eq_getElem?_getD]
  by_cases h : i < pn
  · rw [List.getElem?_append_left (by rw [LP]; exact h), if_pos h]
    simp [h]
  · obtain rfl : i = pn := by omega
    rw [List.getElem?_append_right (by rw [LP]; exact Nat.le_refl _), LP, Nat.sub_self, if_neg h]
    rfl
set_option maxRecDepth 100000 in
set_option maxHeartbeats 6400000 in
theorem from_any (k cap n m cS : Nat) (A S : Option Addr) (R : Nat → Row) (s : Nat → Int) (w : World) (hmn : m ≤ n) (W : Vals k n R) (hp : IsTab w A k R) (hs : IsInts w S m s) :
    ∀ (d : Nat) (p : List Nat) (P : Option Addr) (cP : Nat) (V : World), Below w.heap.size w V → Path (envT R s m) k p → k < p.length + d → IsInts V P p.length (zl p) → p.length ≤ cP →
      Calls Try.prog 76 #[.agg #[.slice A k cap, .slice S m cS], .slice P p.length cP] V (PostC V (circF (envT R s m) k d p)) := by
  have hk6 := W.k6
  have EV := Lib.hid fun (i j : Nat) (V : World) (hi : i < k) (h : Below w.heap.size w V) => envies_any k cap n m cS i j A S R s V hi hmn W (hp.below h) (hs.below h)
  generalize envT R s m = E at *
  intro d
  induction d with
  | zero =>
    intro p P cP V _ HP hd _ _
    have := HP.len
    omega
  | succ d ih =>
    intro p P cP V hV HP hd hI hcP
    have HIH := Lib.hid ih
    have HPH := Lib.hid HP
    have hpk := HP.len
    have hp0 := HP.pos
    have hf := HP.lt 0 hp0
    have hla := HP.lt (p.length - 1) (by omega)
    have HMO := Lib.hid fun x (h1 : p.getD 0 0 < x) (h2 : x < k) (h3 : p.contains x = false) (h4 : E (p.getD (p.length - 1) 0) x = true) => HP.more h1 h2 h3 h4
    have CY := Lib.hid (circF_yes (E := E) (k := k) (d := d) (p := p))
    have CN := Lib.hid (circF_no (E := E) (k := k) (d := d) (p := p))
    have GD : Hid (∀ x, gF E k d p x = if p.contains x = true ∨ E (p.getD (p.length - 1) 0) x = false then [] else circF E k d (p ++ [x])) := fun _ => rfl
    have hb : Below V.heap.size V (V.alloc (.cells #[.slice A k cap, .slice S m cS] 62)) := (Below.refl _ _).alloc (Nat.le_refl _) _
    obtain ⟨c0, c1, l0⟩ := box2 V (.slice A k cap) (.slice S m cS) 62
    have HB := Lib.hid hb
    have HV := Lib.hid hV
    obtain ⟨pb, po, hP, pp⟩ := (hI.below hb).at_ hp0
    subst hP
    have HI := Lib.hid (hI.below hb)
    have q0 : (V.alloc (.cells #[.slice A k cap, .slice S m cS] 62)).cell? ⟨pb, po, none⟩ = some (.int .i64 (p.getD 0 0 : Nat)) := pp.at_ 0 hp0
    have q1 : (V.alloc (.cells #[.slice A k cap, .slice S m cS] 62)).cell? ⟨pb, po + (p.length - 1), none⟩ = some (.int .i64 (p.getD (p.length - 1) 0 : Nat)) := pp.at_ (p.length - 1) (by omega)
    have lp := pp.lt
    have w1 : IntKind.i64.wrap ((p.length : Int) - 1) = ((p.length - 1 : Nat) : Int) := by
      rw [show ((p.length : Int) - 1) = ((p.length - 1 : Nat) : Int) by omega]
      exact IntWalk.i64_in _ ⟨by omega, by omega⟩
    have HIV := Lib.hid hI
    generalize hF : p.getD 0 0 = f at *
    generalize hL : p.getD (p.length - 1) 0 = la at *
    generalize hN : p.length = pn at *
    have HN9 := Lib.hid hN
    generalize hRes : circF E k (d + 1) p = res at *
    have HRES := Lib.hid hRes
    clear ih HP hI hb hV pp hF hL hN hRes
    go_enter Try.func76, Try.ntmps76
    go_wp2_with fail
    obtain ⟨b8, hb8⟩ : ∃ b8, V.heap.size = b8 := ⟨_, rfl⟩
    rw [hb8] at c0 c1 l0 ⊢
    clear hb8
    generalize V.alloc (.cells #[.slice A k cap, .slice S m cS] 62) = Z at *
    refine wp_region_later (by kernel_rfl) (by kernel_rfl) ?_
    repeat (go_big_quiet_step ((fail)))
    refine wpQuiet_nil ?_
    intro y0
    have HVY : Hid (Below V.heap.size V y0.val) := below_more HB.out y0.ok
    have HBY : Hid (Below w.heap.size w y0.val) := below_more HV.out HVY.out
    have d0 := (y0.cell _ 0 l0).trans c0
    have d1 := (y0.cell _ 1 l0).trans c1
    have d2 := y0.lt _ l0
    have HIY := Lib.hid (HI.out.later y0)
    have EV1 := Lib.hid fun V h => EV.out la f V hla h
    clear c0 c1 l0 q0 q1 lp HI
    generalize y0.val = Y at *
    cases hE : E la f
    case true =>
      rw [hE] at EV1
      have HR2 := Lib.hid (CY.out hE)
      clear hE
      go_wp2_with (go_at_call 57; with_reducible refine Calls.mono (Gives.calls (EV1.out _ (below_more HBY.out (by repeat (first | exact Below.refl _ _ | (with_reducible assumption) | apply below_later | apply below_alloc | apply below_drew | apply below_drewN))))) ?_; rintro e w1 ⟨rfl, z, rfl⟩)
      go_ret
      have e9 := HN9.out
      rw [HR2.out]
      exact ⟨_, cP, by rw [e9]; rfl, later_of (below_more HVY.out (by repeat (first | exact Below.refl _ _ | (with_reducible assumption) | apply below_later | apply below_alloc | apply below_drew | apply below_drewN))), e9 ▸ HIV.out.below (below_more HVY.out (by repeat (first | exact Below.refl _ _ | (with_reducible assumption) | apply below_later | apply below_alloc | apply below_drew | apply below_drewN))), by rw [e9]; exact hcP, fun h => by rw [h] at e9; simp at e9; omega, fun _ => rfl⟩
    case false =>
      rw [hE] at EV1
      have HR2 := Lib.hid (CN.out hE)
      clear hE CY CN
      go_wp2_with (go_at_call 57; with_reducible refine Calls.mono (Gives.calls (EV1.out _ (below_more HBY.out (by repeat (first | exact Below.refl _ _ | (with_reducible assumption) | apply below_later | apply below_alloc | apply below_drew | apply below_drewN))))) ?_; rintro e w1 ⟨rfl, z, rfl⟩)
      have HBZ : Hid (Below w.heap.size w z.val) := below_more HBY.out z.ok
      have HVZ : Hid (Below V.heap.size V z.val) := below_more HVY.out z.ok
      have e0 := (z.cell _ 0 d2).trans d0
      have e1 := (z.cell _ 1 d2).trans d1
      have e2 := z.lt _ d2
      have HIZ := Lib.hid (HIY.out.later z)
      clear d0 d1 d2 HIY HBY HVY EV1 HB
      generalize z.val = X at *
      go_loopw [7] (fun u wr => ∃ x : Nat, u = .int .i64 (x : Nat) ∧ f < x ∧ x ≤ k ∧ scanF (gF E k d p) (k - x) x = res ∧ ∃ y : Later X, wr = y.val) (fun u _ => k - (intOf u).toNat)
      case atStart => exact ⟨f + 1, by go_num, by omega, by omega, HR2.out.symm, later_of (by repeat (first | exact Below.refl _ _ | (with_reducible assumption) | apply below_later | apply below_alloc | apply below_drew | apply below_drewN))⟩
      case round =>
        obtain ⟨x, rfl, hfx, hxk, hsc, y, rfl⟩ := hrel
        have HSC := Lib.hid hsc
        clear hsc
        have f0 := (y.cell _ 0 e2).trans e0
        have f1 := (y.cell _ 1 e2).trans e1
        have f2 := y.lt _ e2
        have HBW : Hid (Below w.heap.size w y.val) := below_more HBZ.out y.ok
        have HVW : Hid (Below V.heap.size V y.val) := below_more HVZ.out y.ok
        have HIW := Lib.hid (HIZ.out.later y)
        have XV : Hid (∀ U, Below y.val.heap.size y.val U → ∃ y' : Later X, U = y'.val) := fun U h => ⟨⟨U, below_more y.ok h⟩, rfl⟩
        by_cases hlt : x < k
        · have hcx : hasI (zl p) pn (x : Nat) = p.contains x := by rw [← HN9.out]; exact has_contains
          have CO : Hid (∀ U, Below y.val.heap.size y.val U → Gives Try.prog 77 #[.slice (some ⟨pb, po, none⟩) pn cP, .int .i64 (x : Nat)] U (.bool (p.contains x))) := fun U h => by
            have h1 := contains_any pn cP (some ⟨pb, po, none⟩) (zl p) (x : Nat) U (by omega) (HIW.out.below h)
            rw [hcx] at h1
            exact h1
          clear hcx
          have EVx := Lib.hid fun U h => EV.out la x U hla h
          have GDx := Lib.hid (GD.out x)
          have HMX := Lib.hid (HMO.out x hfx hlt)
          have FV : Hid (∀ U, Below y.val.heap.size y.val U → Below w.heap.size w U ∧ U.cell? ⟨b8, 0, none⟩ = some (.slice A k cap) ∧ U.cell? ⟨b8, 1, none⟩ = some (.slice S m cS) ∧ b8 < U.heap.size) := fun U h =>
            ⟨below_more HBW.out h, (h.cell (p := ⟨b8, 0, none⟩) f2).trans f0, (h.cell (p := ⟨b8, 1, none⟩) f2).trans f1, Nat.lt_of_lt_of_le f2 h.size⟩
          have hkx : k - x = (k - (x + 1)) + 1 := by omega
          have HKX := Lib.hid hkx
          have hg : decide ((x : Int) < (k : Int)) = true := by simp; omega
          clear hkx
          cases hcon : p.contains x
          case true =>
            rw [hcon] at CO
            have HN : Hid (scanF (gF E k d p) (k - (x + 1)) (x + 1) = res) := by
              show _ = _
              rw [← HSC.out, HKX.out, scan_skip]
              rw [GDx.out, if_pos (.inl hcon)]
            clear hcon
            go_wp2_with (first
              | ((go_at_call 77; with_reducible refine Calls.mono (Gives.calls (CO.out _ (by repeat (first | exact Below.refl _ _ | (with_reducible assumption) | apply below_later | apply below_alloc | apply below_drew | apply below_drewN)))) ?_; rintro e w1 ⟨rfl, u, rfl⟩); obtain ⟨k0, k1, k2, k3⟩ := FV.out u.val (by repeat (first | exact Below.refl _ _ | (with_reducible assumption) | apply below_later | apply below_alloc | apply below_drew | apply below_drewN)))
              | (go_at_call 57; with_reducible refine Calls.mono (Gives.calls (EVx.out _ (below_more HBW.out (by repeat (first | exact Below.refl _ _ | (with_reducible assumption) | apply below_later | apply below_alloc | apply below_drew | apply below_drewN))))) ?_; rintro e w1 ⟨rfl, u2, rfl⟩))
            first
              | (refine ⟨⟨x + 1, by go_num, by omega, by omega, HN.out, XV.out _ (by repeat (first | exact Below.refl _ _ | (with_reducible assumption) | apply below_later | apply below_alloc | apply below_drew | apply below_drewN))⟩, ?_⟩; simp [intOf]; omega)
              | (go_roundw
                 case rel => exact ⟨x + 1, by go_num, by omega, by omega, HN.out, XV.out _ (by repeat (first | exact Below.refl _ _ | (with_reducible assumption) | apply below_later | apply below_alloc | apply below_drew | apply below_drewN))⟩
                 case measure => simp [intOf]; omega)
          case false =>
            rw [hcon] at CO
            cases hex : E la x
            case false =>
              rw [hex] at EVx
              have HN : Hid (scanF (gF E k d p) (k - (x + 1)) (x + 1) = res) := by
                show _ = _
                rw [← HSC.out, HKX.out, scan_skip]
                rw [GDx.out, if_pos (.inr hex)]
              clear hex hcon
              go_wp2_with (first
                | ((go_at_call 77; with_reducible refine Calls.mono (Gives.calls (CO.out _ (by repeat (first | exact Below.refl _ _ | (with_reducible assumption) | apply below_later | apply below_alloc | apply below_drew | apply below_drewN)))) ?_; rintro e w1 ⟨rfl, u, rfl⟩); obtain ⟨k0, k1, k2, k3⟩ := FV.out u.val (by repeat (first | exact Below.refl _ _ | (with_reducible assumption) | apply below_later | apply below_alloc | apply below_drew | apply below_drewN)))
                | (go_at_call 57; with_reducible refine Calls.mono (Gives.calls (EVx.out _ (below_more HBW.out (by repeat (first | exact Below.refl _ _ | (with_reducible assumption) | apply below_later | apply below_alloc | apply below_drew | apply below_drewN))))) ?_; rintro e w1 ⟨rfl, u2, rfl⟩))
              first
                | (refine ⟨⟨x + 1, by go_num, by omega, by omega, HN.out, XV.out _ (by repeat (first | exact Below.refl _ _ | (with_reducible assumption) | apply below_later | apply below_alloc | apply below_drew | apply below_drewN))⟩, ?_⟩; simp [intOf]; omega)
                | (go_roundw
                   case rel => exact ⟨x + 1, by go_num, by omega, by omega, HN.out, XV.out _ (by repeat (first | exact Below.refl _ _ | (with_reducible assumption) | apply below_later | apply below_alloc | apply below_drew | apply below_drewN))⟩
                   case measure => simp [intOf]; omega)
            case true =>
              rw [hex] at EVx
              have HPM := Lib.hid (HMX.out hcon hex)
              have HG : Hid (gF E k d p x = circF E k d (p ++ [x])) := by
                show _ = _
                rw [GDx.out, if_neg (by rw [hcon, hex]; simp)]
              clear hex hcon
              go_wp2_with (first
                | ((go_at_call 77; with_reducible refine Calls.mono (Gives.calls (CO.out _ (by repeat (first | exact Below.refl _ _ | (with_reducible assumption) | apply below_later | apply below_alloc | apply below_drew | apply below_drewN)))) ?_; rintro e w1 ⟨rfl, u, rfl⟩); obtain ⟨k0, k1, k2, k3⟩ := FV.out u.val (by repeat (first | exact Below.refl _ _ | (with_reducible assumption) | apply below_later | apply below_alloc | apply below_drew | apply below_drewN)))
                | ((go_at_call 57; with_reducible refine Calls.mono (Gives.calls (EVx.out _ (below_more HBW.out (by repeat (first | exact Below.refl _ _ | (with_reducible assumption) | apply below_later | apply below_alloc | apply below_drew | apply below_drewN))))) ?_; rintro e w1 ⟨rfl, u2, rfl⟩); obtain ⟨j0, j1, j2, j3⟩ := FV.out u2.val (by repeat (first | exact Below.refl _ _ | (with_reducible assumption) | apply below_later | apply below_alloc | apply below_drew | apply below_drewN))))
              have HBQ : Hid (Below w.heap.size w u2.val) := j0
              have HVQ : Hid (Below V.heap.size V u2.val) := below_more HVW.out (by repeat (first | exact Below.refl _ _ | (with_reducible assumption) | apply below_later | apply below_alloc | apply below_drew | apply below_drewN))
              have HIQ : Hid (IsInts u2.val (some ⟨pb, po, none⟩) pn (zl p)) := HIW.out.below (by repeat (first | exact Below.refl _ _ | (with_reducible assumption) | apply below_later | apply below_alloc | apply below_drew | apply below_drewN))
              have XQ : Hid (∀ U, Below u2.val.heap.size u2.val U → ∃ y' : Later X, U = y'.val) := fun U h => XV.out U (below_more (by repeat (first | exact Below.refl _ _ | (with_reducible assumption) | apply below_later | apply below_alloc | apply below_drew | apply below_drewN)) h)
              clear j0 k0 k1 k2 k3 f0 f1 f2 CO EVx FV XV HIW HVW HBW
              generalize u2.val = Q at *
              have hlen1 : (p ++ [x]).length = pn + 1 := by rw [List.length_append, HN9.out]; rfl
              have RC : Hid (∀ P' c' U, Below Q.heap.size Q U → IsInts U P' (pn + 1) (zl (p ++ [x])) → pn + 1 ≤ c' → Calls Try.prog 76 #[.agg #[.slice A k cap, .slice S m cS], .slice P' (pn + 1) c'] U fun e w' => ∃ A c, e = .returned (.slice A (circF E k d (p ++ [x])).length c) ∧ (∃ y : Later U, w' = y.val) ∧ IsInts w' A (circF E k d (p ++ [x])).length (zl (circF E k d (p ++ [x]))) ∧ (circF E k d (p ++ [x])).length ≤ c ∧ (circF E k d (p ++ [x]) = [] → A = none ∧ c = 0) ∧ (circF E k d (p ++ [x]) ≠ [] → A.isNone = false)) := fun P' c' U hU hi hc => by
                have h1 := HIH.out (p ++ [x]) P' c' U (below_more HBQ.out hU) HPM.out (by rw [hlen1]; omega) (by rw [hlen1]; exact hi) (by rw [hlen1]; exact hc)
                rw [hlen1] at h1
                exact h1
              have CL : Hid (∀ U, Below Q.heap.size Q U → GivesI 78 #[.slice (some ⟨pb, po, none⟩) pn cP] U ((List.range pn).map (zl p))) := fun U hU => by
                obtain ⟨b7, o7, h7, p7⟩ := (HIQ.out.below hU).at_ hp0
                simp only [Option.some.injEq, Addr.mk.injEq, and_true] at h7
                obtain ⟨rfl, rfl⟩ := h7
                exact clone_ints pb po pn cP (zl p) U hp0 (by omega) p7
              have LP : Hid (((List.range pn).map (zl p)).length = pn) := by show _ = _; simp
              have ZL := Lib.hid (zl_more (x := x) HN9.out)
              obtain ⟨i0, hi0, hz0, hz1, hz2⟩ := info_int
              have HG2 := HG
              clear HG HIH HPM
              generalize circF E k d (p ++ [x]) = lq at *
              generalize (List.range pn).map (zl p) = pl at *
              generalize zl (p ++ [x]) = zx at *
              have hpn2 : pn ≤ 6 := by omega
              have FQ : Hid (∀ U, Below Q.heap.size Q U → U.cell? ⟨b8, 0, none⟩ = some (.slice A k cap) ∧ U.cell? ⟨b8, 1, none⟩ = some (.slice S m cS) ∧ b8 < U.heap.size) := fun U h =>
                ⟨(h.cell (p := ⟨b8, 0, none⟩) j3).trans j1, (h.cell (p := ⟨b8, 1, none⟩) j3).trans j2, Nat.lt_of_lt_of_le j3 h.size⟩
              go_cut [8] (fun s8 wx => ∃ A c, s8 = .slice A lq.length c ∧ Below Q.heap.size Q wx ∧ IsInts wx A lq.length (zl lq) ∧ lq.length ≤ c ∧ (lq = [] → A = none ∧ c = 0) ∧ (lq ≠ [] → A.isNone = false))
              case first =>
                go_region_law (first
                  | (refine step_append_lies _ rfl _ _ 23 rfl Q.heap.size 3 i0 (.int .i64 0) 1 8 Try.underlying23 hi0 hz0 hz1 hz2 rfl (by decide) _ _ _ rfl (World.ownsRow.alloc (own_row (HOQ.out.mono (show Below Q.heap.size Q _ from by repeat (first | exact Below.refl _ _ | (with_reducible assumption) | apply below_later | apply below_alloc | apply below_drew | apply below_drewN)).size) LP.out) _) ⟨_, 0, none⟩ 1 1 [.int .i64 (x : Nat)] rfl rfl lit_news one_int (by omega) (by unfold maxLen; omega) (by omega) (show Below Q.heap.size Q _ from by repeat (first | exact Below.refl _ _ | (with_reducible assumption) | apply below_later | apply below_alloc | apply below_drew | apply below_drewN)).size _ rfl ?_; intro g6 cp6 w6 hown6 hgrow6 hat6 hlt6; have hb6 : Below Q.heap.size Q w6 := below_own (by repeat (first | exact Below.refl _ _ | (with_reducible assumption) | apply below_later | apply below_alloc | apply below_drew | apply below_drewN)) (World.ownsRow.alloc (own_row (HOQ.out.mono (show Below Q.heap.size Q _ from by repeat (first | exact Below.refl _ _ | (with_reducible assumption) | apply below_later | apply below_alloc | apply below_drew | apply below_drewN)).size) LP.out) _) (Nat.le_refl _) hgrow6; obtain ⟨hi6, hc6⟩ := own_done hown6 LP.out hpn2 ZL.out; have HI6 := Lib.hid hi6; have HC6 := Lib.hid hc6; have HB6 := Lib.hid hb6; obtain ⟨m3, m4, m5⟩ := FQ.out w6 hb6; clear hown6 hgrow6 hat6 hlt6 hi6 hc6 hb6)
                  | (refine step_append_lies _ rfl _ _ 23 rfl Q.heap.size 3 i0 (.int .i64 0) 1 8 Try.underlying23 hi0 hz0 hz1 hz2 rfl (by decide) _ _ _ rfl (own_row (HOQ.out.mono (show Below Q.heap.size Q _ from by repeat (first | exact Below.refl _ _ | (with_reducible assumption) | apply below_later | apply below_alloc | apply below_drew | apply below_drewN)).size) LP.out) ⟨_, 0, none⟩ 1 1 [.int .i64 (x : Nat)] rfl rfl (lit_later zq) one_int (by omega) (by unfold maxLen; omega) (by omega) (show Below Q.heap.size Q _ from by repeat (first | exact Below.refl _ _ | (with_reducible assumption) | apply below_later | apply below_alloc | apply below_drew | apply below_drewN)).size _ rfl ?_; intro g6 cp6 w6 hown6 hgrow6 hat6 hlt6; have hb6 : Below Q.heap.size Q w6 := below_own (by repeat (first | exact Below.refl _ _ | (with_reducible assumption) | apply below_later | apply below_alloc | apply below_drew | apply below_drewN)) (own_row (HOQ.out.mono (show Below Q.heap.size Q _ from by repeat (first | exact Below.refl _ _ | (with_reducible assumption) | apply below_later | apply below_alloc | apply below_drew | apply below_drewN)).size) LP.out) (Nat.le_refl _) hgrow6; obtain ⟨hi6, hc6⟩ := own_done hown6 LP.out hpn2 ZL.out; have HI6 := Lib.hid hi6; have HC6 := Lib.hid hc6; have HB6 := Lib.hid hb6; obtain ⟨m3, m4, m5⟩ := FQ.out w6 hb6; clear hown6 hgrow6 hat6 hlt6 hi6 hc6 hb6)
                  | (go_simp; go_at_call 78; go_wp2_with (go_at_call 78; with_reducible refine Calls.mono (GivesI.calls (CL.out _ (by repeat (first | exact Below.refl _ _ | (with_reducible assumption) | apply below_later | apply below_alloc | apply below_drew | apply below_drewN)))) ?_; rintro e w1 ⟨vq, rfl, zq, rfl, hoq⟩; obtain ⟨Oq, cq, rfl⟩ := hoq.shape_n LP.out; have HOQ := Lib.hid hoq; obtain ⟨m0, m1, m2⟩ := FQ.out zq.val (by repeat (first | exact Below.refl _ _ | (with_reducible assumption) | apply below_later | apply below_alloc | apply below_drew | apply below_drewN)); clear hoq))
                  | (go_simp; go_at_call 76; go_wp2_with (go_at_call 76; with_reducible refine Calls.mono (RC.out _ _ _ HB6.out HI6.out HC6.out) ?_; rintro e w1 ⟨A9, c9, rfl, ⟨y9, rfl⟩, hi9, hc9, hn9, hs9⟩; have HI9 := Lib.hid hi9; have HC9 := Lib.hid hc9; have HN9b := Lib.hid hn9; have HS9 := Lib.hid hs9; clear hi9 hc9 hn9 hs9)))
                all_goals
                  go_wp2_with fail
                  go_meet
                  exact ⟨A9, c9, rfl, below_more HB6.out y9.ok, HI9.out, HC9.out, HN9b.out, HS9.out⟩
              case rest =>
                obtain ⟨A9, c9, rfl, hbx, hi9, hc9, hn9, hs9⟩ := hcut
                have HBX := Lib.hid hbx
                have HI9 := Lib.hid hi9
                have HC9 := Lib.hid hc9
                have HS9 := Lib.hid hs9
                have hul : Try.prog.underlying 23 = some (.slice 3) := Try.underlying23
                clear hbx hi9 hc9 RC CL LP ZL HIQ FQ
                by_cases hq : lq = []
                · obtain ⟨rfl, rfl⟩ := hn9 hq
                  have HN : Hid (scanF (gF E k d p) (k - (x + 1)) (x + 1) = res) := by
                    show _ = _
                    rw [← HSC.out, HKX.out, scan_skip]
                    rw [HG2.out, hq]
                  subst hq
                  clear hs9 hn9
                  go_wp2_with fail
                  first
                    | (refine ⟨⟨x + 1, by go_num, by omega, by omega, HN.out, XQ.out _ HBX.out⟩, ?_⟩; simp [intOf]; omega)
                    | (go_roundw
                       case rel => exact ⟨x + 1, by go_num, by omega, by omega, HN.out, XQ.out _ HBX.out⟩
                       case measure => simp [intOf]; omega)
                · have hs := hs9 hq
                  have HRR : Hid (res = lq) := by
                    show _ = _
                    rw [← HSC.out, HKX.out, scan_take (by rw [HG2.out]; exact hq)]
                    exact HG2.out
                  have HQ := Lib.hid hq
                  clear hs9 hn9 hq
                  cases A9 with
                  | none => cases hs
                  | some a9 =>
                    clear hs
                    go_wp2_with fail
                    go_ret
                    rw [HRR.out]
                    exact ⟨_, c9, rfl, later_of (below_more HVQ.out HBX.out), HI9.out, HC9.out, fun h => absurd h HQ.out, fun _ => rfl⟩
        · obtain rfl : x = k := by omega
          have HR3 : Hid (res = []) := by
            show _ = _
            rw [← HSC.out, Nat.sub_self]
            rfl
          go_wp2_with fail
          go_ret
          rw [HR3.out]
          exact ⟨none, 0, rfl, later_of HVW.out, ⟨by simp, fun h => absurd h (by simp)⟩, by simp, fun _ => ⟨rfl, rfl⟩, fun h => absurd rfl h⟩
end Go.Proofs.Ytjmjafpjfhgfdaa
