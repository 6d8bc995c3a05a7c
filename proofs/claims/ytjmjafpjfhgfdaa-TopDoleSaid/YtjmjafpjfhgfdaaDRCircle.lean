/- The document's circle and Circle: walked. -/
import Derived.Test.YtjmjafpjfhgfdaaDCirc2
import Derived.Test.YtjmjafpjfhgfdaaDCircle
namespace Go.Proofs.Ytjmjafpjfhgfdaa
open Go.RowKit

theorem cir_path {E : Nat → Nat → Bool} {k : Nat} (hE : ∀ i, E i i = false) {p : List Nat} (P : Path E k p) : cirB E k (zl p) p.length = E (p.getD (p.length - 1) 0) (p.getD 0 0) := by
  cases h : E (p.getD (p.length - 1) 0) (p.getD 0 0)
  · cases hc : cirB E k (zl p) p.length
    · rfl
    · obtain ⟨_, _, he, h1⟩ := cir_dif hc
      have h2 := he (p.length - 1) (by omega)
      rw [show p.length - 1 + 1 = p.length by omega, Nat.mod_self] at h2
      unfold zl at h2
      simp only [Int.toNat_natCast] at h2
      rw [h] at h2
      cases h2
  · exact cir_of_cyc hE ⟨P, h⟩ fun i _ => rfl
/-- A call that returns a list of numbers. -/
def PostD (w : World) (l : List Nat) (e : Ending) (w' : World) : Prop := ∃ A c, e = .returned (.slice A l.length c) ∧ (∃ x : Later w, w' = x.val) ∧ IsInts w' A l.length (zl l)
set_option maxRecDepth 100000 in
set_option maxHeartbeats 6400000 in
theorem rfrom_any (k cap n m cS : Nat) (A S : Option Addr) (R : Nat → Row) (s : Nat → Int) (w : World) (hmn : m ≤ n) (W : Vals k n R) (hp : IsTab w A k R) (hs : IsInts w S m s) :
    ∀ (d : Nat) (p : List Nat) (P : Option Addr) (cP : Nat) (V : World), Below w.heap.size w V → Path (envT R s m) k p → k < p.length + d → IsInts V P p.length (zl p) →
      Calls Try.prog 63 #[.slice A k cap, .slice S m cS, .slice P p.length cP] V (PostD V (circF (envT R s m) k d p)) := by
  have hk6 := W.k6
  have EV := Lib.hid fun (i j : Nat) (V : World) (hi : i < k) (h : Below w.heap.size w V) => renvied_any k cap n m cS i j A S R s V hi hmn W (hp.below h) (hs.below h)
  have IC := Lib.hid fun (l cL : Nat) (L : Option Addr) (c : Nat → Int) (V : World) (hl : l ≤ 1000) (h : Below w.heap.size w V) (hc : IsInts V L l c) => rIsCircle_any k cap n m cS l cL A S L R s c V hmn hl W (hp.below h) (hs.below h) hc
  have hE := env_self R s m
  have CP := Lib.hid fun (p : List Nat) (P : Path (envT R s m) k p) => cir_path hE P
  generalize envT R s m = E at *
  intro d
  induction d with
  | zero =>
    intro p P cP V _ HP hd _
    have := HP.len
    omega
  | succ d ih =>
    intro p P cP V hV HP hd hI
    have HIH := Lib.hid ih
    have hpk := HP.len
    have hp0 := HP.pos
    have hf := HP.lt 0 hp0
    have hla := HP.lt (p.length - 1) (by omega)
    have HMO := Lib.hid fun x (h1 : p.getD 0 0 < x) (h2 : x < k) (h3 : p.contains x = false) (h4 : E (p.getD (p.length - 1) 0) x = true) => HP.more h1 h2 h3 h4
    have CY := Lib.hid (circF_yes (E := E) (k := k) (d := d) (p := p))
    have CN := Lib.hid (circF_no (E := E) (k := k) (d := d) (p := p))
    have GD : Hid (∀ x, gF E k d p x = if p.contains x = true ∨ E (p.getD (p.length - 1) 0) x = false then [] else circF E k d (p ++ [x])) := fun _ => rfl
    have IC1 : Hid (∀ U, Below V.heap.size V U → Gives Try.prog 38 #[.slice A k cap, .slice S m cS, .slice P p.length cP] U (.bool (E (p.getD (p.length - 1) 0) (p.getD 0 0)))) := fun U h => by
      have h1 := IC.out p.length cP P (zl p) U (by omega) (below_more hV h) (hI.below h)
      rw [CP.out p HP] at h1
      exact h1
    have HV := Lib.hid hV
    obtain ⟨pb, po, hP, pp⟩ := hI.at_ hp0
    subst hP
    have HI := Lib.hid hI
    have q0 : Hid (V.cell? ⟨pb, po, none⟩ = some (.int .i64 (p.getD 0 0 : Nat))) := pp.at_ 0 hp0
    have q1 : Hid (V.cell? ⟨pb, po + (p.length - 1), none⟩ = some (.int .i64 (p.getD (p.length - 1) 0 : Nat))) := pp.at_ (p.length - 1) (by omega)
    have lp := pp.lt
    have w1 : IntKind.i64.wrap ((p.length : Int) - 1) = ((p.length - 1 : Nat) : Int) := by
      rw [show ((p.length : Int) - 1) = ((p.length - 1 : Nat) : Int) by omega]
      exact IntWalk.i64_in _ ⟨by omega, by omega⟩
    generalize hF : p.getD 0 0 = f at *
    generalize hL : p.getD (p.length - 1) 0 = la at *
    generalize hN : p.length = pn at *
    have HN9 := Lib.hid hN
    generalize hRes : circF E k (d + 1) p = res at *
    have QV : Hid (∀ U, Below V.heap.size V U → U.cell? ⟨pb, po, none⟩ = some (.int .i64 (f : Nat)) ∧ U.cell? ⟨pb, po + (pn - 1), none⟩ = some (.int .i64 (la : Nat)) ∧ pb < U.heap.size) := fun U h =>
      ⟨(h.cell (p := ⟨pb, po, none⟩) lp).trans q0.out, (h.cell (p := ⟨pb, po + (pn - 1), none⟩) lp).trans q1.out, Nat.lt_of_lt_of_le lp h.size⟩
    clear ih HP hI hV pp hF hL hN hRes q0 q1 lp
    cases hEE : E la f
    case true =>
      rw [hEE] at IC1
      have HR2 := Lib.hid (CY.out hEE)
      clear hEE
      go_enter Try.func63, Try.ntmps63
      go_wp2_with (go_at_call 38; with_reducible refine Calls.mono (Gives.calls (IC1.out _ (by repeat (first | exact Below.refl _ _ | (with_reducible assumption) | apply below_later | apply below_alloc | apply below_drew | apply below_drewN)))) ?_; rintro e w1 ⟨rfl, z, rfl⟩)
      go_ret
      have e9 := HN9.out
      rw [HR2.out]
      exact ⟨_, cP, by rw [e9]; rfl, later_of (by repeat (first | exact Below.refl _ _ | (with_reducible assumption) | apply below_later | apply below_alloc | apply below_drew | apply below_drewN)), e9 ▸ HI.out.below (by repeat (first | exact Below.refl _ _ | (with_reducible assumption) | apply below_later | apply below_alloc | apply below_drew | apply below_drewN))⟩
    case false =>
      rw [hEE] at IC1
      have HR2 := Lib.hid (CN.out hEE)
      clear hEE CY CN
      go_enter Try.func63, Try.ntmps63
      go_wp2_with ((go_at_call 38; with_reducible refine Calls.mono (Gives.calls (IC1.out _ (by repeat (first | exact Below.refl _ _ | (with_reducible assumption) | apply below_later | apply below_alloc | apply below_drew | apply below_drewN)))) ?_; rintro e w1 ⟨rfl, z, rfl⟩); obtain ⟨r0, r1, r2⟩ := QV.out z.val (by repeat (first | exact Below.refl _ _ | (with_reducible assumption) | apply below_later | apply below_alloc | apply below_drew | apply below_drewN)))
      have HVZ : Hid (Below V.heap.size V z.val) := z.ok
      have HBZ : Hid (Below w.heap.size w z.val) := below_more HV.out z.ok
      clear r0 r1 r2 IC1
      generalize z.val = X at *
      go_loopw [7] (fun u wr => ∃ x : Nat, u = .int .i64 (x : Nat) ∧ f < x ∧ x ≤ k ∧ scanF (gF E k d p) (k - x) x = res ∧ ∃ y : Later X, wr = y.val) (fun u _ => k - (intOf u).toNat)
      case atStart => exact ⟨f + 1, by go_num, by omega, by omega, HR2.out.symm, later_of (by repeat (first | exact Below.refl _ _ | (with_reducible assumption) | apply below_later | apply below_alloc | apply below_drew | apply below_drewN))⟩
      case round =>
        obtain ⟨x, rfl, hfx, hxk, hsc, y, rfl⟩ := hrel
        have HSC := Lib.hid hsc
        clear hsc
        have HBW : Hid (Below w.heap.size w y.val) := below_more HBZ.out y.ok
        have HVW : Hid (Below V.heap.size V y.val) := below_more HVZ.out y.ok
        have HIW := Lib.hid (HI.out.below HVW.out)
        have XV : Hid (∀ U, Below y.val.heap.size y.val U → ∃ y' : Later X, U = y'.val) := fun U h => ⟨⟨U, below_more y.ok h⟩, rfl⟩
        by_cases hlt : x < k
        · have hcx : hasI (zl p) pn (x : Nat) = p.contains x := by rw [← HN9.out]; exact has_contains
          have CO : Hid (∀ U, Below y.val.heap.size y.val U → Gives Try.prog 79 #[.slice (some ⟨pb, po, none⟩) pn cP, .int .i64 (x : Nat)] U (.bool (p.contains x))) := fun U h => by
            have h1 := rhas_any pn cP (some ⟨pb, po, none⟩) (zl p) (x : Nat) U (by omega) (HIW.out.below h)
            rw [hcx] at h1
            exact h1
          clear hcx
          have EVx := Lib.hid fun U h => EV.out la x U hla h
          have GDx := Lib.hid (GD.out x)
          have HMX := Lib.hid (HMO.out x hfx hlt)
          have FV : Hid (∀ U, Below y.val.heap.size y.val U → U.cell? ⟨pb, po + (pn - 1), none⟩ = some (.int .i64 (la : Nat)) ∧ pb < U.heap.size) := fun U h => (QV.out U (below_more HVW.out h)).2
          have hkx : k - x = (k - (x + 1)) + 1 := by omega
          have HKX := Lib.hid hkx
          have hg : decide ((x : Int) < (k : Int)) = true := by simp; omega
          clear hkx
          cases hcon : p.contains x
          case true =>
            rw [hcon] at CO
            have HN : Hid (scanF (gF E k d p) (k - (x + 1)) (x + 1) = res) := by
              show _ = _
              rw [← HSC.out, HKX.out, scan_skip]
              rw [GDx.out, if_pos (.inl hcon)]
            clear hcon
            go_wp2_with (go_at_call 79; with_reducible refine Calls.mono (Gives.calls (CO.out _ (by repeat (first | exact Below.refl _ _ | (with_reducible assumption) | apply below_later | apply below_alloc | apply below_drew | apply below_drewN)))) ?_; rintro e w1 ⟨rfl, u, rfl⟩)
            first
              | (refine ⟨⟨x + 1, by go_num, by omega, by omega, HN.out, XV.out _ (by repeat (first | exact Below.refl _ _ | (with_reducible assumption) | apply below_later | apply below_alloc | apply below_drew | apply below_drewN))⟩, ?_⟩; simp [intOf]; omega)
              | (go_roundw
                 case rel => exact ⟨x + 1, by go_num, by omega, by omega, HN.out, XV.out _ (by repeat (first | exact Below.refl _ _ | (with_reducible assumption) | apply below_later | apply below_alloc | apply below_drew | apply below_drewN))⟩
                 case measure => simp [intOf]; omega)
          case false =>
            rw [hcon] at CO
            cases hex : E la x
            case false =>
              rw [hex] at EVx
              have HN : Hid (scanF (gF E k d p) (k - (x + 1)) (x + 1) = res) := by
                show _ = _
                rw [← HSC.out, HKX.out, scan_skip]
                rw [GDx.out, if_pos (.inr hex)]
              clear hex hcon
              go_wp2_with (first
                | ((go_at_call 79; with_reducible refine Calls.mono (Gives.calls (CO.out _ (by repeat (first | exact Below.refl _ _ | (with_reducible assumption) | apply below_later | apply below_alloc | apply below_drew | apply below_drewN)))) ?_; rintro e w1 ⟨rfl, u, rfl⟩); obtain ⟨k0, k1⟩ := FV.out u.val (by repeat (first | exact Below.refl _ _ | (with_reducible assumption) | apply below_later | apply below_alloc | apply below_drew | apply below_drewN)))
                | (go_at_call 49; with_reducible refine Calls.mono (Gives.calls (EVx.out _ (below_more HBW.out (by repeat (first | exact Below.refl _ _ | (with_reducible assumption) | apply below_later | apply below_alloc | apply below_drew | apply below_drewN))))) ?_; rintro e w1 ⟨rfl, u2, rfl⟩))
              first
                | (refine ⟨⟨x + 1, by go_num, by omega, by omega, HN.out, XV.out _ (by repeat (first | exact Below.refl _ _ | (with_reducible assumption) | apply below_later | apply below_alloc | apply below_drew | apply below_drewN))⟩, ?_⟩; simp [intOf]; omega)
                | (go_roundw
                   case rel => exact ⟨x + 1, by go_num, by omega, by omega, HN.out, XV.out _ (by repeat (first | exact Below.refl _ _ | (with_reducible assumption) | apply below_later | apply below_alloc | apply below_drew | apply below_drewN))⟩
                   case measure => simp [intOf]; omega)
            case true =>
              rw [hex] at EVx
              have HPM := Lib.hid (HMX.out hcon hex)
              have HG2 : Hid (gF E k d p x = circF E k d (p ++ [x])) := by
                show _ = _
                rw [GDx.out, if_neg (by rw [hcon, hex]; simp)]
              clear hex hcon
              have HIV9 : Hid (∀ U, Below y.val.heap.size y.val U → IsInts U (some ⟨pb, po, none⟩) pn (zl p)) := fun U h => HIW.out.below h
              obtain ⟨i0, hi0, hz0, hz1, hz2⟩ := info_int
              have OWN0 : Hid (∀ U : World, OwnI (U.alloc (.cells #[] 3)) U.heap.size (.slice (some ⟨U.heap.size, 0, none⟩) 0 0) []) := fun U => World.ownsRow_made U #[] 0 (Nat.le_refl _) (by unfold maxLen; omega) rfl
              have NEW0 : Hid (∀ U, Below y.val.heap.size y.val U → ∀ (j : Nat) (v : Value), (cellsI ((List.range pn).map (zl p)))[j]? = some v → U.cell? ((⟨pb, po, none⟩ : Addr).add j) = some v) := fun U h => by
                obtain ⟨b7, o7, h7, p7⟩ := (HIV9.out U h).at_ hp0
                simp only [Option.some.injEq, Addr.mk.injEq, and_true] at h7
                obtain ⟨rfl, rfl⟩ := h7
                exact ints_news p7
              go_wp2_with (first
                | ((go_at_call 79; with_reducible refine Calls.mono (Gives.calls (CO.out _ (by repeat (first | exact Below.refl _ _ | (with_reducible assumption) | apply below_later | apply below_alloc | apply below_drew | apply below_drewN)))) ?_; rintro e w1 ⟨rfl, u, rfl⟩); obtain ⟨k0, k1⟩ := FV.out u.val (by repeat (first | exact Below.refl _ _ | (with_reducible assumption) | apply below_later | apply below_alloc | apply below_drew | apply below_drewN)))
                | ((go_at_call 49; with_reducible refine Calls.mono (Gives.calls (EVx.out _ (below_more HBW.out (by repeat (first | exact Below.refl _ _ | (with_reducible assumption) | apply below_later | apply below_alloc | apply below_drew | apply below_drewN))))) ?_; rintro e w1 ⟨rfl, u2, rfl⟩))
                | (at_builtin; refine wpList_append_own _ rfl _ _ 23 rfl u2.val.heap.size 3 i0 (.int .i64 0) 1 8 Try.underlying23 hi0 hz0 hz1 hz2 rfl (by decide) _ _ _ rfl (OWN0.out u2.val) ⟨pb, po, none⟩ pn cP (cellsI ((List.range pn).map (zl p))) rfl ?c1 (NEW0.out _ (by repeat (first | exact Below.refl _ _ | (with_reducible assumption) | apply below_later | apply below_alloc | apply below_drew | apply below_drewN))) (cellsI_one _) ?c3 ?c4 ?c5 ?_))
              case c1 => rw [cellsI_length]; simp
              case c3 => simp only [maxLen, List.length_nil]; omega
              case c4 => simp only [List.length_nil]; omega
              case c5 => simp only [World.size_alloc]; omega
              intro v1 w1 hown1 hg1 _
              have hb1 : Below u2.val.heap.size u2.val w1 := below_own (w1 := u2.val.alloc (.cells #[] 3)) (by repeat (first | exact Below.refl _ _ | (with_reducible assumption) | apply below_later | apply below_alloc | apply below_drew | apply below_drewN)) (OWN0.out u2.val) (Nat.le_refl _) hg1
              have LP : Hid (((List.range pn).map (zl p)).length = pn) := by show _ = _; simp
              have HO1 : Hid (OwnI w1 u2.val.heap.size v1 ((List.range pn).map (zl p))) := by
                show OwnI _ _ _ _
                unfold OwnI
                rw [LP.out]
                exact hown1
              obtain ⟨O1, cO1, eO1⟩ := HO1.out.shape_n LP.out
              subst eO1
              have HB1 := Lib.hid hb1
              have ZL := Lib.hid (zl_more (x := x) HN9.out)
              clear hown1 hg1 hb1 OWN0 NEW0
              generalize (List.range pn).map (zl p) = pl at *
              have hpn2 : pn ≤ 6 := by omega
              go_wp2_with (at_builtin; refine wpList_append_own_at _ rfl _ _ 23 rfl u2.val.heap.size 3 i0 (.int .i64 0) 1 8 Try.underlying23 hi0 hz0 hz1 hz2 rfl (by decide) _ _ _ rfl ((own_row HO1.out LP.out).alloc _) ⟨_, 0, none⟩ 1 1 [.int .i64 (x : Nat)] rfl rfl lit_news one_int ?g1 ?g2 ?g3 ?_)
              case g1 => unfold maxLen; omega
              case g2 => omega
              case g3 => have := HB1.out.size; simp only [World.size_alloc]; omega
              intro v6 w6 hown2 hgrow _ hat
              have hb6 : Below u2.val.heap.size u2.val w6 := below_own (w1 := w1.alloc (.cells #[.int .i64 (x : Nat)] 3)) (below_alloc HB1.out) ((own_row HO1.out LP.out).alloc _) (Nat.le_refl _) hgrow
              have hlen1 : (pl ++ [(x : Int)]).length = pn + 1 := by rw [List.length_append, LP.out]; rfl
              have HO6 : OwnI w6 u2.val.heap.size v6 (pl ++ [(x : Int)]) := by
                unfold OwnI
                rw [hlen1, cellsI_append]
                exact hown2
              obtain ⟨g6, c6, e6, _, _, _⟩ := HO6.form hlen1 (by omega)
              subst e6
              have HI6 := Lib.hid (((HO6.ints (by rw [hlen1]; omega)).2).congr ZL.out)
              have HB6 : Hid (Below y.val.heap.size y.val w6) := below_more (by repeat (first | exact Below.refl _ _ | (with_reducible assumption) | apply below_later | apply below_alloc | apply below_drew | apply below_drewN)) hb6
              have hlen2 : (p ++ [x]).length = pn + 1 := by rw [List.length_append, HN9.out]; rfl
              have RC : Hid (Calls Try.prog 63 #[.slice A k cap, .slice S m cS, .slice (some ⟨g6, 0, none⟩) (pn + 1) c6] w6 fun e w' => ∃ A c, e = .returned (.slice A (circF E k d (p ++ [x])).length c) ∧ (∃ y : Later w6, w' = y.val) ∧ IsInts w' A (circF E k d (p ++ [x])).length (zl (circF E k d (p ++ [x])))) := by
                have h1 := HIH.out (p ++ [x]) (some ⟨g6, 0, none⟩) c6 w6 (below_more HBW.out HB6.out) HPM.out (by rw [hlen2]; omega) (by rw [hlen2]; exact HI6.out)
                rw [hlen2] at h1
                exact h1
              clear hown2 hgrow hat hb6 HO6 HIH HPM HO1 HB1 ZL hlen1 hlen2
              generalize circF E k d (p ++ [x]) = lq at *
              by_cases hq : lq = []
              · have HN : Hid (scanF (gF E k d p) (k - (x + 1)) (x + 1) = res) := by
                  show _ = _
                  rw [← HSC.out, HKX.out, scan_skip]
                  rw [HG2.out, hq]
                subst hq
                go_wp2_with (go_at_call 63; with_reducible refine Calls.mono RC.out ?_; rintro e w' ⟨A9, c9, rfl, ⟨z9, rfl⟩, hi9⟩)
                first
                  | (refine ⟨⟨x + 1, by go_num, by omega, by omega, HN.out, XV.out _ (below_more HB6.out z9.ok)⟩, ?_⟩; simp [intOf]; omega)
                  | (go_roundw
                     case rel => exact ⟨x + 1, by go_num, by omega, by omega, HN.out, XV.out _ (below_more HB6.out z9.ok)⟩
                     case measure => simp [intOf]; omega)
              · have hlq : 0 < lq.length := by cases lq with
                  | nil => exact absurd rfl hq
                  | cons a l => simp
                have HRR : Hid (res = lq) := by
                  show _ = _
                  rw [← HSC.out, HKX.out, scan_take (by rw [HG2.out]; exact hq)]
                  exact HG2.out
                have hgl : decide ((0 : Int) < (lq.length : Int)) = true := by simp; omega
                have hgl2 : decide (0 < lq.length) = true := by simp; omega
                clear hq
                generalize hln : lq.length = ln at *
                have HLN := Lib.hid hln
                clear hln
                go_wp2_with (go_at_call 63; with_reducible refine Calls.mono RC.out ?_; rintro e w' ⟨A9, c9, rfl, ⟨z9, rfl⟩, hi9⟩; have HI9 := Lib.hid hi9; clear hi9)
                go_ret
                rw [HRR.out]
                exact ⟨A9, c9, by rw [HLN.out]; rfl, later_of (below_more HVW.out (below_more HB6.out z9.ok)), by rw [HLN.out]; exact HI9.out⟩
        · obtain rfl : x = k := by omega
          have HR3 : Hid (res = []) := by
            show _ = _
            rw [← HSC.out, Nat.sub_self]
            rfl
          go_wp2_with fail
          go_ret
          rw [HR3.out]
          exact ⟨none, 0, rfl, later_of HVW.out, ⟨by simp, fun h => absurd h (by simp)⟩⟩
end Go.Proofs.Ytjmjafpjfhgfdaa
