/- The law of hours: walked. -/
import Derived.Test.YtjokpangacahgaaTIsWork
namespace Go.Proofs.Ytjokpangacahgaa
open Go.RowKit

theorem wf_u8 {i : Int} (h : (Lit.int .u8 i).wf = true) : 0 ≤ i ∧ i ≤ 255 := by
  simp only [Lit.wf, Bool.and_eq_true, decide_eq_true_eq] at h
  have e1 : IntKind.u8.min = 0 := by decide
  have e2 : IntKind.u8.max = 255 := by decide
  omega
set_option maxRecDepth 100000 in
set_option maxHeartbeats 6400000 in
theorem hours_law (A B : Option Addr) (n cap m cw u : Nat) (f : Nat → Int) (R : Nat → Row) (w : World) (hu : u ≤ 255) (hn : n ≤ 9223372036854775807) (hp : IsInts w A n f) (hq : IsTab w B m R) :
    Gives Try.prog 9 #[.slice A n cap, .int .u8 u, .slice B m cw] w (.bool true) := by
  have AW := Lib.hid awake_law
  have RJ := Lib.hid fun (V : World) (h : Below w.heap.size w V) => rJob_any n cap A f V hn (hp.below h)
  have LG := Lib.hid fun (V : World) (h : Below w.heap.size w V) => Long_any m cw B R V (hq.below h)
  have hh : ∃ h : Nat, 1 + u % 10 = h := ⟨_, rfl⟩
  obtain ⟨h, hh⟩ := hh
  have hh1 : 1 ≤ h := by omega
  have hh10 : h ≤ 10 := by omega
  have ew : (1 : Int) + (u : Int) % 10 = (h : Int) := by omega
  have ew2 : IntKind.i64.wrap ((1 : Int) + (u : Int) % 10) = (h : Int) := by rw [ew]; exact i64_nat (by omega)
  cases hj : okJob n f
  case false =>
    rw [hj] at RJ
    clear hp hq hj
    go_enter Try.func9, Try.ntmps9
    go_wp2_with (first | (go_at_call 47; with_reducible refine Calls.mono (Gives.calls (RJ.out _ (by repeat (first | exact Below.refl _ _ | (with_reducible assumption) | apply below_later | apply below_alloc | apply below_drew | apply below_drewN)))) ?_; rintro e w1 ⟨rfl, z1, rfl⟩) | (go_at_call 41; with_reducible refine Calls.mono (Gives.calls (LG.out _ (by repeat (first | exact Below.refl _ _ | (with_reducible assumption) | apply below_later | apply below_alloc | apply below_drew | apply below_drewN)))) ?_; rintro e w1 ⟨rfl, z2, rfl⟩) | (go_at_call 16; with_reducible refine Calls.mono (Gives.calls (AW.out _)) ?_; rintro e w1 ⟨rfl, z3, rfl⟩))
    go_ret
    exact ⟨rfl, later_of (by repeat (first | exact Below.refl _ _ | (with_reducible assumption) | apply below_later | apply below_alloc | apply below_drew | apply below_drewN))⟩
  case true =>
    rw [hj] at RJ
    cases hl : longB m R
    case true =>
      rw [hl] at LG
      clear hp hq hj hl
      go_enter Try.func9, Try.ntmps9
      go_wp2_with (first | (go_at_call 47; with_reducible refine Calls.mono (Gives.calls (RJ.out _ (by repeat (first | exact Below.refl _ _ | (with_reducible assumption) | apply below_later | apply below_alloc | apply below_drew | apply below_drewN)))) ?_; rintro e w1 ⟨rfl, z1, rfl⟩) | (go_at_call 41; with_reducible refine Calls.mono (Gives.calls (LG.out _ (by repeat (first | exact Below.refl _ _ | (with_reducible assumption) | apply below_later | apply below_alloc | apply below_drew | apply below_drewN)))) ?_; rintro e w1 ⟨rfl, z2, rfl⟩) | (go_at_call 16; with_reducible refine Calls.mono (Gives.calls (AW.out _)) ?_; rintro e w1 ⟨rfl, z3, rfl⟩))
      go_ret
      exact ⟨rfl, later_of (by repeat (first | exact Below.refl _ _ | (with_reducible assumption) | apply below_later | apply below_alloc | apply below_drew | apply below_drewN))⟩
    case false =>
      rw [hl] at LG
      obtain ⟨hm, hr⟩ := long_facts hl
      obtain ⟨⟨n1, n10⟩, hv⟩ := okJob_iff.1 hj
      obtain ⟨g, hg, hgb⟩ := okJob_nat hj
      have hpg : IsInts w A n fun i => ((g i : Nat) : Int) := hp.congr hg
      have hjg : okJob n (fun i => ((g i : Nat) : Int)) = true := okJob_iff.2 ⟨⟨n1, n10⟩, fun i _ => by have := hgb i; show (0 : Int) ≤ (g i : Int) ∧ (g i : Int) ≤ 100; omega⟩
      have he : jobE n (fun i => ((g i : Nat) : Int)) h = 0 := by
        unfold jobE
        rw [if_neg (by rw [hjg]; simp), if_neg]
        have : inI 1 (h : Int) 10 = true := inI_iff.2 ⟨by omega, by omega⟩
        rw [this]; simp
      have HO := Lib.hid fun (V : World) (hb : Below w.heap.size w V) => Hours_ok n cap h A g V (hpg.below hb) he
      have IW := Lib.hid fun (V : World) (hb : Below w.heap.size w V) => IsWork_ok n cap h m cw A B g R V (hpg.below hb) (hq.below hb) (fun i hi => by have := hr i hi; omega) he
      have HM : Hid (isW g n h m R = true → hoursN g n h ≤ m) := fun e => isW_hours hh1 e
      have HH : Hid (hoursN g n h = max (topF g n) (upN (addN g n) h)) := rfl
      have TS := Lib.hid fun k => topF_succ g k
      have AS := Lib.hid fun k => addN_succ g k
      have T0 : Hid (topF g 0 = 0 ∧ addN g 0 = 0) := ⟨rfl, rfl⟩
      have TB := Lib.hid fun k => topF_le (g := g) (k := k) (b := 100) fun i _ => hgb i
      have AB := Lib.hid fun k => addN_le (g := g) (k := k) (b := 100) fun i _ => hgb i
      have HU : Hid (upN (addN g n) h = (addN g n + h - 1) / h) := rfl
      have HPG := Lib.hid hpg
      have HGB := Lib.hid hgb
      generalize isW g n h m R = iw at *
      generalize hoursN g n h = ho at *
      generalize topF g = TT at *
      generalize upN (addN g n) h = up at *
      generalize addN g = SS at *
      clear hp hq hj hl hr hv hg hpg hjg he hgb
      go_enter Try.func9, Try.ntmps9
      go_wp2_with (first
        | (go_at_call 47; with_reducible refine Calls.mono (Gives.calls (RJ.out _ (by repeat (first | exact Below.refl _ _ | (with_reducible assumption) | apply below_later | apply below_alloc | apply below_drew | apply below_drewN)))) ?_; rintro e w1 ⟨rfl, z1, rfl⟩)
        | (go_at_call 41; with_reducible refine Calls.mono (Gives.calls (LG.out _ (by repeat (first | exact Below.refl _ _ | (with_reducible assumption) | apply below_later | apply below_alloc | apply below_drew | apply below_drewN)))) ?_; rintro e w1 ⟨rfl, z2, rfl⟩)
        | (go_at_call 42; with_reducible refine Calls.mono (Gives.calls (HO.out _ (by repeat (first | exact Below.refl _ _ | (with_reducible assumption) | apply below_later | apply below_alloc | apply below_drew | apply below_drewN)))) ?_; rintro e w1 ⟨rfl, z3, rfl⟩))
      have HBZ : Hid (Below w.heap.size w z3.val) := by show Below _ _ _; repeat (first | exact Below.refl _ _ | (with_reducible assumption) | apply below_later | apply below_alloc | apply below_drew | apply below_drewN)
      clear RJ LG HO
      generalize z3.val = Z at *
      go_loopw [10, 11, 12] (fun u10 u11 u12 wr => ∃ k : Nat, u10 = .int .i64 (TT k : Nat) ∧ u11 = .int .i64 (SS k : Nat) ∧ u12 = .int .i64 (k : Nat) ∧ k ≤ n ∧ ∃ x : Later Z, wr = x.val) (fun _ _ v _ => n - (intOf v).toNat)
      case atStart => exact ⟨0, by rw [T0.out.1]; rfl, by rw [T0.out.2]; rfl, rfl, by omega, later_of (by repeat (first | exact Below.refl _ _ | (with_reducible assumption) | apply below_later | apply below_alloc | apply below_drew | apply below_drewN))⟩
      case round =>
        obtain ⟨k, rfl, rfl, rfl, hk, x, rfl⟩ := hrel
        by_cases hlt : k < n
        · obtain ⟨b', off', hA, q⟩ := (HPG.out.below (below_more HBZ.out x.ok)).at_ (by omega)
          subst hA
          have ck := q.at_ k hlt
          have lk := q.lt
          have b1 := TB.out k
          have b2 := AB.out k
          have b3 := HGB.out k
          have N1 := Lib.hid (TS.out k)
          have N2 := Lib.hid (AS.out k)
          obtain ⟨t1, ht1⟩ : ∃ t1, TT (k + 1) = t1 := ⟨_, rfl⟩
          obtain ⟨t2, ht2⟩ : ∃ t2, SS (k + 1) = t2 := ⟨_, rfl⟩
          rw [ht1] at N1
          rw [ht2] at N2
          have HT1 := Lib.hid ht1
          have HT2 := Lib.hid ht2
          clear q ht1 ht2
          generalize TT k = ta at *
          generalize SS k = sa at *
          generalize g k = gk at *
          go_wp2_with fail
          all_goals
            first
              | (refine ⟨⟨k + 1, by rw [HT1.out]; congr 1; have := N1.out; omega, by rw [HT2.out]; congr 1; have := N2.out; omega, by go_num, by omega, later_of (by repeat (first | exact Below.refl _ _ | (with_reducible assumption) | apply below_later | apply below_alloc | apply below_drew | apply below_drewN))⟩, ?_⟩; simp [intOf]; omega)
              | (go_roundw
                 case rel => exact ⟨k + 1, by rw [HT1.out]; congr 1; have := N1.out; omega, by rw [HT2.out]; congr 1; have := N2.out; omega, by go_num, by omega, later_of (by repeat (first | exact Below.refl _ _ | (with_reducible assumption) | apply below_later | apply below_alloc | apply below_drew | apply below_drewN))⟩
                 case measure => simp [intOf]; omega)
        · obtain rfl : k = n := by omega
          have HBX : Hid (Below w.heap.size w x.val) := below_more HBZ.out x.ok
          have b1 := TB.out k
          have b2 := AB.out k
          have hup := HU.out
          have e1 : IntKind.i64.wrap ((SS k : Int) + (h : Int)) = ((SS k + h : Nat) : Int) := by rw [← Int.natCast_add]; exact i64_nat (by omega)
          have e2 : IntKind.i64.wrap (((SS k + h : Nat) : Int) - 1) = ((SS k + h - 1 : Nat) : Int) := by rw [show (((SS k + h : Nat) : Int) - 1) = ((SS k + h - 1 : Nat) : Int) by omega]; exact i64_nat (by omega)
          have e3 : (h : Int) ≠ 0 := by omega
          have hq1 : up ≤ 2000 := by rw [hup]; exact Nat.le_trans (Nat.div_le_self _ _) (by omega)
          have e4 : IntKind.i64.wrap (((SS k + h - 1 : Nat) : Int) / (h : Int)) = (up : Int) := by rw [← Int.natCast_ediv, ← hup]; exact i64_nat (by omega)
          have e5 : IntKind.i64.wrap ((((SS k + h - 1 : Nat) : Int)).tdiv (h : Int)) = (up : Int) := by rw [Int.tdiv_eq_ediv_of_nonneg (by omega)]; exact e4
          have e6 : (SS k : Int) + (h : Int) - 1 = ((SS k + h - 1 : Nat) : Int) := by omega
          have e7 : IntKind.i64.wrap ((SS k : Int) + (h : Int) - 1) = ((SS k + h - 1 : Nat) : Int) := by rw [e6]; exact i64_nat (by omega)
          have hmx := HH.out
          have HMB := HM.out
          clear hup HU
          generalize SS k + h - 1 = s1 at *
          generalize SS k + h = s2 at *
          generalize SS k = s0 at *
          generalize TT k = t0 at *
          generalize x.val = X at *
          have HMX := Lib.hid hmx
          have hho : ((ho : Nat) : Int) = max (t0 : Int) (up : Int) := by omega
          have HMI := Lib.hid HMB
          clear hmx HMB
          cases iw
          · go_wp2_with (first | (go_at_call 45; with_reducible refine Calls.mono (Gives.calls (IW.out _ (below_more HBX.out (by repeat (first | exact Below.refl _ _ | (with_reducible assumption) | apply below_later | apply below_alloc | apply below_drew | apply below_drewN))))) ?_; rintro e w1 ⟨rfl, z4, rfl⟩) | (go_at_call 16; with_reducible refine Calls.mono (Gives.calls (AW.out _)) ?_; rintro e w1 ⟨rfl, z5, rfl⟩))
            all_goals
              go_ret
              exact ⟨rfl, later_of (below_more HBX.out (by repeat (first | exact Below.refl _ _ | (with_reducible assumption) | apply below_later | apply below_alloc | apply below_drew | apply below_drewN)))⟩
          · have hle := HMI.out rfl
            go_wp2_with (first | (go_at_call 45; with_reducible refine Calls.mono (Gives.calls (IW.out _ (below_more HBX.out (by repeat (first | exact Below.refl _ _ | (with_reducible assumption) | apply below_later | apply below_alloc | apply below_drew | apply below_drewN))))) ?_; rintro e w1 ⟨rfl, z4, rfl⟩) | (go_at_call 16; with_reducible refine Calls.mono (Gives.calls (AW.out _)) ?_; rintro e w1 ⟨rfl, z5, rfl⟩))
            all_goals
              go_ret
              exact ⟨rfl, later_of (below_more HBX.out (by repeat (first | exact Below.refl _ _ | (with_reducible assumption) | apply below_later | apply below_alloc | apply below_drew | apply below_drewN)))⟩
theorem hours_law2 (A B : Option Addr) (n cap m cw : Nat) (i : Int) (f : Nat → Int) (R : Nat → Row) (w : World) (wi : (Lit.int .u8 i).wf = true) (hn : n ≤ 9223372036854775807) (hp : n ≤ 9223372036854775807 → IsInts w A n f) (hq : IsTab w B m R) :
    Gives Try.prog 9 #[.slice A n cap, .int .u8 i, .slice B m cw] w (.bool true) := by
  obtain ⟨h0, h1⟩ := wf_u8 wi
  obtain ⟨u, rfl⟩ : ∃ u : Nat, i = u := ⟨i.toNat, by omega⟩
  exact hours_law A B n cap m cw u f R w (by omega) hn (hp hn) hq
end Go.Proofs.Ytjokpangacahgaa
