/- wader's lengths: walked, with leads and with follows. -/
import Derived.Test.YtlljjaafejjeeaaKBirds
import Derived.Test.YtlljjaafejjeeaaKLenMath
namespace Go.Proofs.Ytlljjaafejjeeaa
open Go.RowKit

theorem follows_any (s : Int) (n cap i k : Nat) (A : Option Addr) (X Y T : Nat → Int) (w : World) (hi : i < n) (hk : k < n) (W : Watch n s X Y T) (hp : IsChs w A n X Y T) :
    Gives Try.prog 27 #[.agg #[.slice A n cap, .int .i64 s], .int .i64 i, .int .i64 k] w (.bool (leadsR s X Y T k i)) := by
  have LD := Lib.hid fun (V : World) (h : IsChs V A n X Y T) => leads_any s n cap k i A X Y T V hk hi W h
  have HP := Lib.hid hp
  obtain ⟨c0, c1, l0⟩ := box2 w (.slice A n cap) (.int .i64 s) 53
  clear hp W
  go_enter Try.func27, Try.ntmps27
  go_wp2_with (go_at_call 43; (first | (with_reducible show Calls _ _ _ (Later.val _) _; with_reducible refine Calls.mono (Later.call _ (LD.out _ (HP.out.below (by repeat (first | exact Below.refl _ _ | (with_reducible assumption) | apply below_later | apply below_alloc | apply below_drew | apply below_drewN))))) ?_) | (with_reducible refine Calls.mono (Gives.calls (LD.out _ (HP.out.below (by repeat (first | exact Below.refl _ _ | (with_reducible assumption) | apply below_later | apply below_alloc | apply below_drew | apply below_drewN))))) ?_)); rintro e w1 ⟨rfl, y, rfl⟩)
  go_ret
  exact ⟨rfl, later_of (by repeat (first | exact Below.refl _ _ | (with_reducible assumption) | apply below_later | apply below_alloc | apply below_drew | apply below_drewN))⟩
/-- What lengths' closure reads and writes. -/
structure LS (B w : World) (fn : Nat) (bo bf bk go n cap : Nat) (A : Option Addr) (s : Int) (out : List Int) : Prop where
  below : Below B.heap.size B w
  xo : w.heap[bo]? = some (.cells #[.slice (some ⟨go, 0, none⟩) n n] 24 (0, 0))
  xf : w.heap[bf]? = some (.cells #[.func (.func fn) #[.agg #[.slice A n cap, .int .i64 s]] #[]] 42 (0, 0))
  xk : w.heap[bk]? = some (.cells #[.func (.func 45) #[] #[.pointer (some ⟨bo, 0, none⟩), .pointer (some ⟨bf, 0, none⟩), .pointer (some ⟨bk, 0, none⟩)]] 67 (0, 0))
  oo : OwnI w B.heap.size (.slice (some ⟨go, 0, none⟩) n n) out
  ne : go ≠ bo ∧ go ≠ bf ∧ go ≠ bk
section
variable {B w : World} {fn bo bf bk go n cap : Nat} {A : Option Addr} {s : Int} {out : List Int}
theorem LS.later (h : LS B w fn bo bf bk go n cap A s out) (x : Later w) : LS B x.val fn bo bf bk go n cap A s out :=
  ⟨below_more h.below x.ok, (x.ok.block _ (get_lt h.xo)).trans h.xo, (x.ok.block _ (get_lt h.xf)).trans h.xf, (x.ok.block _ (get_lt h.xk)).trans h.xk, h.oo.later x, h.ne⟩
theorem LS.put (h : LS B w fn bo bf bk go n cap A s out) (hl : out.length = n) (i : Nat) (x : Int) : LS B (w.setCell ⟨go, i, none⟩ (.int .i64 x)) fn bo bf bk go n cap A s (out.set i x) := by
  obtain ⟨a1, a2, a3⟩ := h.ne
  exact ⟨h.below.setCell (p := ⟨go, i, none⟩) (own_lt h.oo go rfl).1 _, box_far h.xo a1, box_far h.xf a2, box_far h.xk a3, h.oo.set hl i x, h.ne⟩
end
def onL (s : Int) (X Y T : Nat → Int) (i k : Nat) : Bool := leadsR s X Y T i k
def onF (s : Int) (X Y T : Nat → Int) (i k : Nat) : Bool := leadsR s X Y T k i
/-- Lengths that are known, or 0. -/
structure Known (n : Nat) (H : Nat → Nat) (out : List Int) : Prop where
  len : out.length = n
  at_ : ∀ k, k < n → out.getD k 0 = 0 ∨ out.getD k 0 = (H k : Nat)
theorem Known.put {n : Nat} {H : Nat → Nat} {out : List Int} (h : Known n H out) {i : Nat} (hi : i < n) : Known n H (out.set i (H i : Nat)) :=
  ⟨by rw [List.length_set]; exact h.len, fun k hk => by
    rw [getD_setI (by rw [h.len]; exact hi)]
    split
    · rename_i e; subst e; exact .inr rfl
    · exact h.at_ k hk⟩
theorem maxTo_step {p : Nat → Bool} {g : Nat → Nat} {k : Nat} : maxTo p g (k + 1) = if p k = true then max (maxTo p g k) (g k) else maxTo p g k := rfl
set_option maxRecDepth 100000 in
set_option maxHeartbeats 6400000 in
theorem len_leads (B : World) (bo bf bk go n cap : Nat) (A : Option Addr) (s : Int) (X Y T : Nat → Int) (μ : Nat → Nat) (W : Watch n s X Y T) (hp : IsChs B A n X Y T) (R : Nat → Nat → Bool) (hR : R = onL s X Y T) (D : Down R n μ) :
    ∀ (f i : Nat) (out : List Int) (w : World), i < n → μ i < f → Known n (hgt R n) out → LS B w 43 bo bf bk go n cap A s out →
    Calls Try.prog 45 #[.int .i64 i, .pointer (some ⟨bo, 0, none⟩), .pointer (some ⟨bf, 0, none⟩), .pointer (some ⟨bk, 0, none⟩)] w fun e w' =>
      ∃ out', e = .returned (.int .i64 (hgt R n i : Nat)) ∧ LS B w' 43 bo bf bk go n cap A s out' ∧ Known n (hgt R n) out' ∧ out'.getD i 0 = (hgt R n i : Nat) ∧ ∀ k, k < n → out.getD k 0 ≠ 0 → out'.getD k 0 ≠ 0 := by
  intro f
  induction f with
  | zero => intro i out w _ h; omega
  | succ f ih =>
    intro i out w hi hf hkn hls
    have hn30 := W.n30
    have LD : Hid (∀ (V : World) (k : Nat), k < n → Below B.heap.size B V → Gives Try.prog 43 #[.agg #[.slice A n cap, .int .i64 s], .int .i64 i, .int .i64 k] V (.bool (R i k))) := fun V k hk hb => hR ▸ leads_any s n cap i k A X Y T V hi hk W (hp.below hb)
    have IH := Lib.hid fun k (hk : k < n) (h : R i k = true) out w => ih k out w hk (by have := D.lt i k hi hk h; omega)
    have HI : Hid (hgt R n i = maxTo (R i) (hgt R n) n + 1) := hgt_eq D hi
    have HP : Hid (1 ≤ hgt R n i) := hgt_pos D hi
    have HL := Lib.hid fun k => hgt_le R n k
    have MT := Lib.hid fun k => maxTo_step (p := R i) (g := hgt R n) (k := k)
    have ML : Hid (∀ k, maxTo (R i) (hgt R n) k ≤ n) := fun k => maxTo_le k fun j _ _ => hgt_le R n j
    have M0 : Hid (maxTo (R i) (hgt R n) 0 = 0) := rfl
    generalize maxTo (R i) (hgt R n) = M at *
    generalize hgt R n = H at *
    have HK := Lib.hid hkn
    have HLS := Lib.hid hls
    obtain ⟨x0, _, x2⟩ := box_facts hls.xo
    obtain ⟨o3, o4⟩ := hls.oo.cell hkn.len hi
    have o5 := (own_lt hls.oo go rfl).2
    have o6 := o4 i
    clear ih hkn hls hp W hR D o4
    rcases HK.out.at_ i hi with hz | hz
    · rw [hz] at o3
      have HZ := Lib.hid hz
      clear hz
      go_enter Try.func45, Try.ntmps45
      go_wp2_with fail
      clear x0 x2 o3 o5 o6
      go_loopw [6, 19] (fun u v wr => ∃ (k : Nat) (out' : List Int), u = .int .i64 (M k : Nat) ∧ v = .int .i64 (k : Nat) ∧ k ≤ n ∧ Known n H out' ∧ LS B wr 43 bo bf bk go n cap A s out' ∧ ∀ k, k < n → out.getD k 0 ≠ 0 → out'.getD k 0 ≠ 0) (fun _ v _ => n - (intOf v).toNat)
      case atStart => exact ⟨0, out, by rw [M0.out]; rfl, rfl, by omega, HK.out, HLS.out, fun _ _ h => h⟩
      case round =>
        obtain ⟨k, out', rfl, rfl, hk, hkn, hls, hmo⟩ := hrel
        clear HK HLS
        have HK := Lib.hid hkn
        have HLS := Lib.hid hls
        have HMO := Lib.hid hmo
        obtain ⟨x0, _, x2⟩ := box_facts hls.xo
        obtain ⟨f0, _, f2⟩ := box_facts hls.xf
        obtain ⟨k0, _, k2⟩ := box_facts hls.xk
        have hBw := Lib.hid hls.below
        obtain ⟨o3, o4⟩ := hls.oo.cell hkn.len hi
        have o5 := (own_lt hls.oo go rfl).2
        have o6 := o4 i
        have n1 := hls.ne.1
        have n2 : bo ≠ go := fun e => n1 e.symm
        clear hkn hls hmo o4
        have mk := ML.out k
        by_cases hlt : k < n
        · have LD1 := Lib.hid fun V hb => LD.out V k hlt hb
          have MT1 := Lib.hid (MT.out k)
          cases hr : R i k
          case false =>
            rw [hr] at LD1
            have MT2 : Hid (M (k + 1) = M k) := by show _ = _; rw [MT1.out, hr]; rfl
            clear hr
            go_wp2_with (go_at_call 43; with_reducible refine Calls.mono (Gives.calls (LD1.out _ hBw.out)) ?_; rintro e w1 ⟨rfl, y, rfl⟩)
            go_roundw
            case rel => exact ⟨k + 1, out', by rw [MT2.out], by go_num, by omega, HK.out, HLS.out.later y, HMO.out⟩
            case measure => simp [intOf]; omega
          case true =>
            rw [hr] at LD1
            have MT2 : Hid (M (k + 1) = max (M k) (H k)) := by show _ = _; rw [MT1.out, hr]; rfl
            have IH1 := Lib.hid (IH.out k hlt hr)
            have hk9 := HL.out k
            clear hr
            generalize wr = WR at *
            go_wp2_with (first
              | (go_at_call 43; with_reducible refine Calls.mono (Gives.calls (LD1.out _ hBw.out)) ?_; rintro e w1 ⟨rfl, y, rfl⟩)
              | (go_at_call 45; with_reducible refine Calls.mono (IH1.out _ _ HK.out (HLS.out.later y)) ?_; rintro e w' ⟨out2, rfl, hls2, hkn2, hat2, hmo2⟩; have HLS2 := Lib.hid hls2; have HKN2 := Lib.hid hkn2; have HMO2 := Lib.hid hmo2; clear hls2 hkn2 hat2 hmo2))
            all_goals
              go_roundw
              case rel => exact ⟨k + 1, out2, by rw [MT2.out]; congr 1; omega, by go_num, by omega, HKN2.out, HLS2.out, fun q hq h => HMO2.out q hq (HMO.out q hq h)⟩
              case measure => simp [intOf]; omega
        · obtain rfl : k = n := by omega
          have HQ : Hid (LS B (wr.setCell ⟨go, i, none⟩ (.int .i64 (H i : Nat))) 43 bo bf bk go k cap A s (out'.set i (H i : Nat))) := HLS.out.put HK.out.len i _
          have HM : Hid (((M k : Nat) : Int) + 1 = (H i : Nat)) := by show _ = _; rw [HI.out]; simp
          have HN : Hid (Known k H (out'.set i (H i : Nat))) := HK.out.put hi
          have HE : Hid (out'.length = k) := HK.out.len
          have HPI := HP.out
          generalize wr = WR at *
          go_wp2_with fail
          go_ret
          rw [HM.out]
          refine ⟨_, rfl, HQ.out, HN.out, by rw [getD_setI (by rw [HE.out]; exact hi), if_pos rfl], fun q hq h => ?_⟩
          rw [getD_setI (by rw [HE.out]; exact hi)]
          split
          · omega
          · exact HMO.out q hq h
    · rw [hz] at o3
      have HZ := Lib.hid hz
      have hpos : decide ((H i : Int) > 0) = true := by have := HP.out; simp; omega
      have HPI := HP.out
      clear hz
      go_enter Try.func45, Try.ntmps45
      go_wp2_with fail
      go_ret
      exact ⟨out, rfl, HLS.out, HK.out, HZ.out, fun _ _ h => h⟩
set_option maxRecDepth 100000 in
set_option maxHeartbeats 6400000 in
theorem len_follows (B : World) (bo bf bk go n cap : Nat) (A : Option Addr) (s : Int) (X Y T : Nat → Int) (μ : Nat → Nat) (W : Watch n s X Y T) (hp : IsChs B A n X Y T) (R : Nat → Nat → Bool) (hR : R = onF s X Y T) (D : Down R n μ) :
    ∀ (f i : Nat) (out : List Int) (w : World), i < n → μ i < f → Known n (hgt R n) out → LS B w 27 bo bf bk go n cap A s out →
    Calls Try.prog 45 #[.int .i64 i, .pointer (some ⟨bo, 0, none⟩), .pointer (some ⟨bf, 0, none⟩), .pointer (some ⟨bk, 0, none⟩)] w fun e w' =>
      ∃ out', e = .returned (.int .i64 (hgt R n i : Nat)) ∧ LS B w' 27 bo bf bk go n cap A s out' ∧ Known n (hgt R n) out' ∧ out'.getD i 0 = (hgt R n i : Nat) ∧ ∀ k, k < n → out.getD k 0 ≠ 0 → out'.getD k 0 ≠ 0 := by
  intro f
  induction f with
  | zero => intro i out w _ h; omega
  | succ f ih =>
    intro i out w hi hf hkn hls
    have hn30 := W.n30
    have LD : Hid (∀ (V : World) (k : Nat), k < n → Below B.heap.size B V → Gives Try.prog 27 #[.agg #[.slice A n cap, .int .i64 s], .int .i64 i, .int .i64 k] V (.bool (R i k))) := fun V k hk hb => hR ▸ follows_any s n cap i k A X Y T V hi hk W (hp.below hb)
    have IH := Lib.hid fun k (hk : k < n) (h : R i k = true) out w => ih k out w hk (by have := D.lt i k hi hk h; omega)
    have HI : Hid (hgt R n i = maxTo (R i) (hgt R n) n + 1) := hgt_eq D hi
    have HP : Hid (1 ≤ hgt R n i) := hgt_pos D hi
    have HL := Lib.hid fun k => hgt_le R n k
    have MT := Lib.hid fun k => maxTo_step (p := R i) (g := hgt R n) (k := k)
    have ML : Hid (∀ k, maxTo (R i) (hgt R n) k ≤ n) := fun k => maxTo_le k fun j _ _ => hgt_le R n j
    have M0 : Hid (maxTo (R i) (hgt R n) 0 = 0) := rfl
    generalize maxTo (R i) (hgt R n) = M at *
    generalize hgt R n = H at *
    have HK := Lib.hid hkn
    have HLS := Lib.hid hls
    obtain ⟨x0, _, x2⟩ := box_facts hls.xo
    obtain ⟨o3, o4⟩ := hls.oo.cell hkn.len hi
    have o5 := (own_lt hls.oo go rfl).2
    have o6 := o4 i
    clear ih hkn hls hp W hR D o4
    rcases HK.out.at_ i hi with hz | hz
    · rw [hz] at o3
      have HZ := Lib.hid hz
      clear hz
      go_enter Try.func45, Try.ntmps45
      go_wp2_with fail
      clear x0 x2 o3 o5 o6
      go_loopw [6, 19] (fun u v wr => ∃ (k : Nat) (out' : List Int), u = .int .i64 (M k : Nat) ∧ v = .int .i64 (k : Nat) ∧ k ≤ n ∧ Known n H out' ∧ LS B wr 27 bo bf bk go n cap A s out' ∧ ∀ k, k < n → out.getD k 0 ≠ 0 → out'.getD k 0 ≠ 0) (fun _ v _ => n - (intOf v).toNat)
      case atStart => exact ⟨0, out, by rw [M0.out]; rfl, rfl, by omega, HK.out, HLS.out, fun _ _ h => h⟩
      case round =>
        obtain ⟨k, out', rfl, rfl, hk, hkn, hls, hmo⟩ := hrel
        clear HK HLS
        have HK := Lib.hid hkn
        have HLS := Lib.hid hls
        have HMO := Lib.hid hmo
        obtain ⟨x0, _, x2⟩ := box_facts hls.xo
        obtain ⟨f0, _, f2⟩ := box_facts hls.xf
        obtain ⟨k0, _, k2⟩ := box_facts hls.xk
        have hBw := Lib.hid hls.below
        obtain ⟨o3, o4⟩ := hls.oo.cell hkn.len hi
        have o5 := (own_lt hls.oo go rfl).2
        have o6 := o4 i
        have n1 := hls.ne.1
        have n2 : bo ≠ go := fun e => n1 e.symm
        clear hkn hls hmo o4
        have mk := ML.out k
        by_cases hlt : k < n
        · have LD1 := Lib.hid fun V hb => LD.out V k hlt hb
          have MT1 := Lib.hid (MT.out k)
          cases hr : R i k
          case false =>
            rw [hr] at LD1
            have MT2 : Hid (M (k + 1) = M k) := by show _ = _; rw [MT1.out, hr]; rfl
            clear hr
            go_wp2_with (go_at_call 27; with_reducible refine Calls.mono (Gives.calls (LD1.out _ hBw.out)) ?_; rintro e w1 ⟨rfl, y, rfl⟩)
            go_roundw
            case rel => exact ⟨k + 1, out', by rw [MT2.out], by go_num, by omega, HK.out, HLS.out.later y, HMO.out⟩
            case measure => simp [intOf]; omega
          case true =>
            rw [hr] at LD1
            have MT2 : Hid (M (k + 1) = max (M k) (H k)) := by show _ = _; rw [MT1.out, hr]; rfl
            have IH1 := Lib.hid (IH.out k hlt hr)
            have hk9 := HL.out k
            clear hr
            generalize wr = WR at *
            go_wp2_with (first
              | (go_at_call 27; with_reducible refine Calls.mono (Gives.calls (LD1.out _ hBw.out)) ?_; rintro e w1 ⟨rfl, y, rfl⟩)
              | (go_at_call 45; with_reducible refine Calls.mono (IH1.out _ _ HK.out (HLS.out.later y)) ?_; rintro e w' ⟨out2, rfl, hls2, hkn2, hat2, hmo2⟩; have HLS2 := Lib.hid hls2; have HKN2 := Lib.hid hkn2; have HMO2 := Lib.hid hmo2; clear hls2 hkn2 hat2 hmo2))
            all_goals
              go_roundw
              case rel => exact ⟨k + 1, out2, by rw [MT2.out]; congr 1; omega, by go_num, by omega, HKN2.out, HLS2.out, fun q hq h => HMO2.out q hq (HMO.out q hq h)⟩
              case measure => simp [intOf]; omega
        · obtain rfl : k = n := by omega
          have HQ : Hid (LS B (wr.setCell ⟨go, i, none⟩ (.int .i64 (H i : Nat))) 27 bo bf bk go k cap A s (out'.set i (H i : Nat))) := HLS.out.put HK.out.len i _
          have HM : Hid (((M k : Nat) : Int) + 1 = (H i : Nat)) := by show _ = _; rw [HI.out]; simp
          have HN : Hid (Known k H (out'.set i (H i : Nat))) := HK.out.put hi
          have HE : Hid (out'.length = k) := HK.out.len
          have HPI := HP.out
          generalize wr = WR at *
          go_wp2_with fail
          go_ret
          rw [HM.out]
          refine ⟨_, rfl, HQ.out, HN.out, by rw [getD_setI (by rw [HE.out]; exact hi), if_pos rfl], fun q hq h => ?_⟩
          rw [getD_setI (by rw [HE.out]; exact hi)]
          split
          · omega
          · exact HMO.out q hq h
    · rw [hz] at o3
      have HZ := Lib.hid hz
      have hpos : decide ((H i : Int) > 0) = true := by have := HP.out; simp; omega
      have HPI := HP.out
      clear hz
      go_enter Try.func45, Try.ntmps45
      go_wp2_with fail
      go_ret
      exact ⟨out, rfl, HLS.out, HK.out, HZ.out, fun _ _ h => h⟩
end Go.Proofs.Ytlljjaafejjeeaa
