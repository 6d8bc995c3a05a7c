/- Long, the document's Job, and thatch's IsWork: walked. -/
import Derived.Test.YtjokpangacahgaaTWorkM
import Derived.Test.YtjokpangacahgaaTLayR
namespace Go.Proofs.Ytjokpangacahgaa
open Go.RowKit

def longB (k : Nat) (R : Nat → Row) : Bool := !(decide (k ≤ 2010) && allB k fun i => decide ((R i).n ≤ 15))
theorem long_facts {k : Nat} {R : Nat → Row} (h : longB k R = false) : k ≤ 2010 ∧ ∀ i, i < k → (R i).n ≤ 15 := by
  simp only [longB, Bool.not_eq_false', Bool.and_eq_true, decide_eq_true_eq] at h
  exact ⟨h.1, fun i hi => by simpa using (allB_iff.1 h.2) i hi⟩
set_option maxRecDepth 100000 in
set_option maxHeartbeats 1600000 in
theorem Long_any (k cap : Nat) (A : Option Addr) (R : Nat → Row) (w : World) (hp : IsTab w A k R) : Gives Try.prog 41 #[.slice A k cap] w (.bool (longB k R)) := by
  have HR : Hid (longB k R = !(decide (k ≤ 2010) && allB k fun i => decide ((R i).n ≤ 15))) := rfl
  have HP := Lib.hid hp
  generalize longB k R = res at *
  clear hp
  by_cases h2 : k ≤ 2010
  · have d2 : ¬ (2010 < k) := by omega
    rw [decide_eq_true h2, Bool.true_and] at HR
    go_enter Try.func41, Try.ntmps41
    go_wp2
    go_loopw [3] (fun u wr => ∃ j : Nat, u = .int .i64 (j : Nat) ∧ j ≤ k ∧ (∀ i, i < j → decide ((R i).n ≤ 15) = true) ∧ ∃ x : Later w, wr = x.val) (fun u _ => k - (intOf u).toNat)
    case atStart => exact ⟨0, rfl, by omega, by omega, later_of (by repeat (first | exact Below.refl _ _ | (with_reducible assumption) | apply below_later | apply below_alloc | apply below_drew | apply below_drewN))⟩
    case round =>
      obtain ⟨j, rfl, hj, hall, x, rfl⟩ := hrel
      have HALL := Lib.hid hall
      clear hall
      by_cases hlt : j < k
      · obtain ⟨b, off, hB, hb, hc⟩ := (HP.out.later x).at_ (by omega)
        subst hB
        have cj := hc j hlt
        unfold Row.val at cj
        have FB : Hid (decide ((R j).n ≤ 15) = false → res = true) := fun h => by rw [HR.out, allB_false (p := fun i => decide ((R i).n ≤ 15)) hlt h]; rfl
        have FT : Hid (decide ((R j).n ≤ 15) = true → ∀ i, i < j + 1 → decide ((R i).n ≤ 15) = true) := fun h => all_step (p := fun i => decide ((R i).n ≤ 15)) HALL.out h
        clear hc
        by_cases h3 : (R j).n ≤ 15
        · have d3 : ¬ (15 < (R j).n) := by omega
          have HE := Lib.hid (FT.out (decide_eq_true h3))
          generalize R j = rj at *
          go_wp2
          all_goals
            first
              | (refine ⟨⟨j + 1, by go_num, by omega, HE.out, later_of (by repeat (first | exact Below.refl _ _ | (with_reducible assumption) | apply below_later | apply below_alloc | apply below_drew | apply below_drewN))⟩, ?_⟩; simp [intOf]; omega)
              | (go_roundw
                 case rel => exact ⟨j + 1, by go_num, by omega, HE.out, later_of (by repeat (first | exact Below.refl _ _ | (with_reducible assumption) | apply below_later | apply below_alloc | apply below_drew | apply below_drewN))⟩
                 case measure => simp [intOf]; omega)
        · have d3 : 15 < (R j).n := by omega
          have HE := Lib.hid (FB.out (decide_eq_false h3))
          generalize R j = rj at *
          go_wp2
          go_ret
          exact ⟨ret_bool HE.out.symm, later_of (by repeat (first | exact Below.refl _ _ | (with_reducible assumption) | apply below_later | apply below_alloc | apply below_drew | apply below_drewN))⟩
      · obtain rfl : j = k := by omega
        have HT : Hid (res = false) := by show _ = _; rw [HR.out, allB_true (p := fun i => decide ((R i).n ≤ 15)) HALL.out]; rfl
        go_wp2
        go_ret
        exact ⟨ret_bool HT.out.symm, later_of (by repeat (first | exact Below.refl _ _ | (with_reducible assumption) | apply below_later | apply below_alloc | apply below_drew | apply below_drewN))⟩
  · have d2 : 2010 < k := by omega
    have HT : Hid (res = true) := by show _ = _; rw [HR.out, decide_eq_false h2]; rfl
    go_enter Try.func41, Try.ntmps41
    go_wp2
    go_ret
    exact ⟨ret_bool HT.out.symm, later_of (by repeat (first | exact Below.refl _ _ | (with_reducible assumption) | apply below_later | apply below_alloc | apply below_drew | apply below_drewN))⟩
set_option maxRecDepth 100000 in
set_option maxHeartbeats 1600000 in
theorem rJob_any (n cap : Nat) (A : Option Addr) (f : Nat → Int) (w : World) (hn : n ≤ 9223372036854775807) (hp : IsInts w A n f) : Gives Try.prog 47 #[.slice A n cap] w (.bool (okJob n f)) := by
  have HE : Hid (okJob n f = (inI 1 n 10 && allB n fun i => inI 0 (f i) 100)) := rfl
  have HP := Lib.hid hp
  have B1 := Lib.hid fun V => rfrom_any 1 n 10 V
  have B2 := Lib.hid fun (x : Int) (V : World) => rfrom_any 0 x 100 V
  have HF : Hid (∀ i, i < n → inI 0 (f i) 100 = false → okJob n f = false) := fun i hi h => by rw [HE.out, allB_false (p := fun i => inI 0 (f i) 100) hi h, Bool.and_false]
  have HT : Hid ((∀ i, i < n → inI 0 (f i) 100 = true) → okJob n f = inI 1 n 10) := fun h => by rw [HE.out, allB_true (p := fun i => inI 0 (f i) 100) h, Bool.and_true]
  generalize okJob n f = res at *
  generalize inI 1 n 10 = r1 at *
  clear hp HE
  go_enter Try.func47, Try.ntmps47
  go_wp2
  go_loopw [3] (fun u wr => ∃ k : Nat, u = .int .i64 (k : Nat) ∧ k ≤ n ∧ (∀ i, i < k → inI 0 (f i) 100 = true) ∧ ∃ x : Later w, wr = x.val) (fun u _ => n - (intOf u).toNat)
  case atStart => exact ⟨0, rfl, by omega, by omega, later_of (by repeat (first | exact Below.refl _ _ | (with_reducible assumption) | apply below_later | apply below_alloc | apply below_drew | apply below_drewN))⟩
  case round =>
    obtain ⟨k, rfl, hk, hall, x, rfl⟩ := hrel
    have HALL := Lib.hid hall
    clear hall
    by_cases hlt : k < n
    · obtain ⟨b, off, hB, q⟩ := (HP.out.later x).at_ (by omega)
      subst hB
      have ck := q.at_ k hlt
      have lb := q.lt
      have B2k := Lib.hid fun V => B2.out (f k) V
      have HFk := Lib.hid (HF.out k hlt)
      have HTk : Hid (inI 0 (f k) 100 = true → ∀ i, i < k + 1 → inI 0 (f i) 100 = true) := fun h => all_step (p := fun i => inI 0 (f i) 100) HALL.out h
      clear q
      generalize inI 0 (f k) 100 = r2 at *
      generalize f k = fk at *
      cases r2
      · have HR := Lib.hid (HFk.out rfl)
        go_wp2_with (go_at_call 52; with_reducible refine Calls.mono (Gives.calls (B2k.out _)) ?_; rintro e w1 ⟨rfl, z, rfl⟩)
        go_ret
        exact ⟨ret_bool HR.out.symm, later_of (by repeat (first | exact Below.refl _ _ | (with_reducible assumption) | apply below_later | apply below_alloc | apply below_drew | apply below_drewN))⟩
      · have HR := Lib.hid (HTk.out rfl)
        go_wp2_with (go_at_call 52; with_reducible refine Calls.mono (Gives.calls (B2k.out _)) ?_; rintro e w1 ⟨rfl, z, rfl⟩)
        all_goals
          first
            | (refine ⟨⟨k + 1, by go_num, by omega, HR.out, later_of (by repeat (first | exact Below.refl _ _ | (with_reducible assumption) | apply below_later | apply below_alloc | apply below_drew | apply below_drewN))⟩, ?_⟩; simp [intOf]; omega)
            | (go_roundw
               case rel => exact ⟨k + 1, by go_num, by omega, HR.out, later_of (by repeat (first | exact Below.refl _ _ | (with_reducible assumption) | apply below_later | apply below_alloc | apply below_drew | apply below_drewN))⟩
               case measure => simp [intOf]; omega)
    · obtain rfl : k = n := by omega
      have HR := Lib.hid (HT.out HALL.out)
      go_wp2_with (go_at_call 52; with_reducible refine Calls.mono (Gives.calls (B1.out _)) ?_; rintro e w1 ⟨rfl, z, rfl⟩)
      go_ret
      exact ⟨ret_bool HR.out.symm, later_of (by repeat (first | exact Below.refl _ _ | (with_reducible assumption) | apply below_later | apply below_alloc | apply below_drew | apply below_drewN))⟩
theorem tab_row {V : World} {A : Option Addr} {k : Nat} {R : Nat → Row} (hp : IsTab V A k R) {i : Nat} (hi : i < k) : ∃ b off, A = some ⟨b, off, none⟩ ∧ b < V.heap.size ∧ V.cell? ⟨b, off + i, none⟩ = some (.slice (R i).a (R i).n (R i).c) ∧ IsInts V (R i).a (R i).n (R i).f := by
  obtain ⟨b, off, hA, la, p⟩ := hp.at_ (by omega)
  have ca := p i hi
  unfold Row.val at ca
  exact ⟨b, off, hA, la, ca, (hp.row i hi).1⟩
theorem cast_nat {x : Int} {k : Nat} (h0 : 0 ≤ x) (h1 : x < k) : ∃ q : Nat, x = q ∧ q < k := ⟨x.toNat, by omega, by omega⟩
set_option maxRecDepth 100000 in
theorem IsWork_bad (n cap m cw : Nat) (A B : Option Addr) (f : Nat → Int) (h : Int) (w : World) (hn : n ≤ 9223372036854775807) (hp : IsInts w A n f) (he : jobE n f h ≠ 0) :
    Gives Try.prog 45 #[.slice A n cap, .int .i64 h, .slice B m cw] w (.tuple #[.bool false, .int .i64 (jobE n f h)]) := by
  have CH := Lib.hid fun (V : World) (hb : Below w.heap.size w V) => checkJob_any n cap A f h V hn (hp.below hb)
  generalize jobE n f h = E at *
  have e1 : (E != 0) = true := by simpa using he
  clear hp he
  go_enter Try.func45, Try.ntmps45
  go_wp2_with (go_at_call 66; with_reducible refine Calls.mono (Gives.calls (CH.out _ (by repeat (first | exact Below.refl _ _ | (with_reducible assumption) | apply below_later | apply below_alloc | apply below_drew | apply below_drewN)))) ?_; rintro e w1 ⟨rfl, z, rfl⟩)
  go_ret2
  exact ⟨rfl, later_of (by repeat (first | exact Below.refl _ _ | (with_reducible assumption) | apply below_later | apply below_alloc | apply below_drew | apply below_drewN))⟩
set_option maxRecDepth 100000 in
set_option maxHeartbeats 6400000 in
theorem IsWork_ok (n cap h m cw : Nat) (A B : Option Addr) (g : Nat → Nat) (R : Nat → Row) (w : World) (hp : IsInts w A n fun i => ((g i : Nat) : Int)) (hq : IsTab w B m R) (hr : ∀ i, i < m → (R i).n ≤ 3000) (he : jobE n (fun i => ((g i : Nat) : Int)) h = 0) :
    Gives Try.prog 45 #[.slice A n cap, .int .i64 h, .slice B m cw] w (.tuple #[.bool (isW g n h m R), .int .i64 0]) := by
  obtain ⟨hj, h1, h10⟩ := jobE_ok he
  obtain ⟨⟨n1, n10⟩, hv⟩ := okJob_iff.1 hj
  have hgb : ∀ i, i < n → g i ≤ 100 := fun i hi => by have := (hv i hi).2; omega
  have CH := Lib.hid fun (V : World) (hb : Below w.heap.size w V) => he ▸ checkJob_any n cap A _ h V (by omega) (hp.below hb)
  have HE : Hid (isW g n h m R = (decide (m ≤ 2000) && (allB m (fun i => hourB h n (R i)) && allB n fun c => decide (g c = cW R c m)))) := rfl
  have hms := hq.small
  by_cases hm : m ≤ 2000
  · have hd : decide ((m : Int) > 2000) = false := by simp; omega
    have hd' : decide ((2000 : Int) < (m : Int)) = false := by simp; omega
    have HW : Hid (isW g n h m R = (allB m (fun i => hourB h n (R i)) && allB n fun c => decide (g c = cW R c m))) := by show _ = _; rw [HE.out, decide_eq_true hm]; rfl
    have HF : Hid (∀ i, i < m → hourB h n (R i) = false → isW g n h m R = false) := fun i hi e => by rw [HW.out, allB_false (p := fun i => hourB h n (R i)) hi e]; rfl
    have HT : Hid ((∀ i, i < m → hourB h n (R i) = true) → isW g n h m R = allB n fun c => decide (g c = cW R c m)) := fun e => by rw [HW.out, allB_true (p := fun i => hourB h n (R i)) e]; rfl
    obtain ⟨ba, oa, hA, qa⟩ := hp.at_ (by omega)
    subst hA
    have CL := Lib.hid fun (V : World) (hb : Below w.heap.size w V) => clone_ints ba oa n cap _ V (by omega) (by omega) (show Ints V ba oa n (fun i => ((g i : Nat) : Int)) from qa.later ⟨V, hb⟩)
    have BT := Lib.hid fun (x : Nat) (V : World) => between_any 1 x h V
    have AC := Lib.hid fun (i : Nat) (hi : i < m) (V : World) (hI : IsInts V (R i).a (R i).n (R i).f) => ascend_any (R i).a (R i).n (R i).c (R i).f n V (hr i hi) (by omega) hI
    have WC := Lib.hid fun (V : World) (O : Option Addr) (c : Nat) (l : List Int) (hI : IsInts V O n fun i => l.getD i 0) => wcontains_any n c O _ V (by omega) hI
    have HQ := Lib.hid hq
    have HR := Lib.hid hr
    have HG := Lib.hid hgb
    have CS := Lib.hid fun c j => cW_succ R c j
    have C0 : Hid (∀ c, cW R c 0 = 0) := fun _ => rfl
    generalize isW g n h m R = res at *
    generalize hcw : cW R = cw' at *
    have HCW := Lib.hid hcw
    clear hp hq hr he hj hv hgb HE HW hcw qa
    go_enter Try.func45, Try.ntmps45
    go_wp2_with (first
      | (go_at_call 66; with_reducible refine Calls.mono (Gives.calls (CH.out _ (by repeat (first | exact Below.refl _ _ | (with_reducible assumption) | apply below_later | apply below_alloc | apply below_drew | apply below_drewN)))) ?_; rintro e w1 ⟨rfl, z, rfl⟩)
      | (go_at_call 69; with_reducible refine Calls.mono (GivesI.calls (CL.out _ (by repeat (first | exact Below.refl _ _ | (with_reducible assumption) | apply below_later | apply below_alloc | apply below_drew | apply below_drewN)))) ?_; rintro e w1 ⟨v, rfl, z2, rfl, ho⟩; obtain ⟨go, cgo, rfl, hgo1, hgo2, hgo3⟩ := ho.form (n := n) (by simp) (by omega); have HO := Lib.hid ho; clear ho))
    have HBZ : Hid (Below w.heap.size w z2.val) := by show Below _ _ _; repeat (first | exact Below.refl _ _ | (with_reducible assumption) | apply below_later | apply below_alloc | apply below_drew | apply below_drewN)
    have HGO : Hid (w.heap.size ≤ go) := Nat.le_trans z.ok.size hgo1
    have HO1 : Hid (OwnI z2.val w.heap.size (.slice (some ⟨go, 0, none⟩) n cgo) ((List.range n).map fun i => ((g i : Nat) : Int))) := HO.out.mono z.ok.size
    clear HO CH CL hgo1 hgo3 hgo2
    generalize z2.val = Z at *
    go_loopw [27] (fun u wr => ∃ (j : Nat) (l : List Int), u = .int .i64 (j : Nat) ∧ j ≤ m ∧ l.length = n ∧ (∀ i, i < j → hourB h n (R i) = true) ∧ Below w.heap.size w wr ∧ OwnI wr w.heap.size (.slice (some ⟨go, 0, none⟩) n cgo) l ∧ ∀ c, c < n → l.getD c 0 = ((g c : Nat) : Int) - ((cw' c j : Nat) : Int) ∧ cw' c j ≤ j * 10) (fun u _ => m - (intOf u).toNat)
    case atStart => exact ⟨0, _, rfl, by omega, by simp, by omega, HBZ.out, HO1.out, fun c hc => by rw [C0.out]; simp [List.getD_eq_getElem?_getD, hc]⟩
    case round =>
      obtain ⟨j, l, rfl, hj, hl, hall, hbl, ho, hcs⟩ := hrel
      generalize wr = W1 at *
      have HL := Lib.hid hl
      have HALL := Lib.hid hall
      have HBL := Lib.hid hbl
      have HO := Lib.hid ho
      have HCS := Lib.hid hcs
      clear hl hall ho hcs HO1
      by_cases hlt : j < m
      · obtain ⟨bt, ot, hB, lt, ct, hI⟩ := tab_row (HQ.out.below hbl) hlt
        subst hB
        have HI := Lib.hid hI
        have BTj := Lib.hid fun V => BT.out (R j).n V
        have ACj := Lib.hid fun V hI => AC.out j hlt V hI
        have hrn := HR.out j hlt
        have HFj := Lib.hid (HF.out j hlt)
        have HHB : Hid (hourB h n (R j) = (inI 1 (R j).n h && ascB (R j).n (R j).f n)) := rfl
        have HTj : Hid (hourB h n (R j) = true → ∀ i, i < j + 1 → hourB h n (R i) = true) := fun e => all_step (p := fun i => hourB h n (R i)) HALL.out e
        have HFA : Hid (hourB h n (R j) = true → 1 ≤ (R j).n ∧ ((R j).n : Int) ≤ h ∧ (∀ i, i < (R j).n → 0 ≤ (R j).f i ∧ (R j).f i < n)) := fun e => by obtain ⟨e1, e2, e3, _⟩ := hourB_facts e; exact ⟨e1, e2, e3⟩
        have CSj : Hid (∀ c, cw' c (j + 1) = cw' c j + rcnt (R j).f c (R j).n) := fun c => CS.out c j
        have RL := Lib.hid fun c q => rcnt_le (R j).f c q
        have RS := Lib.hid fun c q => rcnt_succ (R j).f c q
        have R0 : Hid (∀ c, rcnt (R j).f c 0 = 0) := fun _ => rfl
        have HCT : Hid (∀ V, Below W1.heap.size W1 V → V.cell? ⟨bt, ot + j, none⟩ = some (.slice (R j).a (R j).n (R j).c) ∧ bt < V.heap.size) := fun V hV => ⟨(hV.cell (p := ⟨bt, ot + j, none⟩) lt).trans ct, Nat.lt_of_lt_of_le lt hV.size⟩
        have HIR : Hid (IsInts w (R j).a (R j).n (R j).f) := (HQ.out.row j hlt).1
        clear hI hbl
        generalize hourB h n (R j) = hb at *
        generalize rcnt (R j).f = rc at *
        generalize R j = rj at *
        generalize inI 1 rj.n h = r1 at *
        generalize ascB rj.n rj.f n = r2 at *
        have HBV : Hid (∀ V, Below W1.heap.size W1 V → Below w.heap.size w V) := fun V hV => below_more HBL.out hV
        cases r1
        · have HE : Hid (res = false) := HFj.out (by rw [HHB.out]; rfl)
          go_wp2_with (first | (go_at_call 50; with_reducible refine Calls.mono (Gives.calls (BTj.out _)) ?_; rintro e w1 ⟨rfl, y1, rfl⟩) | (go_at_call 64; with_reducible refine Calls.mono (Gives.calls (ACj.out _ (HI.out.below (by repeat (first | exact Below.refl _ _ | (with_reducible assumption) | apply below_later | apply below_alloc | apply below_drew | apply below_drewN))))) ?_; rintro e w1 ⟨rfl, y2, rfl⟩))
          go_ret2
          exact ⟨by rw [HE.out]; rfl, later_of (HBV.out _ (by repeat (first | exact Below.refl _ _ | (with_reducible assumption) | apply below_later | apply below_alloc | apply below_drew | apply below_drewN)))⟩
        cases r2
        · have HE : Hid (res = false) := HFj.out (by rw [HHB.out]; rfl)
          go_wp2_with (first | (go_at_call 50; with_reducible refine Calls.mono (Gives.calls (BTj.out _)) ?_; rintro e w1 ⟨rfl, y1, rfl⟩) | (go_at_call 64; with_reducible refine Calls.mono (Gives.calls (ACj.out _ (HI.out.below (by repeat (first | exact Below.refl _ _ | (with_reducible assumption) | apply below_later | apply below_alloc | apply below_drew | apply below_drewN))))) ?_; rintro e w1 ⟨rfl, y2, rfl⟩))
          go_ret2
          exact ⟨by rw [HE.out]; rfl, later_of (HBV.out _ (by repeat (first | exact Below.refl _ _ | (with_reducible assumption) | apply below_later | apply below_alloc | apply below_drew | apply below_drewN)))⟩
        have hbt : hb = true := by rw [HHB.out]; rfl
        obtain ⟨hr1, hr2, hr3⟩ := HFA.out hbt
        have HN := Lib.hid (HTj.out hbt)
        have HR3 := Lib.hid hr3
        have hrn10 : rj.n ≤ 10 := by omega
        clear hbt hr3 HFj HFA HTj HHB
        go_wp2_with (first | (go_at_call 50; with_reducible refine Calls.mono (Gives.calls (BTj.out _)) ?_; rintro e w1 ⟨rfl, y1, rfl⟩) | (go_at_call 64; with_reducible refine Calls.mono (Gives.calls (ACj.out _ (HI.out.below (by repeat (first | exact Below.refl _ _ | (with_reducible assumption) | apply below_later | apply below_alloc | apply below_drew | apply below_drewN))))) ?_; rintro e w1 ⟨rfl, y2, rfl⟩))
        have HB2 : Hid (Below W1.heap.size W1 y2.val) := by show Below _ _ _; repeat (first | exact Below.refl _ _ | (with_reducible assumption) | apply below_later | apply below_alloc | apply below_drew | apply below_drewN)
        have HO2 := Lib.hid (HO.out.later ⟨y2.val, HB2.out⟩)
        generalize y2.val = W2 at *
        go_loopw [45] (fun u wr => ∃ (q : Nat) (l2 : List Int), u = .int .i64 (q : Nat) ∧ q ≤ rj.n ∧ l2.length = n ∧ Below w.heap.size w wr ∧ OwnI wr w.heap.size (.slice (some ⟨go, 0, none⟩) n cgo) l2 ∧ ∀ c, c < n → l2.getD c 0 = ((g c : Nat) : Int) - ((cw' c j + rc c q : Nat) : Int)) (fun u _ => rj.n - (intOf u).toNat)
        case atStart => exact ⟨0, l, rfl, by omega, HL.out, HBV.out _ HB2.out, HO2.out, fun c hc => by rw [R0.out, Nat.add_zero]; exact (HCS.out c hc).1⟩
        case round =>
          obtain ⟨q, l2, rfl, hq, hl2, hbl2, ho2, hcs2⟩ := hrel
          have HL2 := Lib.hid hl2
          have HBL2 := Lib.hid hbl2
          have HO3 := Lib.hid ho2
          have HCS2 := Lib.hid hcs2
          clear hl2 ho2 hcs2
          by_cases hq2 : q < rj.n
          · obtain ⟨c0, c1⟩ := HR3.out q hq2
            obtain ⟨c, hc, hcn⟩ := cast_nat c0 c1
            obtain ⟨br, or', hra, qr⟩ := (HIR.out.below hbl2).at_ (by omega)
            have HRA := Lib.hid hra
            have cr := qr.at_ q hq2
            have lr := qr.lt
            rw [hc] at cr
            obtain ⟨o3, o4⟩ := HO3.out.cell HL2.out hcn
            have o5 := (own_lt HO3.out go rfl).2
            have o6 := o4 c
            have hv := HCS2.out c hcn
            rw [hv] at o3
            have b1 := HG.out c hcn
            have b2 := (HCS.out c hcn).2
            have b3 := RL.out c q
            have b4 : j * 10 ≤ 20000 := by omega
            have HSET : Hid (∀ d, d < n → (l2.set c (((g c : Nat) : Int) - ((cw' c j + rc c q : Nat) : Int) - 1)).getD d 0 = ((g d : Nat) : Int) - ((cw' d j + rc d (q + 1) : Nat) : Int)) := fun d hd => by
              rw [getD_setL (by rw [HL2.out]; exact hcn), RS.out]
              by_cases e : d = c
              · subst e
                rw [if_pos rfl, if_pos hc]
                omega
              · rw [if_neg e, if_neg (by rw [hc]; omega), HCS2.out d hd]
                omega
            have b5 : cw' c j + rc c q ≤ 20010 := by omega
            clear hc c0 c1 o4 qr hbl2 hv
            generalize cw' c j + rc c q = tot at *
            generalize g c = gc at *
            rw [hra]
            obtain ⟨v9, hv9⟩ : ∃ v9 : Int, (gc : Int) - (tot : Int) - 1 = v9 := ⟨_, rfl⟩
            have hw9 : IntKind.i64.wrap ((gc : Int) - (tot : Int) - 1) = v9 := by rw [hv9]; exact IntWalk.i64_in _ ⟨by omega, by omega⟩
            rw [hv9] at HSET
            clear hv9
            go_wp2_with fail
            all_goals
              first
                | (refine ⟨⟨q + 1, l2.set c v9, by go_num, by omega, by rw [List.length_set]; exact HL2.out, HBL2.out.setCell (p := ⟨go, c, none⟩) HGO.out _, HO3.out.set HL2.out c _, HSET.out⟩, ?_⟩; simp [intOf]; omega)
                | (go_roundw
                   case rel => exact ⟨q + 1, l2.set c v9, by go_num, by omega, by rw [List.length_set]; exact HL2.out, HBL2.out.setCell (p := ⟨go, c, none⟩) HGO.out _, HO3.out.set HL2.out c _, HSET.out⟩
                   case measure => simp [intOf]; omega)
          · obtain rfl : q = rj.n := by omega
            have HEND : Hid (∀ c, c < n → l2.getD c 0 = ((g c : Nat) : Int) - ((cw' c (j + 1) : Nat) : Int) ∧ cw' c (j + 1) ≤ (j + 1) * 10) := fun c hc => ⟨by rw [HCS2.out c hc, CSj.out], by rw [CSj.out]; have := (HCS.out c hc).2; have := RL.out c rj.n; omega⟩
            go_wp2_with fail
            all_goals
              first
                | (refine ⟨⟨j + 1, l2, by go_num, by omega, HL2.out, HN.out, HBL2.out, HO3.out, HEND.out⟩, ?_⟩; simp [intOf]; omega)
                | (go_roundw
                   case rel => exact ⟨j + 1, l2, by go_num, by omega, HL2.out, HN.out, HBL2.out, HO3.out, HEND.out⟩
                   case measure => simp [intOf]; omega)
      · obtain rfl : j = m := by omega
        have IO := Lib.hid (HO.out.ints (by rw [HL.out]; omega)).2
        have WC1 := Lib.hid fun V hI => WC.out V (some ⟨go, 0, none⟩) cgo l hI
        have HRES : Hid ((!(!allB n fun k => !notZero (l.getD k 0))) = res) := by
          show _ = _
          rw [HT.out HALL.out, Bool.not_not, Bool.eq_iff_iff, allB_iff, allB_iff]
          constructor
          · intro e c hc
            have h1 := e c hc
            have h2 := (HCS.out c hc).1
            simp only [notZero, Bool.not_eq_true', bne_eq_false_iff_eq] at h1
            rw [decide_eq_true_eq]
            omega
          · intro e c hc
            have h1 := e c hc
            have h2 := (HCS.out c hc).1
            rw [decide_eq_true_eq] at h1
            simp only [notZero, Bool.not_eq_true', bne_eq_false_iff_eq]
            omega
        generalize (!allB n fun k => !notZero (l.getD k 0)) = rr at *
        clear hbl
        go_wp2_with (go_at_call 71; with_reducible refine Calls.mono (Gives.calls (WC1.out _ (IO.out.below (by repeat (first | exact Below.refl _ _ | (with_reducible assumption) | apply below_later | apply below_alloc | apply below_drew | apply below_drewN))))) ?_; rintro e w1 ⟨rfl, y9, rfl⟩)
        go_ret2
        exact ⟨by rw [← HRES.out]; rfl, later_of (below_more HBL.out (by repeat (first | exact Below.refl _ _ | (with_reducible assumption) | apply below_later | apply below_alloc | apply below_drew | apply below_drewN)))⟩
  · have hd : decide ((m : Int) > 2000) = true := by simp; omega
    have hd' : decide ((2000 : Int) < (m : Int)) = true := by simp; omega
    have HR : Hid (isW g n h m R = false) := by show _ = _; rw [HE.out, decide_eq_false hm]; rfl
    generalize isW g n h m R = res at *
    clear hp hq hr he hj hv hgb HE
    go_enter Try.func45, Try.ntmps45
    go_wp2_with (go_at_call 66; with_reducible refine Calls.mono (Gives.calls (CH.out _ (by repeat (first | exact Below.refl _ _ | (with_reducible assumption) | apply below_later | apply below_alloc | apply below_drew | apply below_drewN)))) ?_; rintro e w1 ⟨rfl, z, rfl⟩)
    go_ret2
    exact ⟨by rw [HR.out]; rfl, later_of (by repeat (first | exact Below.refl _ _ | (with_reducible assumption) | apply below_later | apply below_alloc | apply below_drew | apply below_drewN))⟩
end Go.Proofs.Ytjokpangacahgaa
