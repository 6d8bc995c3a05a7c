/- The document's layers over all inches: walked. -/
import Derived.Test.YtjokpangacahgaaTAwake
namespace Go.Proofs.Ytjokpangacahgaa
open Go.RowKit

theorem layN_succ (G R j : Nat) (f : Nat → Nat) (i k : Nat) : layN G R j f i (k + 1) = layN G R j f i k + (if liesB G R j f i k then 1 else 0) := rfl
def layL (G R j S : Nat) (f : Nat → Nat) (k : Nat) : List Int := (List.range S).map fun i => ((layN G R j f i k : Nat) : Int)
theorem layL_length (G R j S : Nat) (f : Nat → Nat) (k : Nat) : (layL G R j S f k).length = S := by simp [layL]
theorem layL_of {G R j S : Nat} {f : Nat → Nat} {k : Nat} {l : List Int} (hl : l.length = S) (h : ∀ i, i < S → l.getD i 0 = ((layN G R j f i k : Nat) : Int)) : l = layL G R j S f k := by
  apply List.ext_getElem
  · rw [hl, layL_length]
  · intro i h1 h2
    have h3 := h i (by omega)
    simp only [List.getD_eq_getElem?_getD, List.getElem?_eq_getElem h1, Option.getD_some] at h3
    rw [h3]
    simp [layL]
theorem layL_get {G R j S : Nat} {f : Nat → Nat} {k i : Nat} (h : i < S) : (layL G R j S f k).getD i 0 = ((layN G R j f i k : Nat) : Int) := by
  simp [layL, List.getD_eq_getElem?_getD, h]
theorem getD_setL {l : List Int} {i j : Nat} {x d : Int} (hi : i < l.length) : (l.set i x).getD j d = if j = i then x else l.getD j d := by
  rw [List.getD_eq_getElem?_getD, List.getElem?_set, List.getD_eq_getElem?_getD]
  by_cases e : i = j
  · subst e; rw [if_pos rfl, if_pos rfl, if_pos hi]; rfl
  · rw [if_neg e, if_neg (by omega)]
theorem has_here {n p k : Nat} {f : Nat → Nat} (h1 : ∀ j, j < p → f j < k) (h2 : ∀ j, p ≤ j → j < n → k ≤ f j) (hm : ∀ i, i + 1 < n → f i < f (i + 1)) : hasN f k n = true ↔ p < n ∧ f p = k := by
  rw [hasN_iff]
  constructor
  · rintro ⟨j, hj, e⟩
    rcases Nat.lt_or_ge j p with h | h
    · have := h1 j h; omega
    · have hp : p < n := by omega
      refine ⟨hp, ?_⟩
      rcases Nat.lt_or_ge p j with h3 | h3
      · have := h2 p (Nat.le_refl _) hp
        have hasc : ∀ d, p + d < n → f p + d ≤ f (p + d) := by
          intro d
          induction d with
          | zero => intro _; exact Nat.le_refl _
          | succ d ih => intro hd; have := ih (by omega); have := hm (p + d) (by omega); show f p + (d + 1) ≤ f (p + d + 1); omega
        have := hasc (j - p) (by omega)
        rw [show p + (j - p) = j by omega] at this
        omega
      · obtain rfl : p = j := by omega
        exact e
  · rintro ⟨hp, e⟩
    exact ⟨p, hp, e⟩
set_option maxRecDepth 100000 in
set_option maxHeartbeats 6400000 in
theorem rlayers_any (S G R n cap : Nat) (A : Option Addr) (f : Nat → Nat) (w : World) (C : Ct S G R n f) (hp : IsInts w A n fun j => ((f j : Nat) : Int)) :
    GivesI 63 #[coatV S G R A n cap] w (layL G R n S f (upN S G)) := by
  have hS := C.hs
  have hG := C.hg
  have hR := C.hr
  have hn := C.hn
  have hup := C.mis.up
  have hN : upN S G ≤ 5200 := Nat.le_trans (Nat.div_le_self _ _) (by omega)
  have CO := Lib.hid fun V => rcourses_any S G R A n cap V (by omega) hG
  have HLT := Lib.hid fun k (hk : k < upN S G) => (lt_upN_iff (n := S) hG.1).1 hk
  have LS := Lib.hid fun i k => layN_succ G R n f i k
  have LB := Lib.hid fun i k => cntN_le (liesB G R n f i) k
  have L0 : Hid (∀ i, layN G R n f i 0 = 0) := fun _ => rfl
  have LH : Hid (∀ i k, hasN f k n = true → liesB G R n f i k = false) := fun i k h => by unfold liesB; rw [h]; simp
  have LN : Hid (∀ i k, hasN f k n = false → (liesB G R n f i k = true ↔ k * G ≤ i ∧ i < k * G + R)) := fun i k h => by unfold liesB; rw [h]; simp
  have LE : Hid (∀ l : List Int, l.length = S → (∀ i, i < S → l.getD i 0 = ((layN G R n f i (upN S G) : Nat) : Int)) → l = layL G R n S f (upN S G)) := fun l h1 h2 => layL_of h1 h2
  have HH := Lib.hid fun (p k : Nat) (h1 : ∀ j, j < p → f j < k) (h2 : ∀ j, p ≤ j → j < n → k ≤ f j) => has_here h1 h2 hup
  have HUP := Lib.hid hup
  have LB2 : Hid (∀ i k, layN G R n f i k ≤ k) := fun i k => LB.out i k
  generalize layL G R n S f (upN S G) = res at *
  generalize liesB G R n f = lies at *
  generalize layN G R n f = lay at *
  generalize upN S G = N at *
  clear LB hup
  have HP := Lib.hid hp
  have hbx : Below w.heap.size w (w.alloc (.cells #[.int .i64 S, .int .i64 G, .int .i64 R, .slice A n cap] 50)) := (Below.refl _ _).alloc (Nat.le_refl _) _
  have HB := Lib.hid hbx
  obtain ⟨⟨x0, x1, x2, x3⟩, lx⟩ := coat_at (w := w) (s := (S : Int)) (g := (G : Int)) (r := (R : Int)) (A := A) (n := n) (c := cap) (Below.refl _ _)
  have MK : ∀ w', (Instr.makeSlice 48 (.int .i64 (S : Int)) (.int .i64 (S : Int))).run Try.prog w' = .ok (.slice (some ⟨w'.heap.size, 0, none⟩) S S) (w'.alloc (.cells (madeCells #[Value.int .i64 0] S) 3)) := fun w' => make_ints w' S (by omega)
  clear hp hbx C
  unfold coatV at CO ⊢
  go_enter Try.func63, Try.ntmps63
  go_wp2_with fail
  obtain ⟨b8, hb8⟩ : ∃ b8, w.heap.size = b8 := ⟨_, rfl⟩
  have HB8 := Lib.hid hb8
  rw [hb8] at x0 x1 x2 x3 lx
  try rw [hb8]
  clear hb8
  obtain ⟨Z, hZ⟩ : ∃ Z, w.alloc (.cells #[.int .i64 S, .int .i64 G, .int .i64 R, .slice A n cap] 50) = Z := ⟨_, rfl⟩
  have hsz : w.heap.size + 1 = Z.heap.size := by rw [← hZ]; simp
  have HWZ := Lib.hid (Nat.le_of_lt (show w.heap.size < Z.heap.size by omega))
  rw [hZ] at HB x0 x1 x2 x3 lx
  have HM := Lib.hid (made_own Z S Z.heap.size (Nat.le_refl _) (by omega))
  have HB1 : Hid (Below Z.heap.size Z (Z.alloc (.cells (madeCells #[Value.int .i64 0] S) 3))) := (Below.refl _ _).alloc (Nat.le_refl _) _
  rw [hZ]
  try rw [hsz]
  try rw [show b8 + 1 = Z.heap.size by rw [← hsz, HB8.out]]
  have HX : Hid (∀ V, Below Z.heap.size Z V → (V.cell? ⟨b8, 0, none⟩ = some (.int .i64 S) ∧ V.cell? ⟨b8, 1, none⟩ = some (.int .i64 G) ∧ V.cell? ⟨b8, 2, none⟩ = some (.int .i64 R) ∧ V.cell? ⟨b8, 3, none⟩ = some (.slice A n cap)) ∧ b8 < V.heap.size) := fun V h =>
    ⟨⟨(h.cell (p := ⟨b8, 0, none⟩) lx).trans x0, (h.cell (p := ⟨b8, 1, none⟩) lx).trans x1, (h.cell (p := ⟨b8, 2, none⟩) lx).trans x2, (h.cell (p := ⟨b8, 3, none⟩) lx).trans x3⟩, Nat.lt_of_lt_of_le lx h.size⟩
  obtain ⟨go, hgo⟩ : ∃ go, Z.heap.size = go := ⟨_, rfl⟩
  have HG : Hid (Z.heap.size ≤ go) := Nat.le_of_eq hgo
  have HM2 : Hid (OwnI (Z.alloc (.cells (madeCells #[Value.int .i64 0] S) 3)) Z.heap.size (.slice (some ⟨go, 0, none⟩) S S) (List.replicate S 0)) := by
    have := HM.out
    rw [hgo] at this ⊢
    exact this
  rw [hgo]
  clear hgo hsz hZ MK HM x0 x1 x2 x3 lx
  generalize Z.alloc (.cells (madeCells #[Value.int .i64 0] S) 3) = Z1 at *
  go_loopw [4, 5] (fun u4 u5 wr => ∃ (p k : Nat) (l : List Int), u4 = .int .i64 (p : Nat) ∧ u5 = .int .i64 (k : Nat) ∧ p ≤ n ∧ k ≤ N ∧ (∀ j, j < p → f j < k) ∧ (∀ j, p ≤ j → j < n → k ≤ f j) ∧ l.length = S ∧ Below Z.heap.size Z wr ∧ OwnI wr Z.heap.size (.slice (some ⟨go, 0, none⟩) S S) l ∧ ∀ i, i < S → l.getD i 0 = ((lay i k : Nat) : Int)) (fun _ u5 _ => N - (intOf u5).toNat)
  case atStart => exact ⟨0, 0, _, rfl, rfl, by omega, by omega, by omega, by omega, by simp, HB1.out, HM2.out, fun i hi => by rw [L0.out, List.getD_eq_getElem?_getD]; simp [hi]⟩
  case round =>
    obtain ⟨p, k, l, rfl, rfl, hpn, hk, h1, h2, hl, hbl, ho, hall⟩ := hrel
    generalize wr = W1 at *
    clear HM2 HB1
    have H1 := Lib.hid h1
    have H2 := Lib.hid h2
    have HL := Lib.hid hl
    have HBL := Lib.hid hbl
    have HO := Lib.hid ho
    have HALL := Lib.hid hall
    have HHP := Lib.hid (HH.out p k h1 h2)
    obtain ⟨⟨y0, y1, y2, y3⟩, ly⟩ := HX.out W1 hbl
    have HBV : Hid (∀ V, Below W1.heap.size W1 V → Below Z.heap.size Z V) := fun V h => below_more HBL.out h
    clear h1 h2 hl ho hall hbl
    by_cases hlt : k < N
    · have hkg := HLT.out k hlt
      by_cases hc : p < n ∧ f p = k
      · obtain ⟨bb, oo, hA, q⟩ := (HP.out.below (below_more HB.out HBL.out)).at_ (by omega)
        have HA := Lib.hid hA
        have cj := q.at_ p hc.1
        have lq := q.lt
        rw [hc.2] at cj
        have hpl := hc.1
        have HHT := Lib.hid (HHP.out.2 hc)
        have HN2 : Hid ((∀ j, j < p + 1 → f j < k + 1) ∧ ∀ j, p + 1 ≤ j → j < n → k + 1 ≤ f j) := ⟨fun j hj => by
          rcases Nat.lt_or_ge j p with h | h
          · have := H1.out j h; omega
          · obtain rfl : j = p := by omega
            omega, fun j hj hjn => by
          have hasc : ∀ d, p + d < n → f p + d ≤ f (p + d) := by
            intro d
            induction d with
            | zero => intro _; exact Nat.le_refl _
            | succ d ih => intro hd; have := ih (by omega); have := HUP.out (p + d) (by omega); show f p + (d + 1) ≤ f (p + d + 1); omega
          have := hasc (j - p) (by omega)
          rw [show p + (j - p) = j by omega] at this
          omega⟩
        have HLA : Hid (∀ i, lay i (k + 1) = lay i k) := fun i => by rw [LS.out, LH.out i k HHT.out]; rfl
        rw [hA] at y3 CO
        clear q hA hc
        have HX2 := Lib.hid fun V (h : Below W1.heap.size W1 V) => HX.out V (HBV.out V h)
        rw [HA.out] at HX2
        have HC2 : Hid (∀ V, Below W1.heap.size W1 V → V.cell? ⟨bb, oo + p, none⟩ = some (.int .i64 k) ∧ bb < V.heap.size) := fun V h => ⟨(h.cell (p := ⟨bb, oo + p, none⟩) lq).trans cj, Nat.lt_of_lt_of_le lq h.size⟩
        go_wp2_with ((go_at_call 61; with_reducible refine Calls.mono (Gives.calls (CO.out _)) ?_; rintro e w1 ⟨rfl, z, rfl⟩); obtain ⟨⟨v0, v1, v2, v3⟩, lv⟩ := HX2.out z.val (by repeat (first | exact Below.refl _ _ | (with_reducible assumption) | apply below_later | apply below_alloc | apply below_drew | apply below_drewN)); obtain ⟨v4, lv4⟩ := HC2.out z.val (by repeat (first | exact Below.refl _ _ | (with_reducible assumption) | apply below_later | apply below_alloc | apply below_drew | apply below_drewN)))
        try rw [HA.out]
        all_goals
          first
            | (refine ⟨⟨p + 1, k + 1, l, by go_num, by go_num, by omega, by omega, HN2.out.1, HN2.out.2, HL.out, HBV.out z.val (by repeat (first | exact Below.refl _ _ | (with_reducible assumption) | apply below_later | apply below_alloc | apply below_drew | apply below_drewN)), HO.out.later z, fun i hi => by rw [HLA.out]; exact HALL.out i hi⟩, ?_⟩; simp [intOf]; omega)
            | (go_roundw
               case rel => exact ⟨p + 1, k + 1, l, by go_num, by go_num, by omega, by omega, HN2.out.1, HN2.out.2, HL.out, HBV.out z.val (by repeat (first | exact Below.refl _ _ | (with_reducible assumption) | apply below_later | apply below_alloc | apply below_drew | apply below_drewN)), HO.out.later z, fun i hi => by rw [HLA.out]; exact HALL.out i hi⟩
               case measure => simp [intOf]; omega)
      · have HHF : Hid (hasN f k n = false) := by
          show _ = _
          cases hh : hasN f k n
          · rfl
          · exact absurd (HHP.out.1 hh) hc
        have hkgm : k * G ≤ 520000 := mul_le3 (m := 5200) (n := 100) (by omega) hG.2
        have em := wrap_mul_nat (show k * G ≤ 520000 from hkgm) (by omega)
        have LNk := Lib.hid fun i => LN.out i k HHF.out
        have LSk := Lib.hid fun i => LS.out i k
        have LBk := Lib.hid fun i => LB2.out i k
        have HN2 : Hid ((∀ j, j < p → f j < k + 1) ∧ ∀ j, p ≤ j → j < n → k + 1 ≤ f j) := ⟨fun j hj => by have := H1.out j hj; omega, fun j hj hjn => by
          have a1 := H2.out j hj hjn
          rcases Nat.lt_or_ge k (f j) with h | h
          · omega
          · exfalso
            have : hasN f k n = true := hasN_iff.2 ⟨j, hjn, by omega⟩
            rw [HHF.out] at this
            cases this⟩
        generalize k * G = kg at *
        have HX2 := Lib.hid fun V (h : Below W1.heap.size W1 V) => HX.out V (HBV.out V h)
        have HPV : Hid (p < n → ∃ bb oo x, A = some ⟨bb, oo, none⟩ ∧ x ≠ k ∧ ∀ V, Below W1.heap.size W1 V → V.cell? ⟨bb, oo + p, none⟩ = some (.int .i64 (x : Nat)) ∧ bb < V.heap.size) := fun hpl => by
          obtain ⟨bb, oo, hA, q⟩ := (HP.out.below (below_more HB.out HBL.out)).at_ (by omega)
          exact ⟨bb, oo, f p, hA, fun e => hc ⟨hpl, e⟩, fun V h => ⟨(h.cell (p := ⟨bb, oo + p, none⟩) q.lt).trans (q.at_ p hpl), Nat.lt_of_lt_of_le q.lt h.size⟩⟩
        clear hc HHP
        by_cases hpl : p < n
        · obtain ⟨bb, oo, x, hA, hxk, hcx⟩ := HPV.out hpl
          have HCX := Lib.hid hcx
          subst hA
          have ex : ((x : Int) == (k : Int)) = false := by simp; omega
          clear hcx hxk HPV
          go_wp2_with ((go_at_call 61; with_reducible refine Calls.mono (Gives.calls (CO.out _)) ?_; rintro e w1 ⟨rfl, z, rfl⟩); obtain ⟨⟨v0, v1, v2, v3⟩, lv⟩ := HX2.out z.val (by repeat (first | exact Below.refl _ _ | (with_reducible assumption) | apply below_later | apply below_alloc | apply below_drew | apply below_drewN)); obtain ⟨v4, lv4⟩ := HCX.out z.val (by repeat (first | exact Below.refl _ _ | (with_reducible assumption) | apply below_later | apply below_alloc | apply below_drew | apply below_drewN)))
          go_loopw [6] (fun u6 wr => ∃ (q : Nat) (l2 : List Int), u6 = .int .i64 (q : Nat) ∧ kg ≤ q ∧ q ≤ S ∧ q ≤ kg + R ∧ l2.length = S ∧ Below Z.heap.size Z wr ∧ OwnI wr Z.heap.size (.slice (some ⟨go, 0, none⟩) S S) l2 ∧ ∀ i, i < S → l2.getD i 0 = ((lay i k + (if kg ≤ i ∧ i < q then 1 else 0) : Nat) : Int)) (fun u6 _ => S - (intOf u6).toNat)
          case atStart => exact ⟨kg, l, rfl, by omega, by omega, by omega, HL.out, HBV.out z.val (by repeat (first | exact Below.refl _ _ | (with_reducible assumption) | apply below_later | apply below_alloc | apply below_drew | apply below_drewN)), HO.out.later z, fun i hi => by rw [if_neg (by omega)]; exact HALL.out i hi⟩
          case round =>
            obtain ⟨q, l2, rfl, hq0, hq1, hq2, hl2, hbl2, ho2, hall2⟩ := hrel
            have HL2 := Lib.hid hl2
            have HBL2 := Lib.hid hbl2
            have HO2 := Lib.hid ho2
            have HALL2 := Lib.hid hall2
            obtain ⟨⟨g0, g1, g2, g3⟩, lg⟩ := HX.out wr hbl2
            clear hl2 ho2 hall2 hbl2
            by_cases hin : q < kg + R ∧ q < S
            · obtain ⟨o3, o4⟩ := HO2.out.cell HL2.out hin.2
              have o5 := (own_lt HO2.out go rfl).2
              have o6 := o4 q
              have hv := HALL2.out q hin.2
              rw [if_neg (by omega)] at hv
              rw [hv] at o3
              have hlb := LBk.out q
              have HV := Lib.hid hv
              have hq3 := hin.1
              have hq4 := hin.2
              have HSET : Hid (∀ i, i < S → (l2.set q ((lay q k + 1 : Nat) : Int)).getD i 0 = ((lay i k + (if kg ≤ i ∧ i < q + 1 then 1 else 0) : Nat) : Int)) := fun i hi => by
                rw [getD_setL (by rw [HL2.out]; exact hq4)]
                by_cases e : i = q
                · subst e
                  rw [if_pos rfl, if_pos (by omega)]
                · rw [if_neg e, HALL2.out i hi]
                  by_cases e2 : kg ≤ i ∧ i < q
                  · rw [if_pos e2, if_pos (by omega)]
                  · rw [if_neg e2, if_neg (by omega)]
              clear hv hin o4
              generalize lay q k = lq2 at *
              have hw2 : IntKind.i64.wrap ((lq2 : Int) + ((0 : Nat) : Int) + 1) = ((lq2 + 1 : Nat) : Int) := by rw [show ((lq2 : Int) + ((0 : Nat) : Int) + 1) = ((lq2 + 1 : Nat) : Int) by omega]; exact i64_nat (by omega)
              have hw1 : IntKind.i64.wrap ((lq2 : Int) + 1) = ((lq2 + 1 : Nat) : Int) := by rw [show ((lq2 : Int) + 1) = ((lq2 + 1 : Nat) : Int) by omega]; exact i64_nat (by omega)
              rw [Nat.add_zero] at o3
              go_wp2_with fail
              all_goals
                first
                  | (refine ⟨⟨q + 1, l2.set q ((lq2 + 1 : Nat) : Int), by go_num, by omega, by omega, by omega, by rw [List.length_set]; exact HL2.out, HBL2.out.setCell (p := ⟨go, q, none⟩) HG.out _, HO2.out.set HL2.out q _, HSET.out⟩, ?_⟩; simp [intOf]; omega)
                  | (go_roundw
                     case rel => exact ⟨q + 1, l2.set q ((lq2 + 1 : Nat) : Int), by go_num, by omega, by omega, by omega, by rw [List.length_set]; exact HL2.out, HBL2.out.setCell (p := ⟨go, q, none⟩) HG.out _, HO2.out.set HL2.out q _, HSET.out⟩
                     case measure => simp [intOf]; omega)
            · have HFIN : Hid (∀ i, i < S → l2.getD i 0 = ((lay i (k + 1) : Nat) : Int)) := fun i hi => by
                rw [HALL2.out i hi, LSk.out i]
                by_cases e : kg ≤ i ∧ i < kg + R
                · rw [if_pos ⟨e.1, by omega⟩, if_pos ((LNk.out i).2 e)]
                · rw [if_neg (by omega), if_neg (fun h => e ((LNk.out i).1 h))]
              by_cases hq5 : q < kg + R
              · have hq6 : ¬ q < S := by omega
                clear hin
                go_wp2_with fail
                all_goals
                  first
                    | (refine ⟨⟨p, k + 1, l2, rfl, by go_num, by omega, by omega, HN2.out.1, HN2.out.2, HL2.out, HBL2.out, HO2.out, HFIN.out⟩, ?_⟩; simp [intOf]; omega)
                    | (go_roundw
                       case rel => exact ⟨p, k + 1, l2, rfl, by go_num, by omega, by omega, HN2.out.1, HN2.out.2, HL2.out, HBL2.out, HO2.out, HFIN.out⟩
                       case measure => simp [intOf]; omega)
              · clear hin
                go_wp2_with fail
                all_goals
                  first
                    | (refine ⟨⟨p, k + 1, l2, rfl, by go_num, by omega, by omega, HN2.out.1, HN2.out.2, HL2.out, HBL2.out, HO2.out, HFIN.out⟩, ?_⟩; simp [intOf]; omega)
                    | (go_roundw
                       case rel => exact ⟨p, k + 1, l2, rfl, by go_num, by omega, by omega, HN2.out.1, HN2.out.2, HL2.out, HBL2.out, HO2.out, HFIN.out⟩
                       case measure => simp [intOf]; omega)
        · clear HPV
          go_wp2_with ((go_at_call 61; with_reducible refine Calls.mono (Gives.calls (CO.out _)) ?_; rintro e w1 ⟨rfl, z, rfl⟩); obtain ⟨⟨v0, v1, v2, v3⟩, lv⟩ := HX2.out z.val (by repeat (first | exact Below.refl _ _ | (with_reducible assumption) | apply below_later | apply below_alloc | apply below_drew | apply below_drewN)))
          go_loopw [6] (fun u6 wr => ∃ (q : Nat) (l2 : List Int), u6 = .int .i64 (q : Nat) ∧ kg ≤ q ∧ q ≤ S ∧ q ≤ kg + R ∧ l2.length = S ∧ Below Z.heap.size Z wr ∧ OwnI wr Z.heap.size (.slice (some ⟨go, 0, none⟩) S S) l2 ∧ ∀ i, i < S → l2.getD i 0 = ((lay i k + (if kg ≤ i ∧ i < q then 1 else 0) : Nat) : Int)) (fun u6 _ => S - (intOf u6).toNat)
          case atStart => exact ⟨kg, l, rfl, by omega, by omega, by omega, HL.out, HBV.out z.val (by repeat (first | exact Below.refl _ _ | (with_reducible assumption) | apply below_later | apply below_alloc | apply below_drew | apply below_drewN)), HO.out.later z, fun i hi => by rw [if_neg (by omega)]; exact HALL.out i hi⟩
          case round =>
            obtain ⟨q, l2, rfl, hq0, hq1, hq2, hl2, hbl2, ho2, hall2⟩ := hrel
            have HL2 := Lib.hid hl2
            have HBL2 := Lib.hid hbl2
            have HO2 := Lib.hid ho2
            have HALL2 := Lib.hid hall2
            obtain ⟨⟨g0, g1, g2, g3⟩, lg⟩ := HX.out wr hbl2
            clear hl2 ho2 hall2 hbl2
            by_cases hin : q < kg + R ∧ q < S
            · obtain ⟨o3, o4⟩ := HO2.out.cell HL2.out hin.2
              have o5 := (own_lt HO2.out go rfl).2
              have o6 := o4 q
              have hv := HALL2.out q hin.2
              rw [if_neg (by omega)] at hv
              rw [hv] at o3
              have hlb := LBk.out q
              have HV := Lib.hid hv
              have hq3 := hin.1
              have hq4 := hin.2
              have HSET : Hid (∀ i, i < S → (l2.set q ((lay q k + 1 : Nat) : Int)).getD i 0 = ((lay i k + (if kg ≤ i ∧ i < q + 1 then 1 else 0) : Nat) : Int)) := fun i hi => by
                rw [getD_setL (by rw [HL2.out]; exact hq4)]
                by_cases e : i = q
                · subst e
                  rw [if_pos rfl, if_pos (by omega)]
                · rw [if_neg e, HALL2.out i hi]
                  by_cases e2 : kg ≤ i ∧ i < q
                  · rw [if_pos e2, if_pos (by omega)]
                  · rw [if_neg e2, if_neg (by omega)]
              clear hv hin o4
              generalize lay q k = lq2 at *
              have hw2 : IntKind.i64.wrap ((lq2 : Int) + ((0 : Nat) : Int) + 1) = ((lq2 + 1 : Nat) : Int) := by rw [show ((lq2 : Int) + ((0 : Nat) : Int) + 1) = ((lq2 + 1 : Nat) : Int) by omega]; exact i64_nat (by omega)
              have hw1 : IntKind.i64.wrap ((lq2 : Int) + 1) = ((lq2 + 1 : Nat) : Int) := by rw [show ((lq2 : Int) + 1) = ((lq2 + 1 : Nat) : Int) by omega]; exact i64_nat (by omega)
              rw [Nat.add_zero] at o3
              go_wp2_with fail
              all_goals
                first
                  | (refine ⟨⟨q + 1, l2.set q ((lq2 + 1 : Nat) : Int), by go_num, by omega, by omega, by omega, by rw [List.length_set]; exact HL2.out, HBL2.out.setCell (p := ⟨go, q, none⟩) HG.out _, HO2.out.set HL2.out q _, HSET.out⟩, ?_⟩; simp [intOf]; omega)
                  | (go_roundw
                     case rel => exact ⟨q + 1, l2.set q ((lq2 + 1 : Nat) : Int), by go_num, by omega, by omega, by omega, by rw [List.length_set]; exact HL2.out, HBL2.out.setCell (p := ⟨go, q, none⟩) HG.out _, HO2.out.set HL2.out q _, HSET.out⟩
                     case measure => simp [intOf]; omega)
            · have HFIN : Hid (∀ i, i < S → l2.getD i 0 = ((lay i (k + 1) : Nat) : Int)) := fun i hi => by
                rw [HALL2.out i hi, LSk.out i]
                by_cases e : kg ≤ i ∧ i < kg + R
                · rw [if_pos ⟨e.1, by omega⟩, if_pos ((LNk.out i).2 e)]
                · rw [if_neg (by omega), if_neg (fun h => e ((LNk.out i).1 h))]
              by_cases hq5 : q < kg + R
              · have hq6 : ¬ q < S := by omega
                clear hin
                go_wp2_with fail
                all_goals
                  first
                    | (refine ⟨⟨p, k + 1, l2, rfl, by go_num, by omega, by omega, HN2.out.1, HN2.out.2, HL2.out, HBL2.out, HO2.out, HFIN.out⟩, ?_⟩; simp [intOf]; omega)
                    | (go_roundw
                       case rel => exact ⟨p, k + 1, l2, rfl, by go_num, by omega, by omega, HN2.out.1, HN2.out.2, HL2.out, HBL2.out, HO2.out, HFIN.out⟩
                       case measure => simp [intOf]; omega)
              · clear hin
                go_wp2_with fail
                all_goals
                  first
                    | (refine ⟨⟨p, k + 1, l2, rfl, by go_num, by omega, by omega, HN2.out.1, HN2.out.2, HL2.out, HBL2.out, HO2.out, HFIN.out⟩, ?_⟩; simp [intOf]; omega)
                    | (go_roundw
                       case rel => exact ⟨p, k + 1, l2, rfl, by go_num, by omega, by omega, HN2.out.1, HN2.out.2, HL2.out, HBL2.out, HO2.out, HFIN.out⟩
                       case measure => simp [intOf]; omega)
    · obtain rfl : k = N := by omega
      have HF := Lib.hid (LE.out l HL.out HALL.out)
      go_wp2_with ((go_at_call 61; with_reducible refine Calls.mono (Gives.calls (CO.out _)) ?_; rintro e w1 ⟨rfl, z, rfl⟩))
      go_ret
      exact ⟨_, rfl, ⟨_, below_more HB.out (HBV.out z.val (by repeat (first | exact Below.refl _ _ | (with_reducible assumption) | apply below_later | apply below_alloc | apply below_drew | apply below_drewN)))⟩, rfl, by
        show OwnI _ _ _ _
        rw [← HF.out]
        exact (HO.out.later z).mono HWZ.out⟩
end Go.Proofs.Ytjokpangacahgaa
