/- The document's Pitches; samePitches: walked. -/
import Derived.Test.YtjokpangacahgaaTPitch
namespace Go.Proofs.Ytjokpangacahgaa
open Go.RowKit

set_option maxRecDepth 100000 in
theorem rPitches_bad (m : Int) (w : World) (h : inI 1 m 1000 = false) : Gives Try.prog 12 #[.int .i64 m] w (.tuple #[.slice none 0 0, .int .i64 2]) := by
  have BT := Lib.hid fun V => h ▸ rfrom_any 1 m 1000 V
  clear h
  go_enter Try.func12, Try.ntmps12
  go_wp2_with (go_at_call 52; with_reducible refine Calls.mono (Gives.calls (BT.out _)) ?_; rintro e w1 ⟨rfl, z, rfl⟩)
  go_ret2
  exact ⟨rfl, later_of (by repeat (first | exact Below.refl _ _ | (with_reducible assumption) | apply below_later | apply below_alloc | apply below_drew | apply below_drewN))⟩
theorem allU_one : allU 1 = [] := by decide
theorem okPit_nat {a b s : Nat} (ha : 1 ≤ a ∧ a ≤ 1000) (hb : 1 ≤ b ∧ b ≤ 1000) (hs : 1 ≤ s ∧ s ≤ 1000) : okPit a b s = decide (a * a + b * b = s * s) := by
  have e : ((a : Int) * a + b * b = (s : Int) * s) ↔ a * a + b * b = s * s := by
    rw [← Int.natCast_mul, ← Int.natCast_mul, ← Int.natCast_mul]
    omega
  unfold okPit inI
  rw [decide_eq_decide.2 e, decide_eq_true (by omega : (1 : Int) ≤ a), decide_eq_true (by omega : (a : Int) ≤ 1000), decide_eq_true (by omega : (1 : Int) ≤ b), decide_eq_true (by omega : (b : Int) ≤ 1000), decide_eq_true (by omega : (1 : Int) ≤ s), decide_eq_true (by omega : (s : Int) ≤ 1000)]
  rfl
set_option maxRecDepth 100000 in
set_option maxHeartbeats 6400000 in
theorem rPitches_ok (m : Nat) (w : World) (h1 : 1 ≤ m) (h2 : m ≤ 1000) : Calls Try.prog 12 #[.int .i64 m] w (Post3E w (triL (allP m))) := by
  have BT : Hid (∀ V, Gives Try.prog 52 #[.int .i64 1, .int .i64 m, .int .i64 1000] V (.bool true)) := fun V => (show inI 1 (m : Int) 1000 = true from inI_iff.2 ⟨by omega, by omega⟩) ▸ rfrom_any 1 m 1000 V
  have AS := Lib.hid fun k => allU_succ k
  have AL := Lib.hid fun k (hk : k ≤ m + 1) => allU_len (m := k) (by omega)
  have A1 := Lib.hid allU_one
  have AE : Hid (allU (m + 1) = allP m) := rfl
  obtain ⟨i0, hi0, hz0, hz1, hz2⟩ := info_pitch
  have DV := Lib.hid fun (a b : Nat) (V : World) (ha : a ≤ 1000) (hb : b ≤ 1000) => divisor_any a b V (by omega) (by omega)
  have VP := Lib.hid fun (a b s : Nat) (V : World) => rValidPitch_any a b s V
  generalize allP m = res at *
  generalize allU = al at *
  go_enter Try.func12, Try.ntmps12
  go_wp2_with (go_at_call 52; with_reducible refine Calls.mono (Gives.calls (BT.out _)) ?_; rintro e w1 ⟨rfl, z, rfl⟩)
  have HZ : Hid (Below w.heap.size w z.val) := by show Below _ _ _; repeat (first | exact Below.refl _ _ | (with_reducible assumption) | apply below_later | apply below_alloc | apply below_drew | apply below_drewN)
  go_loopw [4, 5] (fun u v wr => ∃ k : Nat, v = .int .i64 (k : Nat) ∧ 1 ≤ k ∧ k ≤ m + 1 ∧ Below w.heap.size w wr ∧ OwnT3 23 wr w.heap.size u (triL (al k))) (fun _ v _ => m + 1 - (intOf v).toNat)
  case atStart => exact ⟨1, rfl, by omega, by omega, HZ.out, by rw [A1.out]; exact OwnT3.nil _ _ _⟩
  case round =>
    obtain ⟨k, rfl, hk1, hk, hbl, ho⟩ := hrel
    have HBL := Lib.hid hbl
    have HO := Lib.hid ho
    clear hbl ho
    by_cases hlt : k ≤ m
    · have hss : k * k ≤ 1000000 := mul_le_mul_nat (m := 1000) (n := 1000) (by omega) (by omega)
      have e3 := wrap_mul_nat hss (by omega)
      have hg0 : decide ((k : Int) ≤ (m : Int)) = true := by simp; omega
      have US := Lib.hid fun a => uptoP_succ k a
      have UL := Lib.hid fun a => uptoP_len k a
      have U1 := Lib.hid (uptoP_one k)
      have HF := Lib.hid fun (a b : Nat) (h : InvP k a b) (h1 : b ≤ a) (h2 : a ≤ k + 1) => h.fin h1 h2
      have AT := Lib.hid fun (a b : Nat) (h : goodP a b k) => atP_some h
      have AN := Lib.hid fun (a b : Nat) (h : a * a + b * b = k * k) (hn : ¬ goodP a b k) => InvP.none_ne h hn
      have ALT := Lib.hid fun (a b : Nat) (h : InvP k a b) (hlt : a * a + b * b < k * k) => h.none_lt hlt
      have AD := Lib.hid fun (a b : Nat) (h : InvP k a b) (hgt : k * k < a * a + b * b) => h.down hgt
      have AX : Hid (∀ a b : Nat, InvP k a b → b ≤ a → atP k a = []) := fun a b h hba => atP_none fun y hg => by
        have h1 := h.far a y (Nat.le_refl _) hg
        have h2 := hg.1
        omega
      have OKP := Lib.hid fun (a b : Nat) (ha : 1 ≤ a ∧ a ≤ 1000) (hb : 1 ≤ b ∧ b ≤ 1000) => okPit_nat (s := k) ha hb ⟨hk1, by omega⟩
      have IP0 : Hid (InvP k 1 k) := InvP.start k
      have HSS : Hid (∃ ss, k * k = ss) := ⟨_, rfl⟩
      obtain ⟨ss, hss2⟩ := HSS.out
      rw [hss2] at hss e3 AN ALT AD OKP
      have HS2 := Lib.hid hss2
      clear hss2 HSS
      have hak := AL.out k (by omega)
      have HA1 : Hid (triL (al (k + 1)) = triL (al k ++ rowP k)) := by show _ = _; rw [AS.out]
      generalize al k = alk at *
      generalize hup : uptoP k = up at *
      clear hup
      go_wp2_with fail
      go_loopw [4, 6, 7] (fun u4 u6 u7 wr => ∃ a b : Nat, u7 = .int .i64 (a : Nat) ∧ u6 = .int .i64 (b : Nat) ∧ 1 ≤ a ∧ a ≤ k + 1 ∧ b ≤ k ∧ InvP k a b ∧ Below w.heap.size w wr ∧ OwnT3 23 wr w.heap.size u4 (triL (alk ++ up a))) (fun _ _ u7 _ => k + 1 - (intOf u7).toNat)
      case atStart => exact ⟨1, k, rfl, rfl, by omega, by omega, by omega, IP0.out, HBL.out, by rw [U1.out, List.append_nil]; exact HO.out⟩
      case round =>
        obtain ⟨a, b, rfl, rfl, ha1, ha, hb, hinv, hbl, ho⟩ := hrel
        clear HBL HO
        have HI := Lib.hid hinv
        have HBL := Lib.hid hbl
        have HO := Lib.hid ho
        have LU : Hid ((triL (alk ++ up a)).length = (alk ++ up a).length) := triL_length _
        obtain ⟨O, cO, eO⟩ := ho.shape_n LU.out
        subst eO
        clear hinv hbl ho
        have hua := UL.out a
        by_cases hab : a < b
        · have haa : a * a ≤ 1000000 := mul_le_mul_nat (m := 1000) (n := 1000) (by omega) (by omega)
          have e1 := wrap_mul_nat haa (by omega)
          have BBS := Lib.hid fun (x : Nat) (hx : x ≤ k) => mul_le_mul_nat (a := x) (b := x) (m := 1000) (n := 1000) (by omega) (by omega)
          have hlen : (alk ++ up a).length ≤ 2000000 := by rw [List.length_append]; have : k * 1001 ≤ 1001 * 1001 := mul_le_mul_nat (by omega) (Nat.le_refl _); omega
          have US1 : Hid (triL (alk ++ up (a + 1)) = triL (alk ++ up a) ++ triL (atP k a)) := by show _ = _; rw [US.out, ← List.append_assoc, triL_append]
          have AT1 := Lib.hid fun b => AT.out a b
          have AN1 := Lib.hid fun b => AN.out a b
          have AL1 := Lib.hid fun b => ALT.out a b
          have AD1 := Lib.hid fun b => AD.out a b
          have AX1 := Lib.hid fun b => AX.out a b
          have OK1 := Lib.hid fun b => OKP.out a b
          have HGD : Hid (∀ x : Nat, a < x → a * a + x * x = ss → (goodP a x k ↔ Nat.gcd a x = 1)) := fun x hx h => ⟨fun g => g.2.2.1, fun g => ⟨hx, h.trans HS2.out.symm, g, ha1⟩⟩
          have DV1 := Lib.hid fun x V => DV.out a x V (by omega)
          have VP1 := Lib.hid fun x V => VP.out a x k V
          generalize a * a = aa at *
          generalize alk ++ up a = la at *
          have HIb := Lib.hid HI.out
          go_wp2_with fail
          go_loopw [6] (fun u6 w2 => ∃ x : Nat, u6 = .int .i64 (x : Nat) ∧ x ≤ b ∧ InvP k a x ∧ w2 = wr) (fun u6 _ => (intOf u6).toNat)
          case atStart => exact ⟨b, rfl, by omega, HI.out, rfl⟩
          case round =>
            obtain ⟨x, rfl, hx, hinv2, rfl⟩ := hrel
            have HI2 := Lib.hid hinv2
            clear hinv2
            have hbb := BBS.out x (by omega)
            have e2 := wrap_mul_nat hbb (by omega)
            have AD2 := Lib.hid (AD1.out x HI2.out)
            have AL2 := Lib.hid (AL1.out x HI2.out)
            have AN2 := Lib.hid (AN1.out x)
            have HG2 := Lib.hid (HGD.out x)
            have AX2 := Lib.hid (AX1.out x HI2.out)
            have AT2 := Lib.hid (AT1.out x)
            have DV2 := Lib.hid fun V => DV1.out x V (by omega)
            have OK2 := Lib.hid (OK1.out x ⟨ha1, by omega⟩)
            have VP2 := Lib.hid fun V => VP1.out x V
            have hx0 : x = 0 → x * x = 0 := fun h => by rw [h]
            generalize x * x = xx at *
            by_cases hgt : 0 < x ∧ ss < aa + xx
            · have c0 : decide ((x : Int) > 0) = true := by simp; omega
              have c0' : decide ((0 : Int) < (x : Int)) = true := by simp; omega
              have c2 : decide ((aa : Int) + (xx : Int) > (ss : Int)) = true := by simp; omega
              have c3 : decide ((ss : Int) < (aa : Int) + (xx : Int)) = true := by simp; omega
              have HN := Lib.hid (AD2.out hgt.2)
              have hx1 : 0 < x := hgt.1
              clear hgt hx0
              go_wp2_with fail
              all_goals
                first
                  | (refine ⟨⟨x - 1, by go_num, by omega, HN.out, by trivial⟩, ?_⟩; simp [intOf]; omega)
                  | (go_roundw
                     case rel => exact ⟨x - 1, by go_num, by omega, HN.out, by trivial⟩
                     case measure => simp [intOf]; omega)
            · have HGT := Lib.hid hgt
              by_cases hax : a < x
              · have c0 : decide ((x : Int) > 0) = true := by simp; omega
                have c0' : decide ((0 : Int) < (x : Int)) = true := by simp; omega
                have c2 : decide ((aa : Int) + (xx : Int) > (ss : Int)) = false := by simp; omega
                have c3 : decide ((ss : Int) < (aa : Int) + (xx : Int)) = false := by simp; omega
                have c6 : decide ((a : Int) < (x : Int)) = true := by simp; omega
                have hle : aa + xx ≤ ss := by omega
                have OK3 := Lib.hid (OK2.out ⟨by omega, by omega⟩)
                have HPB : Hid (∀ V, Below (wr.alloc (.cells #[.int .i64 a, .int .i64 x, .int .i64 k] 23)).heap.size (wr.alloc (.cells #[.int .i64 a, .int .i64 x, .int .i64 k] 23)) V → V.cell? ⟨wr.heap.size, 0, none⟩ = some (.int .i64 a) ∧ V.cell? ⟨wr.heap.size, 1, none⟩ = some (.int .i64 x) ∧ V.cell? ⟨wr.heap.size, 2, none⟩ = some (.int .i64 k)) := fun V h => pit_at h
                have HOV : Hid (∀ V, Below wr.heap.size wr V → OwnT3 23 V w.heap.size (.slice O la.length cO) (triL la)) := fun V h => HO.out.below h
                have HBV : Hid (∀ V, Below wr.heap.size wr V → Below w.heap.size w V) := fun V h => below_more HBL.out h
                clear hgt hx0
                by_cases heq : aa + xx = ss
                · have VP3 : Hid (∀ V, Gives Try.prog 14 #[.agg #[.int .i64 a, .int .i64 x, .int .i64 k]] V (.bool true)) := fun V => by
                    have h := VP2.out V
                    rw [OK3.out, decide_eq_true heq] at h
                    exact h
                  have HEQ := Lib.hid heq
                  have HG3 := Lib.hid (HG2.out hax heq)
                  have AN3 := Lib.hid (AN2.out heq)
                  clear heq
                  by_cases hg : Nat.gcd a x = 1
                  · rw [hg] at DV2
                    have HA : Hid (triL (alk ++ up (a + 1)) = triL la ++ [((a : Int), (x : Int), (k : Int))]) := by
                      show _ = _
                      rw [US1.out, AT2.out (HG3.out.2 hg)]; rfl
                    have HL1 : Hid ((triL (alk ++ up (a + 1))).length = la.length + 1) := by show _ = _; rw [HA.out, List.length_append, LU.out]; rfl
                    clear hg
                    go_wp2_with (first
                      | ((go_at_call 14; with_reducible refine Calls.mono (Gives.calls (VP3.out _)) ?_; rintro e w1 ⟨rfl, y1, rfl⟩); obtain ⟨p0, p1, p2⟩ := HPB.out y1.val (by repeat (first | exact Below.refl _ _ | (with_reducible assumption) | apply below_later | apply below_alloc | apply below_drew | apply below_drewN)))
                      | ((go_at_call 53; with_reducible refine Calls.mono (Gives.calls (DV2.out _)) ?_; rintro e w1 ⟨rfl, y2, rfl⟩); obtain ⟨p0, p1, p2⟩ := HPB.out y2.val (by repeat (first | exact Below.refl _ _ | (with_reducible assumption) | apply below_later | apply below_alloc | apply below_drew | apply below_drewN)); have HO2 := Lib.hid (HOV.out y2.val (by repeat (first | exact Below.refl _ _ | (with_reducible assumption) | apply below_later | apply below_alloc | apply below_drew | apply below_drewN))); have HB2 := Lib.hid (HBV.out y2.val (by repeat (first | exact Below.refl _ _ | (with_reducible assumption) | apply below_later | apply below_alloc | apply below_drew | apply below_drewN))))
                      | (at_builtin; refine wpList_append_own_at _ rfl _ _ 24 rfl w.heap.size 23 i0 (.agg #[.int .i64 0, .int .i64 0, .int .i64 0]) 3 24 Try.underlying24 hi0 hz0 hz1 hz2 rfl (by decide) _ _ _ rfl ((own_rowT3 HO2.out LU.out).alloc _) ⟨_, 0, none⟩ 1 1 [.int .i64 a, .int .i64 x, .int .i64 k] rfl rfl lit_news3 three_int ?g1 ?g2 ?g3 ?_))
                    case g1 => unfold maxLen; omega
                    case g2 => omega
                    case g3 => have := HB2.out.size; simp only [World.size_alloc]; omega
                    intro v6 w6 hown2 hgrow _ hat
                    have hb6 : Below w.heap.size w w6 := below_own (w1 := y2.val.alloc (.cells #[.int .i64 a, .int .i64 x, .int .i64 k] 23)) (below_alloc HB2.out) ((own_rowT3 HO2.out LU.out).alloc _) (Nat.le_refl _) hgrow
                    have HO6 : Hid (OwnT3 23 w6 w.heap.size v6 (triL (alk ++ up (a + 1)))) := by
                      show OwnT3 _ _ _ _ _
                      unfold OwnT3
                      rw [HL1.out, HA.out, cells3_append]
                      exact hown2
                    have HB6 := Lib.hid hb6
                    clear hown2 hgrow hat hb6
                    go_wp2_with fail
                    all_goals
                      first
                        | (refine ⟨⟨a + 1, x, by go_num, rfl, by omega, by omega, by omega, HI2.out.up, HB6.out, HO6.out⟩, ?_⟩; simp [intOf]; omega)
                        | (go_roundw
                           case rel => exact ⟨a + 1, x, by go_num, rfl, by omega, by omega, by omega, HI2.out.up, HB6.out, HO6.out⟩
                           case measure => simp [intOf]; omega)
                  · have c4 : ((Nat.gcd a x : Nat) : Int) ≠ 1 := by omega
                    have c5 : (((Nat.gcd a x : Nat) : Int) == 1) = false := by simp; omega
                    have HA : Hid (triL (alk ++ up (a + 1)) = triL la) := by
                      show _ = _
                      rw [US1.out, AN3.out fun g => hg (HG3.out.1 g)]; simp [triL]
                    clear hg HG3 AT2 AN3
                    generalize Nat.gcd a x = gg at *
                    go_wp2_with (first
                      | ((go_at_call 14; with_reducible refine Calls.mono (Gives.calls (VP3.out _)) ?_; rintro e w1 ⟨rfl, y1, rfl⟩); obtain ⟨p0, p1, p2⟩ := HPB.out y1.val (by repeat (first | exact Below.refl _ _ | (with_reducible assumption) | apply below_later | apply below_alloc | apply below_drew | apply below_drewN)))
                      | ((go_at_call 53; with_reducible refine Calls.mono (Gives.calls (DV2.out _)) ?_; rintro e w1 ⟨rfl, y2, rfl⟩); have HO2 := Lib.hid (HOV.out y2.val (by repeat (first | exact Below.refl _ _ | (with_reducible assumption) | apply below_later | apply below_alloc | apply below_drew | apply below_drewN))); have HB2 := Lib.hid (HBV.out y2.val (by repeat (first | exact Below.refl _ _ | (with_reducible assumption) | apply below_later | apply below_alloc | apply below_drew | apply below_drewN)))))
                    all_goals
                      first
                        | (refine ⟨⟨a + 1, x, by go_num, rfl, by omega, by omega, by omega, HI2.out.up, HB2.out, by rw [HA.out]; exact HO2.out⟩, ?_⟩; simp [intOf]; omega)
                        | (go_roundw
                           case rel => exact ⟨a + 1, x, by go_num, rfl, by omega, by omega, by omega, HI2.out.up, HB2.out, by rw [HA.out]; exact HO2.out⟩
                           case measure => simp [intOf]; omega)
                · have VP3 : Hid (∀ V, Gives Try.prog 14 #[.agg #[.int .i64 a, .int .i64 x, .int .i64 k]] V (.bool false)) := fun V => by
                    have h := VP2.out V
                    rw [OK3.out, decide_eq_false heq] at h
                    exact h
                  have HA : Hid (triL (alk ++ up (a + 1)) = triL la) := by
                    show _ = _
                    rw [US1.out, AL2.out (by omega)]; simp [triL]
                  clear heq
                  go_wp2_with (first
                    | ((go_at_call 14; with_reducible refine Calls.mono (Gives.calls (VP3.out _)) ?_; rintro e w1 ⟨rfl, y1, rfl⟩); have HO2 := Lib.hid (HOV.out y1.val (by repeat (first | exact Below.refl _ _ | (with_reducible assumption) | apply below_later | apply below_alloc | apply below_drew | apply below_drewN))); have HB2 := Lib.hid (HBV.out y1.val (by repeat (first | exact Below.refl _ _ | (with_reducible assumption) | apply below_later | apply below_alloc | apply below_drew | apply below_drewN)))))
                  all_goals
                    first
                      | (refine ⟨⟨a + 1, x, by go_num, rfl, by omega, by omega, by omega, HI2.out.up, HB2.out, by rw [HA.out]; exact HO2.out⟩, ?_⟩; simp [intOf]; omega)
                      | (go_roundw
                         case rel => exact ⟨a + 1, x, by go_num, rfl, by omega, by omega, by omega, HI2.out.up, HB2.out, by rw [HA.out]; exact HO2.out⟩
                         case measure => simp [intOf]; omega)
              · have c6 : decide ((a : Int) < (x : Int)) = false := by simp; omega
                have HA : Hid (triL (alk ++ up (a + 1)) = triL la) := by
                  show _ = _
                  rw [US1.out, AX2.out (by omega)]; simp [triL]
                have HO2 : Hid (OwnT3 23 (wr.alloc (.cells #[.int .i64 a, .int .i64 x, .int .i64 k] 23)) w.heap.size (.slice O la.length cO) (triL la)) := HO.out.alloc _
                have HB2 : Hid (Below w.heap.size w (wr.alloc (.cells #[.int .i64 a, .int .i64 x, .int .i64 k] 23))) := below_alloc HBL.out
                by_cases hx1 : 0 < x
                · have c0 : decide ((x : Int) > 0) = true := by simp; omega
                  have c0' : decide ((0 : Int) < (x : Int)) = true := by simp; omega
                  have c2 : decide ((aa : Int) + (xx : Int) > (ss : Int)) = false := by simp; omega
                  have c3 : decide ((ss : Int) < (aa : Int) + (xx : Int)) = false := by simp; omega
                  clear hgt hx0
                  go_wp2_with fail
                  all_goals
                    first
                      | (refine ⟨⟨a + 1, x, by go_num, rfl, by omega, by omega, by omega, HI2.out.up, HB2.out, by rw [HA.out]; exact HO2.out⟩, ?_⟩; simp [intOf]; omega)
                      | (go_roundw
                         case rel => exact ⟨a + 1, x, by go_num, rfl, by omega, by omega, by omega, HI2.out.up, HB2.out, by rw [HA.out]; exact HO2.out⟩
                         case measure => simp [intOf]; omega)
                · obtain rfl : x = 0 := by omega
                  clear hgt hx0
                  go_wp2_with fail
                  all_goals
                    first
                      | (refine ⟨⟨a + 1, 0, by go_num, rfl, by omega, by omega, by omega, HI2.out.up, HB2.out, by rw [HA.out]; exact HO2.out⟩, ?_⟩; simp [intOf]; omega)
                      | (go_roundw
                         case rel => exact ⟨a + 1, 0, by go_num, rfl, by omega, by omega, by omega, HI2.out.up, HB2.out, by rw [HA.out]; exact HO2.out⟩
                         case measure => simp [intOf]; omega)
        · have HFI := Lib.hid (HF.out a b HI.out (by omega) ha)
          have c6 : decide ((a : Int) < (b : Int)) = false := by simp; omega
          go_wp2_with fail
          all_goals
            first
              | (refine ⟨⟨k + 1, by go_num, by omega, by omega, HBL.out, by rw [HA1.out, ← HFI.out]; exact HO.out⟩, ?_⟩; simp [intOf]; omega)
              | (go_roundw
                 case rel => exact ⟨k + 1, by go_num, by omega, by omega, HBL.out, by rw [HA1.out, ← HFI.out]; exact HO.out⟩
                 case measure => simp [intOf]; omega)
    · obtain rfl : k = m + 1 := by omega
      have hg0 : decide (((m + 1 : Nat) : Int) ≤ (m : Int)) = false := by simp; omega
      go_wp2_with fail
      go_ret2
      exact ⟨_, rfl, ⟨_, HBL.out⟩, rfl, by rw [← AE.out]; exact HO.out⟩
set_option maxRecDepth 100000 in
set_option maxHeartbeats 800000 in
theorem same_pits (A B : Option Addr) (n c1 c2 : Nat) (x y z : Nat → Int) (w : World) (hn : n ≤ 10000000) (ha : IsTris w A n x y z) (hb : IsTris w B n x y z) :
    Gives Try.prog 15 #[.slice A n c1, .slice B n c2] w (.bool true) := by
  have HA := Lib.hid ha
  have HB := Lib.hid hb
  clear ha hb
  have q0 : ((n : Int) != (n : Int)) = false := by simp
  go_enter Try.func15, Try.ntmps15
  go_wp2
  go_loopw [5] (fun u wr => ∃ k : Nat, k ≤ n ∧ u = .int .i64 k ∧ ∃ x : Later w, wr = x.val) (fun v _ => n - (intOf v).toNat)
  case atStart => exact ⟨0, by omega, rfl, later_of (by repeat (first | exact Below.refl _ _ | (with_reducible assumption) | apply below_later | apply below_alloc | apply below_drew | apply below_drewN))⟩
  case round =>
    obtain ⟨k, hk, rfl, x, rfl⟩ := hrel
    by_cases hlt : k < n
    · obtain ⟨b1, o1, hA1, l1, p1⟩ := HA.out.at_ (by omega)
      obtain ⟨b2, o2, hB1, l2, p2⟩ := HB.out.at_ (by omega)
      subst hA1 hB1
      obtain ⟨d1, d2, d3⟩ := p1 k hlt
      obtain ⟨d4, d5, d6⟩ := p2 k hlt
      clear p1 p2
      go_wp2_with fail
      first | (with_reducible show Code.wp _ _ _ _ (Later.val _); refine wp_region_later_at _ (by kernel_rfl) (by kernel_rfl) ?_) | refine wp_region_later (by kernel_rfl) (by kernel_rfl) ?_
      repeat (go_big_quiet_step ((fail)))
      refine wpQuiet_nil ?_
      intro z5
      go_wp2
      all_goals
        first
          | (refine ⟨⟨k + 1, by omega, by go_num, later_of (by repeat (first | exact Below.refl _ _ | (with_reducible assumption) | apply below_later | apply below_alloc | apply below_drew | apply below_drewN))⟩, ?_⟩; simp [intOf]; omega)
          | (go_roundw
             case rel => exact ⟨k + 1, by omega, by go_num, later_of (by repeat (first | exact Below.refl _ _ | (with_reducible assumption) | apply below_later | apply below_alloc | apply below_drew | apply below_drewN))⟩
             case measure => simp [intOf]; omega)
    · obtain rfl : k = n := by omega
      go_wp2
      go_ret
      exact ⟨rfl, later_of (by repeat (first | exact Below.refl _ _ | (with_reducible assumption) | apply below_later | apply below_alloc | apply below_drew | apply below_drewN))⟩
end Go.Proofs.Ytjokpangacahgaa
