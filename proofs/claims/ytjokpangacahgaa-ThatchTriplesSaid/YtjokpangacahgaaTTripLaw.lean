/- The law of triples: walked. -/
import Derived.Test.YtjokpangacahgaaTPitchLaw
namespace Go.Proofs.Ytjokpangacahgaa
open Go.RowKit

theorem wf_u16 {i : Int} (h : (Lit.int .u16 i).wf = true) : 0 ≤ i ∧ i ≤ 65535 := by
  simp only [Lit.wf, Bool.and_eq_true, decide_eq_true_eq] at h
  have e1 : IntKind.u16.min = 0 := by decide
  have e2 : IntKind.u16.max = 65535 := by decide
  omega
def fewN (a b : Nat) : Nat := min (1 + (min a b) % 1000) (1 + (max a b) % 1000)
def manyN (a b : Nat) : Nat := max (1 + (min a b) % 1000) (1 + (max a b) % 1000)
/-- What the law asks of each pitch. -/
structure Each (F M n1 n2 : Nat) (x y z : Nat → Int) : Prop where
  ok : ∀ i, i < n2 → okPit (x i) (y i) (z i) = true ∧ x i < y i ∧ z i ≤ M
  up : ∀ i, i + 1 < n2 → z i < z (i + 1) ∨ z i = z (i + 1) ∧ x i < x (i + 1)
  few : ∀ i, i < n2 → (i < n1 ↔ z i ≤ F)
theorem goodP_okPit {a b s : Nat} (h : goodP a b s) (hs : s ≤ 1000) : okPit a b s = true := by
  obtain ⟨h1, h2, _, h4⟩ := h
  have hb : b ≤ s := goodP_le ⟨h1, h2, ‹_›, h4⟩
  rw [okPit_nat ⟨h4, by omega⟩ ⟨by omega, by omega⟩ ⟨by omega, hs⟩]
  simpa using h2
theorem tri_at {l : List (Nat × Nat × Nat)} {i : Nat} (h : i < l.length) : tx (triL l) i = (l[i]).1 ∧ ty (triL l) i = (l[i]).2.1 ∧ tz (triL l) i = (l[i]).2.2 := by
  have e : (triL l).getD i (0, 0, 0) = (((l[i]).1 : Int), ((l[i]).2.1 : Int), ((l[i]).2.2 : Int)) := by
    simp [triL, List.getD_eq_getElem?_getD, List.getElem?_map, List.getElem?_eq_getElem h]
  unfold tx ty tz
  rw [e]
  exact ⟨rfl, rfl, rfl⟩
theorem each_ok {F M : Nat} (h : F ≤ M) (hM : M ≤ 1000) : Each F M (allP F).length (allP M).length (tx (triL (allP M))) (ty (triL (allP M))) (tz (triL (allP M))) := by
  constructor
  · intro i hi
    obtain ⟨e1, e2, e3⟩ := tri_at hi
    obtain ⟨h1, h2⟩ := mem_allP (List.getElem_mem hi)
    rw [e1, e2, e3]
    exact ⟨goodP_okPit h2 (by omega), by have := h2.1; omega, by omega⟩
  · intro i hi
    obtain ⟨e1, _, e3⟩ := tri_at (show i < (allP M).length by omega)
    obtain ⟨f1, _, f3⟩ := tri_at hi
    have := allP_next hi
    rw [e1, e3, f1, f3]
    rcases this with h1 | ⟨h1, h2⟩
    · left; omega
    · right; omega
  · intro i hi
    obtain ⟨_, _, e3⟩ := tri_at hi
    have := (allP_facts h i hi).2.2
    rw [e3, this]
    omega
theorem pre_same {F M : Nat} (h : F ≤ M) (i : Nat) (hi : i < (allP F).length) : (triL (allP F)).getD i (0, 0, 0) = (triL (allP M)).getD i (0, 0, 0) := by
  obtain ⟨t, h1, _⟩ := allP_add F (M - F)
  rw [show F + (M - F) = M by omega] at h1
  rw [h1, triL_append, List.getD_eq_getElem?_getD, List.getD_eq_getElem?_getD, List.getElem?_append_left (by rw [triL_length]; exact hi)]
theorem first_tri {F : Nat} (h : 5 ≤ F) : tx (triL (allP F)) 0 = 3 ∧ ty (triL (allP F)) 0 = 4 ∧ tz (triL (allP F)) 0 = 5 ∧ 0 < (allP F).length := by
  obtain ⟨t, e⟩ := allP_first h
  rw [e]
  exact ⟨rfl, rfl, rfl, by simp⟩
theorem allP_le {M : Nat} (hM : M ≤ 1000) : (allP M).length ≤ 1002001 := by
  have h := allP_len (m := M) hM
  have : (M + 1) * 1001 ≤ 1001 * 1001 := Nat.mul_le_mul (by omega) (Nat.le_refl _)
  omega
theorem OwnT3.shape_c {T : TypeId} {w : World} {base n : Nat} {v : Value} {l : List Tri} (h : OwnT3 T w base v l) (hn : l.length = n) : ∃ A cap, v = .slice A n cap ∧ n ≤ cap := by
  subst hn
  rcases h.2 with ⟨rfl, h0⟩ | ⟨g, cap, cur, rfl, _, _, hc, _⟩
  · exact ⟨none, 0, by rw [h0], by rw [h0]; exact Nat.le_refl _⟩
  · exact ⟨_, cap, rfl, hc⟩
theorem IsTris.part {w : World} {A : Option Addr} {n m : Nat} {x y z x' y' z' : Nat → Int} (h : IsTris w A n x y z) (hm : m ≤ n) (e : ∀ i, i < m → x i = x' i ∧ y i = y' i ∧ z i = z' i) : IsTris w A m x' y' z' :=
  ⟨by have := h.small; omega, fun h0 => let ⟨b, off, ea, hl, hc⟩ := h.at_ (by omega); ⟨b, off, ea, hl, fun i hi => by
    obtain ⟨e1, e2, e3⟩ := e i hi
    rw [← e1, ← e2, ← e3]
    exact hc i (by omega)⟩⟩
set_option maxRecDepth 100000 in
set_option maxHeartbeats 0 in
theorem triples_law (a b : Nat) (w : World) (ha : a ≤ 65535) (hb : b ≤ 65535) : Gives Try.prog 7 #[.int .u16 a, .int .u16 b] w (.bool true) := by
  have AW := Lib.hid awake_law
  have HF : Hid (fewN a b = min (1 + (min a b) % 1000) (1 + (max a b) % 1000)) := rfl
  have HM : Hid (manyN a b = max (1 + (min a b) % 1000) (1 + (max a b) % 1000)) := rfl
  have f1 : 1 ≤ fewN a b := by unfold fewN; omega
  have f2 : fewN a b ≤ manyN a b := by unfold fewN manyN; omega
  have f3 : manyN a b ≤ 1000 := by unfold manyN; omega
  have HE := Lib.hid (each_ok f2 f3)
  have PB : Hid (∀ (m : Nat) (V : World), 1 ≤ m → m ≤ 1000 → Calls Try.prog 11 #[.int .i64 m] V fun e w' => ∃ v, e = .returned (.tuple #[v, .int .i64 0]) ∧ ∃ x : Later V, w' = x.val ∧ OwnT3 23 w' V.heap.size v (triL (allP m))) := fun m V h1 h2 => Pitches_ok m V h1 h2
  have PB1 := Lib.hid fun V => PB.out (fewN a b) V f1 (by omega)
  have PB2 := Lib.hid fun V => PB.out (manyN a b) V (by omega) f3
  have HL1 : Hid ((triL (allP (fewN a b))).length = (allP (fewN a b)).length) := triL_length _
  have HL2 : Hid ((triL (allP (manyN a b))).length = (allP (manyN a b)).length) := triL_length _
  have hl1 := allP_le (M := fewN a b) (by omega)
  have hl2 := allP_le f3
  have hll : (allP (fewN a b)).length ≤ (allP (manyN a b)).length := by
    obtain ⟨t, h1, _⟩ := allP_add (fewN a b) (manyN a b - fewN a b)
    rw [show fewN a b + (manyN a b - fewN a b) = manyN a b by omega] at h1
    rw [h1, List.length_append]
    omega
  have HPS := Lib.hid fun i hi => pre_same f2 i hi
  have HP5 := Lib.hid fun h => first_tri (F := fewN a b) h
  have HP4 : Hid (fewN a b < 5 → (allP (fewN a b)).length = 0) := fun h => by rw [allP_none h]; rfl
  generalize fewN a b = F at *
  generalize manyN a b = M at *
  generalize triL (allP F) = l1 at *
  generalize triL (allP M) = l2 at *
  generalize (allP F).length = n1 at *
  generalize (allP M).length = n2 at *
  clear PB
  go_enter Try.func7, Try.ntmps7
  go_upto_region 1 with fail
  go_cut [5, 6] (fun s5 s6 wx => s5 = .int .i64 ((1 + (min a b) % 1000 : Nat) : Int) ∧ s6 = .int .i64 ((1 + (max a b) % 1000 : Nat) : Int) ∧ Below w.heap.size w wx)
  case first =>
    clear HE PB1 PB2 HL1 HL2 HPS HP5 HP4 AW
    go_wp2_with fail
    all_goals
      go_meet
      exact ⟨by congr 1; omega, by congr 1; omega, by first | exact Below.refl _ _ | exact HBC.out⟩
  case rest =>
    obtain ⟨rfl, rfl, hbc⟩ := hcut
    have HBC := Lib.hid hbc
    clear hbc
    generalize 1 + (min a b) % 1000 = p at *
    generalize 1 + (max a b) % 1000 = q at *
    go_upto_region 2 with fail
    go_cut [5, 6] (fun s5 s6 wx => s5 = .int .i64 F ∧ s6 = .int .i64 M ∧ Below w.heap.size w wx)
    case first =>
      clear HE PB1 PB2 HL1 HL2 HPS HP5 HP4 AW
      have h1 := HF.out
      have h2 := HM.out
      clear HF HM
      go_wp2_with fail
      all_goals
        go_meet
        exact ⟨by congr 1; omega, by congr 1; omega, by first | exact Below.refl _ _ | exact HBC.out⟩
    case rest =>
      obtain ⟨rfl, rfl, hbd⟩ := hcut
      have HBD := Lib.hid hbd
      clear HF HM hbd HBC
      have PT : Hid (∀ V A, IsTris V A n2 (tx l2) (ty l2) (tz l2) → IsTris V A n1 (tx l1) (ty l1) (tz l1)) := fun V A h => h.part hll fun i hi => by
        have e := HPS.out i hi
        unfold tx ty tz
        rw [e]
        exact ⟨rfl, rfl, rfl⟩
      have SP := Lib.hid fun V A B c1 c2 (h1 : IsTris V A n1 (tx l1) (ty l1) (tz l1)) (h2 : IsTris V B n1 (tx l1) (ty l1) (tz l1)) => same_pits A B n1 c1 c2 _ _ _ V (by omega) h1 h2
      have g5 : decide ((n2 : Int) < (n1 : Int)) = false := by simp; omega
      have HB5 : Hid (0 < n1 ↔ 5 ≤ F) := ⟨fun h => by (rcases Nat.lt_or_ge F 5 with h1 | h1; (have := HP4.out h1; omega); exact h1), fun h => (HP5.out h).2.2.2⟩
      obtain ⟨b5, hb5⟩ : ∃ b5, decide (5 ≤ F) = b5 := ⟨_, rfl⟩
      have g1 : decide ((n1 : Int) > 0) = b5 := by rw [← hb5]; exact decide_eq_decide.2 (by have := HB5.out; omega)
      have g2 : decide ((0 : Int) < (n1 : Int)) = b5 := by rw [← hb5]; exact decide_eq_decide.2 (by have := HB5.out; omega)
      have g2' : decide (0 < n1) = b5 := by rw [← hb5]; exact decide_eq_decide.2 HB5.out
      have g3 : decide ((F : Int) ≥ 5) = b5 := by rw [← hb5]; exact decide_eq_decide.2 (by omega)
      have g4 : decide ((5 : Int) ≤ (F : Int)) = b5 := by rw [← hb5]; exact decide_eq_decide.2 (by omega)
      have g9 : (b5 != b5) = false := by simp
      clear hb5
      clear HPS
      go_wp2_with (first
        | (go_at_call 11; with_reducible refine Calls.mono (PB1.out _) ?_; rintro e w1 ⟨v, rfl, z1, rfl, ho⟩; obtain ⟨A1, c1, rfl, hc1⟩ := ho.shape_c HL1.out; have IO := Lib.hid (ho.tris HL1.out (by omega)); clear ho)
        | (go_at_call 11; with_reducible refine Calls.mono (PB2.out _) ?_; rintro e w1 ⟨v2, rfl, z2, rfl, ho2⟩; obtain ⟨A2, c2, rfl, hc2⟩ := ho2.shape_c HL2.out; have IO2 := Lib.hid (ho2.tris HL2.out (by omega)); clear ho2; have IO1 := Lib.hid (IO.out.below z2.ok))
        | (go_at_call 15; with_reducible refine Calls.mono (Gives.calls (SP.out _ _ _ _ _ (IO1.out.below (by repeat (first | exact Below.refl _ _ | (with_reducible assumption) | apply below_later | apply below_alloc | apply below_drew | apply below_drewN))) (PT.out _ _ (IO2.out.below (by repeat (first | exact Below.refl _ _ | (with_reducible assumption) | apply below_later | apply below_alloc | apply below_drew | apply below_drewN)))))) ?_; rintro e w1 ⟨rfl, z3, rfl⟩))
      have HZ : Hid (Below w.heap.size w z3.val) := below_more HBD.out (by repeat (first | exact Below.refl _ _ | (with_reducible assumption) | apply below_later | apply below_alloc | apply below_drew | apply below_drewN))
      have IM := Lib.hid (IO2.out.below z3.ok)
      have IL := Lib.hid (IO1.out.below z3.ok)
      clear IO2 IO1 IO PB1 PB2 SP PT HBD
      generalize z3.val = Z at *
      go_loopw [11] (fun u wr => ∃ i : Nat, u = .int .i64 (i : Nat) ∧ i ≤ n2 ∧ ∃ x : Later Z, wr = x.val) (fun u _ => n2 - (intOf u).toNat)
      case atStart => exact ⟨0, rfl, by omega, later_of (by repeat (first | exact Below.refl _ _ | (with_reducible assumption) | apply below_later | apply below_alloc | apply below_drew | apply below_drewN))⟩
      case round =>
        obtain ⟨i, rfl, hi, x, rfl⟩ := hrel
        by_cases hlt : i < n2
        · obtain ⟨bm, om, hA, lm, pm⟩ := (IM.out.below x.ok).at_ (by omega)
          subst hA
          obtain ⟨d1, d2, d3⟩ := pm i hlt
          obtain ⟨q1, q2, q3⟩ := HE.out.ok i hlt
          have VP := Lib.hid fun V => q1 ▸ ValidPitch_any (tx l2 i) (ty l2 i) (tz l2 i) V
          unfold pitV at VP
          have e1 : decide (tx l2 i ≥ ty l2 i) = false := by simp; omega
          have e1' : decide (ty l2 i ≤ tx l2 i) = false := by simp; omega
          have e2 : decide (tz l2 i > (M : Int)) = false := by simp; omega
          have e2' : decide ((M : Int) < tz l2 i) = false := by simp; omega
          have hfew := HE.out.few i hlt
          have HB : Hid (decide ((i : Int) < (n1 : Int)) = decide (tz l2 i ≤ (F : Int))) := decide_eq_decide.2 (by omega)
          have HCX : Hid (∀ V, Below x.val.heap.size x.val V → (V.cell? ⟨bm, om + i * 3, none⟩ = some (.int .i64 (tx l2 i)) ∧ V.cell? ⟨bm, om + i * 3 + 1, none⟩ = some (.int .i64 (ty l2 i)) ∧ V.cell? ⟨bm, om + i * 3 + 2, none⟩ = some (.int .i64 (tz l2 i))) ∧ bm < V.heap.size) := fun V h => ⟨⟨(h.cell (p := ⟨bm, om + i * 3, none⟩) lm).trans d1, (h.cell (p := ⟨bm, om + i * 3 + 1, none⟩) lm).trans d2, (h.cell (p := ⟨bm, om + i * 3 + 2, none⟩) lm).trans d3⟩, Nat.lt_of_lt_of_le lm h.size⟩
          have HUP : Hid (0 < i → (∀ V, Below x.val.heap.size x.val V → V.cell? ⟨bm, om + (i - 1) * 3, none⟩ = some (.int .i64 (tx l2 (i - 1))) ∧ V.cell? ⟨bm, om + (i - 1) * 3 + 2, none⟩ = some (.int .i64 (tz l2 (i - 1)))) ∧ (tz l2 (i - 1) < tz l2 i ∨ tz l2 (i - 1) = tz l2 i ∧ tx l2 (i - 1) < tx l2 i)) := fun h0 => by
            obtain ⟨p1, _, p3⟩ := pm (i - 1) (by omega)
            have hu := HE.out.up (i - 1) (by omega)
            rw [show i - 1 + 1 = i by omega] at hu
            exact ⟨fun V h => ⟨(h.cell (p := ⟨bm, om + (i - 1) * 3, none⟩) lm).trans p1, (h.cell (p := ⟨bm, om + (i - 1) * 3 + 2, none⟩) lm).trans p3⟩, hu⟩
          clear pm q1 q2 q3 hfew
          generalize tx l2 i = xi at *
          generalize ty l2 i = yi at *
          generalize tz l2 i = zi at *
          obtain ⟨bb, hbb⟩ : ∃ bb, decide (zi ≤ (F : Int)) = bb := ⟨_, rfl⟩
          have hb1 : decide ((i : Int) < (n1 : Int)) = bb := HB.out.trans hbb
          have hb2 : decide (i < n1) = bb := by rw [← hb1]; exact decide_eq_decide.2 (by omega)
          have eb : (bb != bb) = false := by simp
          by_cases h0 : i = 0
          · subst h0
            have g6 : decide (((0 : Nat) : Int) > 0) = false := by decide
            obtain rfl : b5 = bb := g2.symm.trans hb1
            clear HUP
            rw [Nat.zero_mul, Nat.add_zero] at d1 d2 d3
            clear HCX
            go_wp2_with fail
            go_cut [163] (fun s163 wx => s163 = .bool false ∧ Below x.val.heap.size x.val wx)
            case first =>
              as_aux_lemma =>
                refine wp_region_later (by kernel_rfl) (by kernel_rfl) ?_
                dsimp only [HAppend.hAppend, Append.append, List.append]
                repeat (go_big_quiet_step (first | (go_at_call 13; (with_reducible refine Later.call _ (VP.out _)))))
                refine wpQuiet_nil ?_
                intro y
                go_wp2_with fail
                all_goals
                  go_meet
                  first | exact ⟨rfl, y.ok⟩ | exact ⟨by rw [hb2]; simp, y.ok⟩ | exact ⟨by simp [hb2], y.ok⟩
            case rest =>
              obtain ⟨rfl, hbc⟩ := hcut
              have HBC : Hid (∃ x' : Later Z, wc = x'.val) := ⟨⟨wc, below_more x.ok hbc⟩, rfl⟩
              clear hbc
              go_wp2_with fail
              all_goals
                first
                  | (refine ⟨⟨1, by go_num, by omega, HBC.out⟩, ?_⟩; simp [intOf]; omega)
                  | (go_roundw
                     case rel => exact ⟨1, by go_num, by omega, HBC.out⟩
                     case measure => simp [intOf]; omega)
          · obtain ⟨u1, u2⟩ := HUP.out (by omega)
            have U1 := Lib.hid u1
            have g6 : decide ((i : Int) > 0) = true := by simp; omega
            have g7 : decide ((0 : Int) < (i : Int)) = true := by simp; omega
            have g7' : decide (0 < i) = true := by simp; omega
            have hsub : (i : Int) - 1 = ((i - 1 : Nat) : Int) := by omega
            have hw : IntKind.i64.wrap ((i : Int) - 1) = ((i - 1 : Nat) : Int) := by rw [hsub]; exact i64_nat (by omega)
            have hlp : i - 1 < n2 := by omega
            generalize tx l2 (i - 1) = xp at *
            generalize tz l2 (i - 1) = zp at *
            clear hsub u1 HUP
            by_cases hz : zi = zp
            · have e3 : decide (zi < zp) = false := by simp; omega
              have e4 : (zi == zp) = true := by simp [hz]
              have e5 : decide (xi ≤ xp) = false := by simp; omega
              clear hz u2
              obtain ⟨j5, j6⟩ := U1.out x.val (Below.refl _ _)
              clear HCX U1
              go_wp2_with fail
              go_cut [163] (fun s163 wx => s163 = .bool false ∧ Below x.val.heap.size x.val wx)
              case first =>
                as_aux_lemma =>
                  refine wp_region_later (by kernel_rfl) (by kernel_rfl) ?_
                  dsimp only [HAppend.hAppend, Append.append, List.append]
                  repeat (go_big_quiet_step (first | (go_at_call 13; (with_reducible refine Later.call _ (VP.out _)))))
                  refine wpQuiet_nil ?_
                  intro y
                  go_wp2_with fail
                  all_goals
                    go_meet
                    first | exact ⟨rfl, y.ok⟩ | exact ⟨by rw [hb2]; simp, y.ok⟩ | exact ⟨by simp [hb2], y.ok⟩
              case rest =>
                obtain ⟨rfl, hbc⟩ := hcut
                have HBC : Hid (∃ x' : Later Z, wc = x'.val) := ⟨⟨wc, below_more x.ok hbc⟩, rfl⟩
                clear hbc
                go_wp2_with fail
                all_goals
                  first
                    | (refine ⟨⟨i + 1, by go_num, by omega, HBC.out⟩, ?_⟩; simp [intOf]; omega)
                    | (go_roundw
                       case rel => exact ⟨i + 1, by go_num, by omega, HBC.out⟩
                       case measure => simp [intOf]; omega)
            · have e3 : decide (zi < zp) = false := by simp; omega
              have e4 : (zi == zp) = false := by simpa using hz
              clear hz u2
              obtain ⟨j5, j6⟩ := U1.out x.val (Below.refl _ _)
              clear HCX U1
              go_wp2_with fail
              go_cut [163] (fun s163 wx => s163 = .bool false ∧ Below x.val.heap.size x.val wx)
              case first =>
                as_aux_lemma =>
                  refine wp_region_later (by kernel_rfl) (by kernel_rfl) ?_
                  dsimp only [HAppend.hAppend, Append.append, List.append]
                  repeat (go_big_quiet_step (first | (go_at_call 13; (with_reducible refine Later.call _ (VP.out _)))))
                  refine wpQuiet_nil ?_
                  intro y
                  go_wp2_with fail
                  all_goals
                    go_meet
                    first | exact ⟨rfl, y.ok⟩ | exact ⟨by rw [hb2]; simp, y.ok⟩ | exact ⟨by simp [hb2], y.ok⟩
              case rest =>
                obtain ⟨rfl, hbc⟩ := hcut
                have HBC : Hid (∃ x' : Later Z, wc = x'.val) := ⟨⟨wc, below_more x.ok hbc⟩, rfl⟩
                clear hbc
                go_wp2_with fail
                all_goals
                  first
                    | (refine ⟨⟨i + 1, by go_num, by omega, HBC.out⟩, ?_⟩; simp [intOf]; omega)
                    | (go_roundw
                       case rel => exact ⟨i + 1, by go_num, by omega, HBC.out⟩
                       case measure => simp [intOf]; omega)
        · obtain rfl : i = n2 := by omega
          by_cases hn1 : 0 < n1
          · obtain ⟨k0, k1, k2, _⟩ := HP5.out (HB5.out.1 hn1)
            obtain ⟨bl, ol, hA, ll, pl⟩ := (IL.out.below x.ok).at_ hn1
            subst hA
            obtain ⟨d1, d2, d3⟩ := pl 0 hn1
            rw [k0] at d1
            rw [k1] at d2
            rw [k2] at d3
            rw [Nat.zero_mul, Nat.add_zero] at d1 d2 d3
            have g8 : ((n1 : Int) == 0) = false := by simp; omega
            clear pl k0 k1 k2
            go_wp2_with (go_at_call 16; with_reducible refine Calls.mono (Gives.calls (AW.out _)) ?_; rintro e w1 ⟨rfl, y, rfl⟩)
            go_ret
            exact ⟨rfl, later_of (below_more HZ.out (by repeat (first | exact Below.refl _ _ | (with_reducible assumption) | apply below_later | apply below_alloc | apply below_drew | apply below_drewN)))⟩
          · obtain rfl : n1 = 0 := by omega
            go_wp2_with (go_at_call 16; with_reducible refine Calls.mono (Gives.calls (AW.out _)) ?_; rintro e w1 ⟨rfl, y, rfl⟩)
            go_ret
            exact ⟨rfl, later_of (below_more HZ.out (by repeat (first | exact Below.refl _ _ | (with_reducible assumption) | apply below_later | apply below_alloc | apply below_drew | apply below_drewN)))⟩
theorem triples_law2 (i j : Int) (w : World) (wi : (Lit.int .u16 i).wf = true) (wj : (Lit.int .u16 j).wf = true) : Gives Try.prog 7 #[.int .u16 i, .int .u16 j] w (.bool true) := by
  obtain ⟨h0, h1⟩ := wf_u16 wi
  obtain ⟨k0, k1⟩ := wf_u16 wj
  obtain ⟨u, rfl⟩ : ∃ u : Nat, i = u := ⟨i.toNat, by omega⟩
  obtain ⟨v, rfl⟩ : ∃ v : Nat, j = v := ⟨j.toNat, by omega⟩
  exact triples_law u v w (by omega) (by omega)
end Go.Proofs.Ytjokpangacahgaa
