/- thatch's Pitches: walked. -/
import Derived.Test.YtjokpangacahgaaTRoof
import Derived.Test.YtjokpangacahgaaTOwn
import Derived.Test.YtjokpangacahgaaTPMath
import Derived.Laws.AppendOwnNone
namespace Go.Proofs.Ytjokpangacahgaa
open Go.RowKit

def triL (l : List (Nat × Nat × Nat)) : List Tri := l.map fun x => ((x.1 : Int), (x.2.1 : Int), (x.2.2 : Int))
theorem triL_length (l : List (Nat × Nat × Nat)) : (triL l).length = l.length := by simp [triL]
theorem triL_append (l k : List (Nat × Nat × Nat)) : triL (l ++ k) = triL l ++ triL k := by simp [triL]

def Post3 (w : World) (l : List Tri) (e : Ending) (w' : World) : Prop := ∃ v, e = .returned v ∧ ∃ x : Later w, w' = x.val ∧ OwnT3 23 w' w.heap.size v l
def Post3E (w : World) (l : List Tri) (e : Ending) (w' : World) : Prop := ∃ v, e = .returned (.tuple #[v, .int .i64 0]) ∧ ∃ x : Later w, w' = x.val ∧ OwnT3 23 w' w.heap.size v l
theorem OwnT3.cases {T : TypeId} {w : World} {base : Nat} {v : Value} {l : List Tri} (h : OwnT3 T w base v l) : (v = .slice none 0 0 ∧ l = []) ∨ ∃ g cap, v = .slice (some ⟨g, 0, none⟩) l.length cap ∧ base ≤ g ∧ g < w.heap.size ∧ ∀ j u, (cells3 l)[j]? = some u → w.cell? ((⟨g, 0, none⟩ : Addr).add j) = some u := by
  rcases h.2 with ⟨e, h0⟩ | ⟨g, cap, cur, e, hb, hh, _⟩
  · exact .inl ⟨e, List.eq_nil_of_length_eq_zero h0⟩
  · refine .inr ⟨g, cap, e, hb, get_lt hh, fun j u hj => ?_⟩
    have hlt : j < l.length * 3 := by
      have := (List.getElem?_eq_some_iff.1 hj).1
      rw [cells3_length] at this
      exact this
    subst e
    have h1 := World.ownsRow.cellAt h j (by omega)
    rw [hj] at h1
    unfold Addr.add
    split
    · rename_i e; subst e; exact h1
    · simpa using h1
theorem src_of {T : TypeId} {w : World} {base m : Nat} {v : Value} {l : List Tri} (h : OwnT3 T w base v l) (hm : l.length = m) :
    (v = .slice none 0 0 ∧ m = 0 ∧ cells3 l = []) ∨ ∃ g c, v = .slice (some ⟨g, 0, none⟩) m c ∧ ∀ j u, (cells3 l)[j]? = some u → w.cell? ((⟨g, 0, none⟩ : Addr).add j) = some u := by
  subst hm
  rcases h.cases with ⟨h1, h2⟩ | ⟨g, c, h1, _, _, h2⟩
  · exact .inl ⟨h1, by rw [h2]; rfl, by rw [h2]; rfl⟩
  · exact .inr ⟨g, c, h1, h2⟩
theorem append_both {P : Program} {w : World} {ops : Array Oper} {rest : List Oper} {o : Oper} {a : Act} {Q : Exit → Act → World → Prop} (hgd : o.guard = none) (s x : Operand) (t : TypeId)
    (ho : o.op = .call { callee := .builtin .append, args := #[s, x], argTypes := #[t, t] })
    (base : Nat) (e : TypeId) (i : TypeInfo) (z : Value) (size bytes : Nat) (ht : P.underlying t = some (.slice e)) (hi : P.info? e = some i) (hz : i.zero = some z)
    (hsize : i.size = size) (hby : i.bytes = bytes) (hzs : z.cells.size = size) (hsz : 0 < size)
    (v : Value) (n : Nat) (xs : List Value) (hs : a.eval s = v) (hown : w.ownsRow base e size v n xs)
    (v1 : Value) (m : Nat) (news : List Value) (hx : a.eval x = v1)
    (hsrc : (v1 = .slice none 0 0 ∧ m = 0 ∧ news = []) ∨ ∃ g c, v1 = .slice (some ⟨g, 0, none⟩) m c ∧ ∀ j u, news[j]? = some u → w.cell? ((⟨g, 0, none⟩ : Addr).add j) = some u)
    (hl : news.length = m * size) (h1 : ∀ u ∈ news, u.oneCell' = true)
    (h63 : n + m ≤ maxLen) (hbytes : (n + m) * bytes ≤ 140737488355328) (hbase : base ≤ w.heap.size)
    (h : ∀ v' w', w'.ownsRow base e size v' (n + m) (xs ++ news) → w.grownBy w' v.ownBlock → wpList P ops Q rest (a.put o.dst v') w') :
    wpList P ops Q (o :: rest) a w := by
  rcases hsrc with ⟨rfl, rfl, rfl⟩ | ⟨g, c, rfl, hnews⟩
  · refine wpList_append_own_none hgd s x t ho base e i size ht hi v n xs hs hown hx (h v w ?_ ⟨rfl, rfl, rfl, Nat.le_refl _, fun _ _ _ => rfl⟩)
    rw [List.append_nil]
    exact hown
  · exact wpList_append_own_at _ hgd s x t ho base e i z size bytes ht hi hz hsize hby hzs hsz v n xs hs hown ⟨g, 0, none⟩ m c news hx hl hnews h1 h63 hbytes hbase fun v' w' h1 h2 _ _ => h v' w' h1 h2
set_option maxRecDepth 100000 in
set_option maxHeartbeats 3200000 in
theorem pitchesOf_any (s : Nat) (w : World) (hs : s ≤ 1000) : Calls Try.prog 51 #[.int .i64 s] w (Post3 w (triL (rowP s))) := by
  have US := Lib.hid fun a => uptoP_succ s a
  have UL := Lib.hid fun a => uptoP_len s a
  have U1 := Lib.hid (uptoP_one s)
  have DV := Lib.hid fun (a b : Nat) (V : World) (ha : a ≤ 1000) (hb : b ≤ 1000) => Divisor_any a b V (by omega) (by omega)
  have hss : s * s ≤ 1000000 := mul_le_mul_nat (m := 1000) (n := 1000) hs hs
  have e3 := wrap_mul_nat hss (by omega)
  have HF := Lib.hid fun (a b : Nat) (h : InvP s a b) (h1 : b ≤ a) (h2 : a ≤ s + 1) => h.fin h1 h2
  have AT := Lib.hid fun (a b : Nat) (h : goodP a b s) => atP_some h
  have AN := Lib.hid fun (a b : Nat) (h : a * a + b * b = s * s) (hn : ¬ goodP a b s) => InvP.none_ne h hn
  have AL := Lib.hid fun (a b : Nat) (h : InvP s a b) (hlt : a * a + b * b < s * s) => h.none_lt hlt
  have AD := Lib.hid fun (a b : Nat) (h : InvP s a b) (hgt : s * s < a * a + b * b) => h.down hgt
  have HSS : Hid (∃ ss, s * s = ss) := ⟨_, rfl⟩
  obtain ⟨ss, hss2⟩ := HSS.out
  rw [hss2] at hss e3 AN AL AD
  have HS2 := Lib.hid hss2
  clear hss2 HSS
  obtain ⟨i0, hi0, hz0, hz1, hz2⟩ := info_pitch
  have IP0 : Hid (InvP s 1 s) := InvP.start s
  generalize hup : uptoP s = up at *
  clear hup
  go_enter Try.func51, Try.ntmps51
  go_wp2
  go_loopw [3, 4, 5] (fun u3 u4 u5 wr => ∃ a b : Nat, u4 = .int .i64 (a : Nat) ∧ u5 = .int .i64 (b : Nat) ∧ 1 ≤ a ∧ a ≤ s + 1 ∧ b ≤ s ∧ InvP s a b ∧ Below w.heap.size w wr ∧ OwnT3 23 wr w.heap.size u3 (triL (up a))) (fun _ u4 u5 _ => (intOf u5).toNat - (intOf u4).toNat)
  case atStart => exact ⟨1, s, rfl, rfl, by omega, by omega, by omega, IP0.out, Below.refl _ _, by rw [U1.out]; exact OwnT3.nil _ _ _⟩
  case round =>
    obtain ⟨a, b, rfl, rfl, ha1, ha, hb, hinv, hbl, ho⟩ := hrel
    have HI := Lib.hid hinv
    have HBL := Lib.hid hbl
    have HO := Lib.hid ho
    have LU : Hid ((triL (up a)).length = (up a).length) := triL_length _
    obtain ⟨O, cO, eO⟩ := ho.shape_n LU.out
    subst eO
    clear hinv hbl ho
    have hua := UL.out a
    by_cases hlt : a < b
    · have haa : a * a ≤ 1000000 := mul_le_mul_nat (m := 1000) (n := 1000) (by omega) (by omega)
      have hbb : b * b ≤ 1000000 := mul_le_mul_nat (m := 1000) (n := 1000) (by omega) (by omega)
      have e1 := wrap_mul_nat haa (by omega)
      have e2 := wrap_mul_nat hbb (by omega)
      have DV1 := Lib.hid fun V => DV.out a b V (by omega) (by omega)
      have US1 := Lib.hid (US.out a)
      have AT1 := Lib.hid (AT.out a b)
      have AN1 := Lib.hid (AN.out a b)
      have AL1 := Lib.hid (AL.out a b HI.out)
      have AD1 := Lib.hid (AD.out a b HI.out)
      have HG : Hid (a * a + b * b = ss → (goodP a b s ↔ Nat.gcd a b = 1)) := fun h => ⟨fun g => g.2.2.1, fun g => ⟨hlt, h.trans HS2.out.symm, g, ha1⟩⟩
      generalize a * a = aa at *
      generalize b * b = bb at *
      by_cases hgt : ss < aa + bb
      · have c1 : ((aa : Int) + (bb : Int) == (ss : Int)) = false := by simp; omega
        have c2 : decide ((aa : Int) + (bb : Int) > (ss : Int)) = true := by simp; omega
        have c3 : decide ((ss : Int) < (aa : Int) + (bb : Int)) = true := by simp; omega
        have HN := Lib.hid (AD1.out hgt)
        clear hgt
        go_wp2_with fail
        all_goals
          first
            | (refine ⟨⟨a, b - 1, rfl, by go_num, by omega, by omega, by omega, HN.out, HBL.out, HO.out⟩, ?_⟩; simp [intOf]; omega)
            | (go_roundw
               case rel => exact ⟨a, b - 1, rfl, by go_num, by omega, by omega, by omega, HN.out, HBL.out, HO.out⟩
               case measure => simp [intOf]; omega)
      · by_cases heq : aa + bb = ss
        · have c1 : ((aa : Int) + (bb : Int) == (ss : Int)) = true := by simp; omega
          have c2 : decide ((aa : Int) + (bb : Int) > (ss : Int)) = false := by simp; omega
          have c3 : decide ((ss : Int) < (aa : Int) + (bb : Int)) = false := by simp; omega
          have HE := Lib.hid heq
          have HG1 := Lib.hid (HG.out heq)
          clear heq hgt
          by_cases hg : Nat.gcd a b = 1
          · rw [hg] at DV1
            have HA : Hid (triL (up (a + 1)) = triL (up a) ++ [((a : Int), (b : Int), (s : Int))]) := by
              show _ = _
              rw [US1.out, AT1.out (HG1.out.2 hg), triL_append]; rfl
            have HL1 : Hid ((triL (up (a + 1))).length = (up a).length + 1) := by show _ = _; rw [HA.out, List.length_append, LU.out]; rfl
            have HOV : Hid (∀ y : Later wr, OwnT3 23 y.val w.heap.size (.slice O (up a).length cO) (triL (up a))) := fun y => HO.out.later y
            have HBV : Hid (∀ y : Later wr, Below w.heap.size w y.val) := fun y => below_more HBL.out y.ok
            clear hg
            go_wp2_with (first
              | (go_at_call 73; with_reducible refine Calls.mono (Gives.calls (DV1.out _)) ?_; rintro e w1 ⟨rfl, y, rfl⟩)
              | (at_builtin; refine wpList_append_own_at _ rfl _ _ 24 rfl w.heap.size 23 i0 (.agg #[.int .i64 0, .int .i64 0, .int .i64 0]) 3 24 Try.underlying24 hi0 hz0 hz1 hz2 rfl (by decide) _ _ _ rfl ((own_rowT3 (HOV.out y) LU.out).alloc _) ⟨_, 0, none⟩ 1 1 [.int .i64 a, .int .i64 b, .int .i64 s] rfl rfl lit_news3 three_int ?g1 ?g2 ?g3 ?_))
            case g1 => unfold maxLen; omega
            case g2 => omega
            case g3 => have := (HBV.out y).size; simp only [World.size_alloc]; omega
            intro v6 w6 hown2 hgrow _ hat
            have hb6 : Below w.heap.size w w6 := below_own (w1 := y.val.alloc (.cells #[.int .i64 a, .int .i64 b, .int .i64 s] 23)) (below_alloc (HBV.out y)) ((own_rowT3 (HOV.out y) LU.out).alloc _) (Nat.le_refl _) hgrow
            have HO6 : Hid (OwnT3 23 w6 w.heap.size v6 (triL (up (a + 1)))) := by
              show OwnT3 _ _ _ _ _
              unfold OwnT3
              rw [HL1.out, HA.out, cells3_append]
              exact hown2
            have HB6 := Lib.hid hb6
            clear hown2 hgrow hat hb6
            go_wp2_with fail
            all_goals
              first
                | (refine ⟨⟨a + 1, b, by go_num, rfl, by omega, by omega, by omega, HI.out.up, HB6.out, HO6.out⟩, ?_⟩; simp [intOf]; omega)
                | (go_roundw
                   case rel => exact ⟨a + 1, b, by go_num, rfl, by omega, by omega, by omega, HI.out.up, HB6.out, HO6.out⟩
                   case measure => simp [intOf]; omega)
          · have c4 : ((Nat.gcd a b : Nat) : Int) ≠ 1 := by omega
            have c5 : (((Nat.gcd a b : Nat) : Int) == 1) = false := by simp; omega
            have HA : Hid (up (a + 1) = up a) := by
              show _ = _
              rw [US1.out, AN1.out HE.out fun g => hg (HG1.out.1 g), List.append_nil]
            clear hg HG1 AT1 AN1
            generalize Nat.gcd a b = gg at *
            go_wp2_with (go_at_call 73; with_reducible refine Calls.mono (Gives.calls (DV1.out _)) ?_; rintro e w1 ⟨rfl, y, rfl⟩)
            all_goals
              first
                | (refine ⟨⟨a + 1, b, by go_num, rfl, by omega, by omega, by omega, HI.out.up, below_more HBL.out y.ok, by rw [HA.out]; exact HO.out.later y⟩, ?_⟩; simp [intOf]; omega)
                | (go_roundw
                   case rel => exact ⟨a + 1, b, by go_num, rfl, by omega, by omega, by omega, HI.out.up, below_more HBL.out y.ok, by rw [HA.out]; exact HO.out.later y⟩
                   case measure => simp [intOf]; omega)
        · have c1 : ((aa : Int) + (bb : Int) == (ss : Int)) = false := by simp; omega
          have c2 : decide ((aa : Int) + (bb : Int) > (ss : Int)) = false := by simp; omega
          have c3 : decide ((ss : Int) < (aa : Int) + (bb : Int)) = false := by simp; omega
          have HA : Hid (up (a + 1) = up a) := by
            show _ = _
            rw [US1.out, AL1.out (by omega), List.append_nil]
          clear heq hgt
          go_wp2_with fail
          all_goals
            first
              | (refine ⟨⟨a + 1, b, by go_num, rfl, by omega, by omega, by omega, HI.out.up, HBL.out, by rw [HA.out]; exact HO.out⟩, ?_⟩; simp [intOf]; omega)
              | (go_roundw
                 case rel => exact ⟨a + 1, b, by go_num, rfl, by omega, by omega, by omega, HI.out.up, HBL.out, by rw [HA.out]; exact HO.out⟩
                 case measure => simp [intOf]; omega)
    · have HFI := Lib.hid (HF.out a b HI.out (by omega) ha)
      go_wp2_with fail
      go_ret
      exact ⟨_, rfl, ⟨_, HBL.out⟩, rfl, by rw [← HFI.out]; exact HO.out⟩
set_option maxRecDepth 100000 in
theorem Pitches_bad (m : Int) (w : World) (h : inI 1 m 1000 = false) : Gives Try.prog 11 #[.int .i64 m] w (.tuple #[.slice none 0 0, .int .i64 2]) := by
  have BT := Lib.hid fun V => h ▸ between_any 1 m 1000 V
  clear h
  go_enter Try.func11, Try.ntmps11
  go_wp2_with (go_at_call 50; with_reducible refine Calls.mono (Gives.calls (BT.out _)) ?_; rintro e w1 ⟨rfl, z, rfl⟩)
  go_ret2
  exact ⟨rfl, later_of (by repeat (first | exact Below.refl _ _ | (with_reducible assumption) | apply below_later | apply below_alloc | apply below_drew | apply below_drewN))⟩
set_option maxRecDepth 100000 in
set_option maxHeartbeats 3200000 in
theorem Pitches_ok (m : Nat) (w : World) (h1 : 1 ≤ m) (h2 : m ≤ 1000) : Calls Try.prog 11 #[.int .i64 m] w (Post3E w (triL (allP m))) := by
  have BT : Hid (∀ V, Gives Try.prog 50 #[.int .i64 m, .int .i64 1, .int .i64 1000] V (.bool true)) := fun V => (show inI 1 (m : Int) 1000 = true from inI_iff.2 ⟨by omega, by omega⟩) ▸ between_any 1 m 1000 V
  have PO := Lib.hid fun (s : Nat) (V : World) (hs : s ≤ 1000) => pitchesOf_any s V hs
  have AS := Lib.hid fun k => allU_succ k
  have AL := Lib.hid fun k (hk : k ≤ m + 1) => allU_len (m := k) (by omega)
  have RL := Lib.hid fun s (hs : s ≤ 1000) => (uptoP_len s (s + 1))
  have A0 : Hid (allU 0 = []) := rfl
  have AE : Hid (allU (m + 1) = allP m) := rfl
  have e1 : IntKind.i64.wrap ((m : Int) + 1) = ((m + 1 : Nat) : Int) := by rw [show ((m : Int) + 1) = ((m + 1 : Nat) : Int) by omega]; exact i64_nat (by omega)
  obtain ⟨i0, hi0, hz0, hz1, hz2⟩ := info_pitch
  generalize allP m = res at *
  generalize allU = al at *
  obtain ⟨M, hM⟩ : ∃ M, m + 1 = M := ⟨_, rfl⟩
  rw [hM] at e1 AE AL
  have hM1 : M ≤ 1001 := by omega
  have e2 : (m : Int) + 1 = (M : Int) := by omega
  clear hM
  go_enter Try.func11, Try.ntmps11
  go_wp2_with (go_at_call 50; with_reducible refine Calls.mono (Gives.calls (BT.out _)) ?_; rintro e w1 ⟨rfl, z, rfl⟩)
  have HZ : Hid (Below w.heap.size w z.val) := by show Below _ _ _; repeat (first | exact Below.refl _ _ | (with_reducible assumption) | apply below_later | apply below_alloc | apply below_drew | apply below_drewN)
  go_loopw [4, 11] (fun u v wr => ∃ k : Nat, v = .int .i64 (k : Nat) ∧ k ≤ M ∧ Below w.heap.size w wr ∧ OwnT3 23 wr w.heap.size u (triL (al k))) (fun _ v _ => M - (intOf v).toNat)
  case atStart => exact ⟨0, rfl, by omega, HZ.out, by rw [A0.out]; exact OwnT3.nil _ _ _⟩
  case round =>
    obtain ⟨k, rfl, hk, hbl, ho⟩ := hrel
    have HBL := Lib.hid hbl
    have HO := Lib.hid ho
    have LU : Hid ((triL (al k)).length = (al k).length) := triL_length _
    obtain ⟨O, cO, eO⟩ := ho.shape_n LU.out
    subst eO
    clear hbl ho
    have hua := AL.out k hk
    by_cases hlt : k < M
    · have PO1 : Hid (∀ V, Calls Try.prog 51 #[.int .i64 k] V fun e w' => ∃ v, e = .returned v ∧ ∃ x : Later V, w' = x.val ∧ OwnT3 23 w' V.heap.size v (triL (rowP k))) := fun V => PO.out k V (by omega)
      have hrl := RL.out k (by omega)
      have HA : Hid (triL (al (k + 1)) = triL (al k) ++ triL (rowP k)) := by show _ = _; rw [AS.out, triL_append]
      have HOV : Hid (∀ y : Later wr, OwnT3 23 y.val w.heap.size (.slice O (al k).length cO) (triL (al k))) := fun y => HO.out.later y
      have HBV : Hid (∀ y : Later wr, Below w.heap.size w y.val) := fun y => below_more HBL.out y.ok
      have LR : Hid ((triL (rowP k)).length = (rowP k).length) := triL_length _
      have hrl2 : (rowP k).length ≤ k + 1 := hrl
      have HC3 : Hid ((cells3 (triL (rowP k))).length = (rowP k).length * 3) := by show _ = _; rw [cells3_length, LR.out]
      have HL1 : Hid ((triL (al (k + 1))).length = (al k).length + (rowP k).length) := by show _ = _; rw [HA.out, List.length_append, LU.out, LR.out]
      generalize rowP k = rw' at *
      go_wp2_with (first
        | (go_at_call 51; with_reducible refine Calls.mono (PO1.out _) ?_; rintro e w1 ⟨v1, rfl, y, rfl, ho1⟩; have HSR := Lib.hid (src_of ho1 LR.out); clear ho1)
        | (at_builtin; refine append_both rfl _ _ 24 rfl w.heap.size 23 i0 (.agg #[.int .i64 0, .int .i64 0, .int .i64 0]) 3 24 Try.underlying24 hi0 hz0 hz1 hz2 rfl (by decide) _ _ _ rfl (own_rowT3 (HOV.out y) LU.out) _ rw'.length (cells3 (triL rw')) rfl HSR.out HC3.out (cells3_one _) ?g1 ?g2 ?g3 ?_))
      case g1 => unfold maxLen; omega
      case g2 => omega
      case g3 => exact (HBV.out y).size
      intro v6 w6 hown2 hgrow
      have hb6 : Below w.heap.size w w6 := below_own (w1 := y.val) (HBV.out y) (own_rowT3 (HOV.out y) LU.out) (Nat.le_refl _) hgrow
      have HO6 : Hid (OwnT3 23 w6 w.heap.size v6 (triL (al (k + 1)))) := by
        show OwnT3 _ _ _ _ _
        unfold OwnT3
        rw [HL1.out, HA.out, cells3_append]
        exact hown2
      have HB6 := Lib.hid hb6
      clear hown2 hgrow hb6
      go_wp2_with fail
      all_goals
        first
          | (refine ⟨⟨k + 1, by go_num, by omega, HB6.out, HO6.out⟩, ?_⟩; simp [intOf]; omega)
          | (go_roundw
             case rel => exact ⟨k + 1, by go_num, by omega, HB6.out, HO6.out⟩
             case measure => simp [intOf]; omega)
    · obtain rfl : k = M := by omega
      go_wp2_with fail
      go_ret2
      exact ⟨_, rfl, ⟨_, HBL.out⟩, rfl, by rw [← AE.out]; exact HO.out⟩
end Go.Proofs.Ytjokpangacahgaa
