/- wale.After, walked up to the keys that it sorts. -/
import Derived.Test.YtnjloomhhgilcaaWAfter
namespace Go.Proofs.Ytnjloomhhgilcaa
open Go.RowKit Go.Maps Go.WideShapes

/-- An entry of a map's literal. -/
theorem wpList_insert_own {H : Type} {P : Program} (w : World) {ops : Array Oper} {rest : List Oper} {o : Oper} {a : Act} {Q : Exit → Act → World → Prop}
    (hg : o.guard = none) (m x v : Operand) (t : TypeId) (hop : o.op = Op.insert t m x v)
    (k e : TypeId) (K : Keyed P k) (ht : P.underlying t = some (.map k e)) (R : Value → Option (DataW H × List MemPlace)) (b n : Nat) (D : DataW H)
    (hm : a.eval m = .map (some b)) (hown : w.ownsMap P k R b n D) (hn : n < maxLen) (key val : Value) (kl : Lit) (hx : a.eval x = key) (hv : a.eval v = val) (hkey : keyOf P k key = some kl)
    (d : DataW H) (ps : List MemPlace) (hval : R val = some (d, ps))
    (hK : ∀ w', w'.ownsMap P k R b (n + 1) (D.put kl d) → w.grownBy w' (some b) → wpList P ops Q rest (a.put o.dst undef) w') :
    wpList P ops Q (o :: rest) a w := by
  refine wpList_plain hg fun K' hK' => ?_
  obtain ⟨w', hrun, r1, r2⟩ := hown.update K ht hn hkey hval
  unfold Oper.wp
  simp [execOp, hop, hm, hx, hv, hrun, Result.andThen]
  exact hK' _ _ (hK w' r1 r2)
theorem map_lt {P : Program} {k : TypeId} {R : Value → Option (DataW Unit × List MemPlace)} {w : World} {b n : Nat} {D : DataW Unit} (h : w.ownsMap P k R b n D) : b < w.heap.size := by
  obtain ⟨es, clock, hb, _⟩ := h
  exact get_lt hb
theorem map_below {P : Program} {k : TypeId} {R : Value → Option (DataW Unit × List MemPlace)} {w v : World} {b n : Nat} {D : DataW Unit} (h : w.ownsMap P k R b n D) (hb : Below w.heap.size w v) : v.ownsMap P k R b n D := by
  obtain ⟨es, clock, h1, r⟩ := h
  exact ⟨es, clock, (hb.block _ (get_lt h1)).trans h1, r⟩
theorem endsB_lt {n m : Nat} {f t : Nat → Nat} {V : Nat → Int} (R : Rot n m f t V) {start : Nat} (hs : start < n) : ∀ y s, endsB m f t start y s = true → s < n := by
  intro y
  cases y with
  | zero => intro s h; simp only [endsB, decide_eq_true_eq] at h; omega
  | succ y =>
    intro s h
    rcases Nat.lt_or_ge s n with h1 | h1
    · exact h1
    · rw [endsB, allB_true fun i hi => ?_] at h
      · cases h
      · have := R.t i hi
        have e : decide (t i = s) = false := by simp; omega
        rw [e, Bool.and_false]
        rfl
/-- All keys of a map are numbers of states. -/
def NatKeys (D : DataW Unit) : Prop := ∃ es, D = .map es ∧ ∀ p ∈ es, ∃ s : Nat, p.1 = kN s
theorem NatKeys.zero : NatKeys (.map []) := ⟨[], rfl, fun p hp => by cases hp⟩
theorem NatKeys.put {D : DataW Unit} (h : NatKeys D) (x : Nat) (d : DataW Unit) : NatKeys (D.put (kN x) d) := by
  obtain ⟨es, rfl, h⟩ := h
  refine ⟨_, rfl, fun p hp => ?_⟩
  rcases List.mem_cons.1 ((insert_perm (kN x, d) _).mem_iff.1 hp) with e | e
  · exact ⟨x, by rw [e]⟩
  · exact h p (List.mem_filter.1 e).1

set_option maxRecDepth 100000 in
set_option maxHeartbeats 6400000 in
/-- After, given what sorting the keys answers. -/
theorem After_walk (n m cap start years : Nat) (A : Option Addr) (f t : Nat → Nat) (V : Nat → Int) (w : World) (hs : start < n) (hy : years ≤ 100) (R : Rot n m f t V) (hp : IsChs w A m (fun i => (f i : Int)) (fun i => (t i : Int)) V)
    (HK : Hid (∀ (w' : World) (b : Nat), Calls Try.prog 39 #[.map (some b)] w' fun e w'' => e = .returned (.func (.func 60) #[] #[.pointer (some ⟨w'.heap.size, 0, none⟩)]) ∧ w'' = w'.alloc (.cells #[.map (some b)] 78)))
    (HS : Hid (∀ (w' : World) (b nn : Nat) (D : DataW Unit) (E : Nat → Bool), w'.ownsMap Try.prog 3 (plainElem Try.prog 4) b nn D → nn ≤ 100 → Tells D E → NatKeys D → (∀ s, E s = true → s < n) → Calls Try.prog 38 #[.func (.func 60) #[] #[.pointer (some ⟨w'.heap.size, 0, none⟩)]] (w'.alloc (.cells #[.map (some b)] 78)) fun e w'' => ∃ v, e = .returned v ∧ ∃ x : Later w', w'' = x.val ∧ OwnI w'' w'.heap.size v (natZ ((List.range n).filter E)))) :
    Calls Try.prog 11 #[.int .i64 n, .slice A m cap, .int .i64 start, .int .i64 years] w fun e w' => ∃ v, e = .returned (.tuple #[v, .int .i64 0]) ∧ ∃ x : Later w, w' = x.val ∧ OwnI w' w.heap.size v (natZ ((List.range n).filter (endsB m f t start years))) := by
  have hn8 := R.n8
  have hm40 := R.m40
  have CY : Hid (∀ w', IsChs w' A m (fun i => (f i : Int)) (fun i => (t i : Int)) V → Gives Try.prog 35 #[.int .i64 n, .slice A m cap, .int .i64 start, .int .i64 years] w' (.int .i64 0)) := fun w' h => by
    have h1 := checkYears_any n start years m cap A _ _ V w' (by have := R.m40; omega) h
    unfold cyE at h1
    rw [rot_valid R, if_neg (by simp), if_pos ⟨inS_nat hs, by omega, by omega⟩] at h1
    exact h1
  have HP := Lib.hid hp
  have HR := Lib.hid R
  have hmm := @run_makeMap Try.prog
  have k0 : keyOf Try.prog 3 (.int .i64 (start : Nat)) = some (kN start) := keyOf_int_mk Try.underlying3 (kN_wf (by omega))
  have K0 := Lib.hid k0
  clear hp R k0
  go_enter Try.func11, Try.ntmps11
  go_wp2_with (first
    | (go_at_call 35; (first | (with_reducible show Calls _ _ _ (Later.val _) _; with_reducible refine Calls.mono (Later.call _ (CY.out _ (HP.out.below (by repeat (first | exact Below.refl _ _ | (with_reducible assumption) | apply below_later | apply below_alloc | apply below_drew | apply below_drewN))))) ?_) | (with_reducible refine Calls.mono (Gives.calls (CY.out _ (HP.out.below (by repeat (first | exact Below.refl _ _ | (with_reducible assumption) | apply below_later | apply below_alloc | apply below_drew | apply below_drewN))))) ?_)); rintro e w1 ⟨rfl, z, rfl⟩)
    | (refine wpList_insert_own _ rfl _ _ _ 78 rfl 3 4 lawI Try.underlying78 (plainElem Try.prog 4) _ 0 (.map [] : DataW Unit) rfl (World.ownsMap_made (H := Unit) _ Try.prog 3 (plainElem Try.prog 4)) (by unfold maxLen; omega) _ _ _ rfl rfl K0.out _ [] (plainElem_bool Try.underlying4 true) ?_; intro w1 hown1 hgrow1; have HM1 := Lib.hid hown1; have HG1 := Lib.hid hgrow1; clear hown1 hgrow1))
  have HBP : Hid (Below z.val.heap.size z.val w1) := ((Below.refl _ _).alloc (Nat.le_refl _) _).grown HG1.out (by simp) (fun j hj => by cases hj; exact Nat.le_refl _)
  have HPP : Hid (IsChs z.val A m (fun i => (f i : Int)) (fun i => (t i : Int)) V) := HP.out.later z
  have HBZ : Hid (Below w.heap.size w z.val) := z.ok
  have HT0 : Hid (Tells ((.map [] : DataW Unit).put (kN start) (.lit (.bool true))) (endsB m f t start 0)) := (Tells.zero.put start).congr fun s => by simp [endsB]
  have HN0 : Hid (NatKeys ((.map [] : DataW Unit).put (kN start) (.lit (.bool true)))) := NatKeys.zero.put _ _
  clear HG1
  generalize z.val = P at *
  go_loopw [11, 27] (fun u v wr => ∃ (y bm c : Nat) (D : DataW Unit), u = .map (some bm) ∧ v = .int .i64 (y : Nat) ∧ y ≤ years ∧ c ≤ 50 ∧ Below P.heap.size P wr ∧ wr.ownsMap Try.prog 3 (plainElem Try.prog 4) bm c D ∧ Tells D (endsB m f t start y) ∧ NatKeys D) (fun _ v _ => years - (intOf v).toNat)
  case atStart => exact ⟨0, _, 0 + 1, _, rfl, rfl, by omega, by omega, HBP.out, HM1.out, HT0.out, HN0.out⟩
  case round =>
    obtain ⟨y, bm, c, D, rfl, rfl, hyy, hc50, hbl, hown, htl, hnk⟩ := hrel
    clear HM1 HT0 HN0 HBP
    have HBL := Lib.hid hbl
    have HO := Lib.hid hown
    have HTL := Lib.hid htl
    have HNK := Lib.hid hnk
    clear hbl hown htl hnk
    generalize wr = U at *
    by_cases hlt : y < years
    · have HPU : Hid (IsChs U A m (fun i => (f i : Int)) (fun i => (t i : Int)) V) := HPP.out.below HBL.out
      have HE : Hid (∀ s, endsB m f t start (y + 1) s = partE f t (endsB m f t start y) m s) := fun s => rfl
      generalize hEE : endsB m f t start y = E at *
      have HEE := Lib.hid hEE
      clear hEE
      go_wp2
      have HM2 : Hid ((U.alloc (.map #[] 0)).ownsMap Try.prog 3 (plainElem Try.prog 4) U.heap.size 0 (.map [] : DataW Unit)) := World.ownsMap_made (H := Unit) U Try.prog 3 (plainElem Try.prog 4)
      have HB2 : Hid (Below U.heap.size U (U.alloc (.map #[] 0))) := (Below.refl _ _).alloc (Nat.le_refl _) _
      go_loopw [32] (fun v wr => ∃ (k c2 : Nat) (D2 : DataW Unit), v = .int .i64 (k : Nat) ∧ k ≤ m ∧ c2 ≤ k ∧ Below U.heap.size U wr ∧ wr.ownsMap Try.prog 3 (plainElem Try.prog 4) U.heap.size c2 D2 ∧ Tells D2 (partE f t E k) ∧ NatKeys D2) (fun v _ => m - (intOf v).toNat)
      case atStart => exact ⟨0, 0, _, rfl, by omega, by omega, HB2.out, HM2.out, Tells.zero, NatKeys.zero⟩
      case round =>
        obtain ⟨k, c2, D2, rfl, hk, hc2, hb2, ho2, ht2, hn2⟩ := hrel
        clear HM2 HB2
        have HO2 := Lib.hid ho2
        have HT2 := Lib.hid ht2
        have HN2 := Lib.hid hn2
        have HB2 := Lib.hid hb2
        clear ho2 ht2 hn2 hb2
        generalize wr = X at *
        by_cases hkm : k < m
        · obtain ⟨ba, oa, hA, p⟩ := (HPU.out.below HB2.out).at_ (by omega)
          rw [hA]
          clear hA
          have hfk := HR.out.f k hkm
          have htk := HR.out.t k hkm
          have cf := p.f k hkm
          have ct := p.t k hkm
          have cv := p.v k hkm
          have lp := p.lt
          obtain ⟨e0, e1, e2, e3⟩ := box3 X (.int .i64 (f k)) (.int .i64 (t k)) (.int .i64 (V k)) 50
          have hbx : Below X.heap.size X (X.alloc (.cells #[.int .i64 (f k), .int .i64 (t k), .int .i64 (V k)] 50)) := (Below.refl _ _).alloc (Nat.le_refl _) _
          have HMX : Hid ((X.alloc (.cells #[.int .i64 (f k), .int .i64 (t k), .int .i64 (V k)] 50)).ownsMap Try.prog 3 (plainElem Try.prog 4) bm c D) := map_below (map_below HO.out HB2.out) hbx
          have HMY : Hid ((X.alloc (.cells #[.int .i64 (f k), .int .i64 (t k), .int .i64 (V k)] 50)).ownsMap Try.prog 3 (plainElem Try.prog 4) U.heap.size c2 D2) := map_below HO2.out hbx
          have HBX : Hid (Below U.heap.size U (X.alloc (.cells #[.int .i64 (f k), .int .i64 (t k), .int .i64 (V k)] 50))) := below_more HB2.out hbx
          have k1 : keyOf Try.prog 3 (.int .i64 (f k : Nat)) = some (kN (f k)) := keyOf_int_mk Try.underlying3 (kN_wf (by omega))
          have k2 : keyOf Try.prog 3 (.int .i64 (t k : Nat)) = some (kN (t k)) := keyOf_int_mk Try.underlying3 (kN_wf (by omega))
          have K1 := Lib.hid k1
          have K2 := Lib.hid k2
          have PS : Hid (∀ s, partE f t E (k + 1) s = (partE f t E k s || (E (f k) && decide (t k = s)))) := fun s => partE_succ f t E k s
          have E1 : Hid (D.atKey (kN (f k)) (.lit (.bool false)) = .lit (.bool (E (f k)))) := HTL.out.2.2 (f k)
          clear p hbx k1 k2
          cases hE : E (f k)
          case false =>
            rw [hE] at E1
            have PS2 : Hid (∀ s, partE f t E (k + 1) s = partE f t E k s) := fun s => by rw [PS.out, hE]; simp
            clear hE
            go_wp2_with (at_lookup; refine wpList_lookup_own_bool _ rfl _ _ 78 rfl 3 4 lawI Try.underlying78 Try.underlying4 (zeroB _) bm c D rfl HMX.out _ _ rfl K1.out ?_; intro b hat; (have hcb : b = false := (by have h := E1.out.symm.trans hat; simpa using h.symm)); subst hcb; clear hat)
            go_roundw
            case rel => exact ⟨k + 1, c2, D2, by go_num, by omega, by omega, HBX.out, HMY.out, HT2.out.congr fun s => (PS2.out s).symm, HN2.out⟩
            case measure => simp [intOf]; omega
          case true =>
            rw [hE] at E1
            have PS2 : Hid (∀ s, partE f t E (k + 1) s = (partE f t E k s || decide (s = t k))) := fun s => by
              rw [PS.out, hE, Bool.true_and]
              congr 1
              rw [decide_eq_decide]
              exact eq_comm
            clear hE
            go_wp2_with (first
              | (at_lookup; refine wpList_lookup_own_bool _ rfl _ _ 78 rfl 3 4 lawI Try.underlying78 Try.underlying4 (zeroB _) bm c D rfl HMX.out _ _ rfl K1.out ?_; intro b hat; (have hcb : b = true := (by have h := E1.out.symm.trans hat; simpa using h.symm)); subst hcb; clear hat)
              | (at_mapUpdate; refine wpList_mapUpdate_own _ rfl _ _ _ 78 rfl 3 4 lawI Try.underlying78 (plainElem Try.prog 4) U.heap.size c2 D2 rfl HMY.out (by unfold maxLen; omega) _ _ _ rfl rfl K2.out _ [] (plainElem_bool Try.underlying4 true) ?_; intro w5 hown5 hgrow5; have HO5 := Lib.hid hown5; have HB5 : Hid (Below U.heap.size U w5) := HBX.out.grown hgrow5 HBX.out.size (fun j hj => by cases hj; omega); clear hown5 hgrow5))
            go_roundw
            case rel => exact ⟨k + 1, c2 + 1, _, by go_num, by omega, by omega, HB5.out, HO5.out, (HT2.out.put (t k)).congr fun s => (PS2.out s).symm, HN2.out.put _ _⟩
            case measure => simp [intOf]; omega
        · obtain rfl : k = m := by omega
          go_wp2_with fail
          go_roundw
          case rel => exact ⟨y + 1, U.heap.size, c2, D2, rfl, by go_num, by omega, by omega, HBL.out.trans (HB2.out.mono HBL.out.size), HO2.out, HT2.out.congr fun s => (HE.out s).symm, HN2.out⟩
          case measure => simp [intOf]; omega
    · obtain rfl : y = years := by omega
      have HEL : Hid (∀ s, endsB m f t start y s = true → s < n) := endsB_lt HR.out hs y
      go_wp2_with (first
        | (go_at_call 39; refine Calls.mono (HK.out _ _) ?_; rintro e w2 ⟨rfl, rfl⟩)
        | (go_at_call 38; refine Calls.mono (HS.out _ bm c D _ HO.out (by omega) HTL.out HNK.out HEL.out) ?_; rintro e w3 ⟨v, rfl, x3, rfl, ho⟩; have HOF := Lib.hid ho; clear ho))
      go_ret2
      exact ⟨v, rfl, ⟨_, below_later (HBZ.out.trans (HBL.out.mono HBZ.out.size))⟩, rfl, HOF.out.mono (HBZ.out.trans (HBL.out.mono HBZ.out.size)).size⟩
end Go.Proofs.Ytnjloomhhgilcaa
