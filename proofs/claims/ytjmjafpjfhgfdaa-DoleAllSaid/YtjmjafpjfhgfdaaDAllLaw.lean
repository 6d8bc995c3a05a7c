/- The law of all strips and of picks: walked. -/
import Derived.Test.YtjmjafpjfhgfdaaDRef
import Derived.Test.YtjmjafpjfhgfdaaDFirst
import Derived.Test.YtjmjafpjfhgfdaaTail
namespace Go.Proofs.Ytjmjafpjfhgfdaa
open Go.RowKit

/-- n numbers from cell off of block b on. -/
structure U8s (w : World) (b off n : Nat) (f : Nat → Int) : Prop where
  lt : b < w.heap.size
  at_ : ∀ i, i < n → w.cell? ⟨b, off + i, none⟩ = some (.int .u8 (f i))
theorem U8s.later {w : World} {b off n : Nat} {f : Nat → Int} (h : U8s w b off n f) (x : Later w) : U8s x.val b off n f :=
  ⟨Nat.lt_of_lt_of_le h.lt x.size, fun i hi => (x.cell _ _ h.lt).trans (h.at_ i hi)⟩
structure IsU8s (w : World) (A : Option Addr) (n : Nat) (f : Nat → Int) : Prop where
  at_ : 0 < n → ∃ b off, A = some ⟨b, off, none⟩ ∧ U8s w b off n f
theorem IsU8s.later {w : World} {A : Option Addr} {n : Nat} {f : Nat → Int} (h : IsU8s w A n f) (x : Later w) : IsU8s x.val A n f :=
  ⟨fun h0 => let ⟨b, off, e, hp⟩ := h.at_ h0; ⟨b, off, e, hp.later x⟩⟩

theorem topO_le {f c : Nat → Int} {o : Int} : ∀ {m : Nat}, topO f c o m ≤ topN f m := by
  intro m
  induction m with
  | zero => exact Int.le_refl _
  | succ m ih =>
    unfold topO topN
    split <;> omega
theorem topN_le {f : Nat → Int} {M : Int} : ∀ {m : Nat}, 0 ≤ M → (∀ j, j < m → f j ≤ M) → topN f m ≤ M := by
  intro m
  induction m with
  | zero => intro h _; exact h
  | succ m ih =>
    intro h0 h
    have h1 := ih h0 fun j hj => h j (by omega)
    have h2 := h m (by omega)
    unfold topN
    omega
theorem pick_stay {F : Nat → Nat → Int} {c : Nat → Int} {K n : Nat} (hF : ∀ i, i < K → ∀ j, j < n → 0 ≤ F i j ∧ F i j ≤ 1000) (hc : ∀ j, j < n → 0 ≤ c j ∧ c j < K) {j0 : Nat} {q : Int} (hq : 0 ≤ q) {k1 : Nat} (h1 : (pickL F c n k1).getD j0 0 = q) : ∀ k, k1 ≤ k → k ≤ n → (pickL F c n k).getD j0 0 = q := by
  intro k
  induction k with
  | zero => intro h2 _; obtain rfl : k1 = 0 := by omega
            exact h1
  | succ k ih =>
    intro h2 h3
    by_cases e : k1 = k + 1
    · subst e; exact h1
    · have h4 := ih (by omega) (by omega)
      obtain ⟨a, _, b⟩ := pick_some hF hc (k := k) (by omega)
      rw [pickL_succ, getD_setI (by rw [pickL_length]; exact a)]
      rw [if_neg fun h5 => by rw [← h5, h4] at b; omega]
      exact h4
/-- What is picked first is worth most to the one who picks it. -/
theorem pick_first {F : Nat → Nat → Int} {c : Nat → Int} {K n q : Nat} (hF : ∀ i, i < K → ∀ j, j < n → 0 ≤ F i j ∧ F i j ≤ 1000) (hc : ∀ j, j < n → 0 ≤ c j ∧ c j < K) (hn : 0 < n) (hq : c 0 = (q : Nat)) :
    topO (F q) (fun j => (pickL F c n n).getD j 0) (q : Nat) n = topN (F q) n := by
  have hqK : q < K := by have := hc 0 hn; omega
  have e0 : ∀ j, j < n → (pickL F c n 0).getD j 0 = -1 := fun j hj => getD_rep hj
  obtain ⟨h1, _, _⟩ := favP_ok (f := F q) (s := fun j => (pickL F c n 0).getD j 0) (j := n) (hF q hqK)
  rcases h1 with ⟨_, _, h2⟩ | ⟨a, b, d, g, h2⟩
  · exact absurd (e0 0 hn) (h2 0 hn)
  · have h3 : (pickL F c n 1).getD (favP (F q) (fun j => (pickL F c n 0).getD j 0) n).1 0 = (q : Nat) := by
      rw [pickL_succ, hq, Int.toNat_natCast]
      rw [getD_setI (by rw [pickL_length]; exact a)]
      exact if_pos rfl
    have h4 := pick_stay hF hc (by omega) h3 n (by omega) (Nat.le_refl _)
    have h5 := topO_ge (f := F q) (c := fun j => (pickL F c n n).getD j 0) (o := (q : Nat)) a h4
    have h6 := topO_le (f := F q) (c := fun j => (pickL F c n n).getD j 0) (o := (q : Nat)) (m := n)
    have h7 : topN (F q) n ≤ (favP (F q) (fun j => (pickL F c n 0).getD j 0) n).2 := topN_le g fun j hj => h2 j hj (e0 j hj)
    omega
theorem wth_all {f c : Nat → Int} {o : Int} : ∀ {m : Nat}, (∀ j, j < m → c j = o) → wth f c o m = sumN f m := by
  intro m
  induction m with
  | zero => intro _; rfl
  | succ m ih => intro h; rw [wth_succ, sumN_succ, if_pos (h m (by omega)), ih fun j hj => h j (by omega)]
theorem two_below (Z : World) (o1 o2 : Obj) : Below Z.heap.size Z (((Z.alloc o1).alloc o2).drew) := (below_alloc (below_alloc (Below.refl _ _))).drew
theorem two_own1 (Z : World) (n : Nat) (hn : n ≤ 1000000) (o2 : Obj) : OwnI (((Z.alloc (.cells (madeCells #[Value.int .i64 0] n) 3)).alloc o2).drew) Z.heap.size (.slice (some ⟨Z.heap.size, 0, none⟩) n n) (List.replicate n 0) := by
  have h := made_own Z n Z.heap.size (Nat.le_refl _) hn
  exact World.ownsRow.alloc h o2
theorem two_own2 (Z : World) (n : Nat) (hn : n ≤ 1000000) (o1 : Obj) : OwnI (((Z.alloc o1).alloc (.cells (madeCells #[Value.int .i64 0] n) 3)).drew) Z.heap.size (.slice (some ⟨Z.heap.size + 1, 0, none⟩) n n) (List.replicate n 0) := by
  have h := made_own (Z.alloc o1) n Z.heap.size (by simp only [World.size_alloc]; omega) hn
  simp only [World.size_alloc] at h
  exact h
set_option maxRecDepth 100000 in
set_option maxHeartbeats 6400000 in
theorem all_law (A S : Option Addr) (k cap m cS : Nat) (R : Nat → Row) (c : Nat → Int) (w : World) (hp : IsTab w A k R) (hc : IsU8s w S m c) (hcv : ∀ i, i < m → 0 ≤ c i ∧ c i ≤ 255) (hm : m ≤ 9223372036854775807) :
    Gives Try.prog 11 #[.slice A k cap, .slice S m cS] w (.bool true) := by
  have FL := Lib.hid first_law
  have LG := Lib.hid fun (V : World) (h : Below w.heap.size w V) => Long_any k cap A R V (hp.below h)
  cases hl : longB k R
  case true =>
    rw [hl] at LG
    clear hp hc hl
    go_enter Try.func11, Try.ntmps11
    go_wp2_with (first | (go_at_call 13; with_reducible refine Calls.mono (Gives.calls (LG.out _ (by repeat (first | exact Below.refl _ _ | (with_reducible assumption) | apply below_later | apply below_alloc | apply below_drew | apply below_drewN)))) ?_; rintro e w1 ⟨rfl, z, rfl⟩) | (go_at_call 14; with_reducible refine Calls.mono (Gives.calls (FL.out _)) ?_; rintro e w1 ⟨rfl, z2, rfl⟩))
    go_ret
    exact ⟨rfl, later_of (by repeat (first | exact Below.refl _ _ | (with_reducible assumption) | apply below_later | apply below_alloc | apply below_drew | apply below_drewN))⟩
  case false =>
    rw [hl] at LG
    obtain ⟨hk, hr⟩ := long_facts hl
    clear hl
    have RV := Lib.hid fun (V : World) (h : Below w.heap.size w V) => rvalid_any k cap A R V (fun i hi => by have := hr i hi; omega) (hp.below h)
    cases hv : tabB k R
    case false =>
      rw [hv] at RV
      clear hp hc hr hv
      go_enter Try.func11, Try.ntmps11
      go_wp2_with (first | (go_at_call 13; with_reducible refine Calls.mono (Gives.calls (LG.out _ (by repeat (first | exact Below.refl _ _ | (with_reducible assumption) | apply below_later | apply below_alloc | apply below_drew | apply below_drewN)))) ?_; rintro e w1 ⟨rfl, z, rfl⟩) | (go_at_call 21; with_reducible refine Calls.mono (Gives.calls (RV.out _ (by repeat (first | exact Below.refl _ _ | (with_reducible assumption) | apply below_later | apply below_alloc | apply below_drew | apply below_drewN)))) ?_; rintro e w1 ⟨rfl, z1, rfl⟩) | (go_at_call 14; with_reducible refine Calls.mono (Gives.calls (FL.out _)) ?_; rintro e w1 ⟨rfl, z2, rfl⟩))
      go_ret
      exact ⟨rfl, later_of (by repeat (first | exact Below.refl _ _ | (with_reducible assumption) | apply below_later | apply below_alloc | apply below_drew | apply below_drewN))⟩
    case true =>
      rw [hv] at RV
      have W := tabB_iff.1 hv
      have hn12 := W.n12
      have hk6 := W.k6
      have hk1 := W.k1
      generalize hnn : (R 0).n = n at *
      obtain ⟨b, off, rfl⟩ := hp.addr hk1
      have HD := Lib.hid fun (V : World) (h : Below w.heap.size w V) => tab_head0 (hp.below h) W
      have CE := Lib.hid fun (V : World) (h : Below w.heap.size w V) (i j : Nat) (hi : i < k) (hj : j < n) => tab_cell (hp.below h) W hi hj
      have VV := Lib.hid W.val
      have HU := Lib.hid fun (V : World) (h : Below w.heap.size w V) => hc.later ⟨V, h⟩
      have HCV := Lib.hid hcv
      have WO : Hid (∀ V (O : Option Addr) (cO : Nat) (g : Nat → Int), Below w.heap.size w V → IsInts V O n g → (∀ j, j < n → g j = 0) → Calls Try.prog 16 #[.slice (some ⟨b, off, none⟩) k cap, .slice O n cO] V fun e w' => ∃ v l, e = .returned (.tuple #[v, .int .i64 0]) ∧ (∃ x : Later V, w' = x.val) ∧ OwnI w' V.heap.size v l ∧ l.length = k ∧ l.getD 0 0 = sumN (R 0).f n ∧ ∀ j, j < k → 0 < j → l.getD j 0 = 0) := fun V O cO g h hI hz => by
        have hE : errE k R n g = 0 := by
          unfold errE
          rw [if_neg (by simp [hv]), if_neg]
          rw [hnn, Bool.not_eq_false]
          exact shareB_iff.2 ⟨rfl, fun j hj => by rw [hz j hj]; omega⟩
        refine Calls.mono (Worths_ok k cap n cO (some ⟨b, off, none⟩) O R g V (hp.below h) hI hE) ?_
        rintro e w' ⟨v, rfl, x, rfl, ho⟩
        refine ⟨v, _, rfl, ⟨x, rfl⟩, ho, listN_length _ _, ?_, fun j hj h0 => ?_⟩
        · rw [listN_get hk1]
          exact wth_all (f := (R 0).f) (c := g) (o := ((0 : Nat) : Int)) fun j hj => by rw [hz j hj]; rfl
        · rw [listN_get hj]
          exact wth_none fun q hq => by rw [hz q hq]; omega
      have PK : Hid (∀ V (O : Option Addr) (cO : Nat) (g : Nat → Int), Below w.heap.size w V → IsInts V O n g → (∀ j, j < n → 0 ≤ g j ∧ g j < k) → Calls Try.prog 30 #[.slice (some ⟨b, off, none⟩) k cap, .slice O n cO] V fun e w' => ∃ v l, e = .returned (.tuple #[v, .int .i64 0]) ∧ (∃ x : Later V, w' = x.val) ∧ OwnI w' V.heap.size v l ∧ l.length = n ∧ (0 < n → ∀ q : Nat, g 0 = q → topO (R q).f (fun j => l.getD j 0) (q : Nat) n = topN (R q).f n)) := fun V O cO g h hI hz => by
        refine Calls.mono (Pick_ok k cap n cO (some ⟨b, off, none⟩) O R g V W (hp.below h) hI hz) ?_
        rintro e w' ⟨v, rfl, x, rfl, ho⟩
        exact ⟨v, _, rfl, ⟨x, rfl⟩, ho, pickL_length _ _ _ _, fun hn q hq => pick_first (F := fT R) (K := k) (fun i hi j hj => W.val i hi j hj) hz hn hq⟩
      have SB := Lib.hid fun j (h : j ≤ n) => sumN_bd (g := (R 0).f) (M := 1000) (k := j) fun i hi => W.val 0 hk1 i (by omega)
      have SS := Lib.hid (sumN_succ (R 0).f)
      have S0 : Hid (sumN (R 0).f 0 = 0) := rfl
      clear hp hc hr hv hcv W
      have MK : ∀ w', (Instr.makeSlice 23 (.int .i64 (n : Int)) (.int .i64 (n : Int))).run Try.prog w' = .ok (.slice (some ⟨w'.heap.size, 0, none⟩) n n) (w'.alloc (.cells (madeCells #[Value.int .i64 0] n) 3)) := fun w' => make_ints w' n (by omega)
      have hnM : n ≤ 1000000 := by omega
      go_enter Try.func11, Try.ntmps11
      go_wp2_with (first | (go_at_call 13; with_reducible refine Calls.mono (Gives.calls (LG.out _ (by repeat (first | exact Below.refl _ _ | (with_reducible assumption) | apply below_later | apply below_alloc | apply below_drew | apply below_drewN)))) ?_; rintro e w1 ⟨rfl, z, rfl⟩) | ((go_at_call 21; with_reducible refine Calls.mono (Gives.calls (RV.out _ (by repeat (first | exact Below.refl _ _ | (with_reducible assumption) | apply below_later | apply below_alloc | apply below_drew | apply below_drewN)))) ?_; rintro e w1 ⟨rfl, z1, rfl⟩); obtain ⟨B0, la0, ca0, _⟩ := HD.out z1.val (by repeat (first | exact Below.refl _ _ | (with_reducible assumption) | apply below_later | apply below_alloc | apply below_drew | apply below_drewN))))
      have HBZ : Hid (Below w.heap.size w z1.val) := by show Below _ _ _; repeat (first | exact Below.refl _ _ | (with_reducible assumption) | apply below_later | apply below_alloc | apply below_drew | apply below_drewN)
      clear la0 ca0 RV LG
      generalize z1.val = Z at *
      go_cut [6, 7] (fun s6 s7 wx => ∃ g1 g2 : Nat, s6 = .slice (some ⟨g1, 0, none⟩) n n ∧ s7 = .slice (some ⟨g2, 0, none⟩) n n ∧ Below Z.heap.size Z wx ∧
        OwnI wx Z.heap.size (.slice (some ⟨g1, 0, none⟩) n n) (List.replicate n 0) ∧ OwnI wx Z.heap.size (.slice (some ⟨g2, 0, none⟩) n n) (List.replicate n 0) ∧ g1 ≠ g2)
      case first =>
        go_region
        all_goals
          go_wp2_with fail
          go_meet
          refine ⟨_, _, rfl, rfl, ?_, ?_, ?_, ?_⟩
          · with_reducible exact two_below _ _ _
          · (first | with_reducible exact two_own1 _ _ hnM _ | with_reducible exact two_own2 _ _ hnM _)
          · (first | with_reducible exact two_own1 _ _ hnM _ | with_reducible exact two_own2 _ _ hnM _)
          · omega
      case rest =>
        obtain ⟨g1, g2, rfl, rfl, hbx, ho1, ho2, hne⟩ := hcut
        have HBX := Lib.hid hbx
        have HO1 := Lib.hid ho1
        have HO2 := Lib.hid ho2
        clear MK hbx ho1 ho2
        go_wp2_with fail
        go_loopw [8] (fun u wr => ∃ (i : Nat) (l : List Int), u = .int .i64 (i : Nat) ∧ i ≤ n ∧ l.length = n ∧ Below Z.heap.size Z wr ∧ OwnI wr Z.heap.size (.slice (some ⟨g1, 0, none⟩) n n) (List.replicate n 0) ∧ OwnI wr Z.heap.size (.slice (some ⟨g2, 0, none⟩) n n) l ∧ ∀ j, j < n → 0 ≤ l.getD j 0 ∧ l.getD j 0 < k) (fun u _ => n - (intOf u).toNat)
        case atStart => exact ⟨0, _, rfl, by omega, by simp, HBX.out, HO1.out, HO2.out, fun j hj => by rw [getD_rep hj]; omega⟩
        case round =>
          obtain ⟨i, l, rfl, hi, hl, hbl, h1, h2, hall⟩ := hrel
          clear HBX HO1 HO2
          have HL := Lib.hid hl
          have HBX := Lib.hid hbl
          have HO1 := Lib.hid h1
          have HO2 := Lib.hid h2
          have HALL := Lib.hid hall
          have HBW : Hid (Below w.heap.size w wr) := below_more HBZ.out hbl
          clear hl hbl h1 h2 hall
          by_cases hlt : i < n
          · by_cases hm0 : m = 0
            · have e1 : decide ((0 : Int) < (m : Int)) = false := by simp; omega
              have e2 : decide (0 < m) = false := by simp; omega
              go_wp2_with fail
              first
                | (refine ⟨⟨i + 1, l, by go_num, by omega, HL.out, HBX.out, HO1.out, HO2.out, HALL.out⟩, ?_⟩; simp [intOf]; omega)
                | (go_roundw
                   case rel => exact ⟨i + 1, l, by go_num, by omega, HL.out, HBX.out, HO1.out, HO2.out, HALL.out⟩
                   case measure => simp [intOf]; omega)
            · have e1 : decide ((0 : Int) < (m : Int)) = true := by simp; omega
              have e2 : decide (0 < m) = true := by simp; omega
              obtain ⟨r, hr, hrm⟩ : ∃ r : Nat, (i : Int) % (m : Int) = (r : Int) ∧ r < m := ⟨i % m, by simp, Nat.mod_lt _ (by omega)⟩
              obtain ⟨bu, ou, hS, pu⟩ := (HU.out wr HBW.out).at_ (by omega)
              have HSO := Lib.hid hS
              rw [hS]
              have cu := pu.at_ r hrm
              have lu := pu.lt
              obtain ⟨u0, u1⟩ := HCV.out r hrm
              obtain ⟨q, hq⟩ : ∃ q : Nat, c r = (q : Int) := ⟨(c r).toNat, by omega⟩
              have hqb : q ≤ 255 := by omega
              rw [hq] at cu
              obtain ⟨o3, o4⟩ := HO2.out.cell HL.out hlt
              have o5 := (own_lt HO2.out g2 rfl).2
              have o6 := o4 i
              have hwq : IntKind.i64.wrap (q : Int) = (q : Int) := IntWalk.i64_in _ ⟨by omega, by omega⟩
              have hmd0 : 0 ≤ (q : Int) % (k : Int) := Int.emod_nonneg _ (by omega)
              have hmd1 : (q : Int) % (k : Int) < k := Int.emod_lt_of_pos _ (by omega)
              have HMD := Lib.hid (And.intro hmd0 hmd1)
              clear pu o4 u0 u1 hq hS hmd0 hmd1
              go_wp2_with fail
              try rw [← HSO.out]
              first
                | (refine ⟨⟨i + 1, l.set i ((q : Int) % (k : Int)), by go_num, by omega, by rw [List.length_set]; exact HL.out, HBX.out.setCell (p := ⟨g2, i, none⟩) (own_lt HO2.out g2 rfl).1 _, HO1.out.far (p := ⟨g2, i, none⟩) (fun g hg => by simp [Value.ownBlock] at hg; subst hg; exact fun e => hne e.symm), HO2.out.set HL.out i _, fun j hj => ?_⟩, ?_⟩
                   · rw [getD_setI (by rw [HL.out]; exact hlt)]
                     split
                     · exact HMD.out
                     · exact HALL.out j hj
                   · simp [intOf]; omega)
                | (go_roundw
                   case rel => exact ⟨i + 1, l.set i ((q : Int) % (k : Int)), by go_num, by omega, by rw [List.length_set]; exact HL.out, HBX.out.setCell (p := ⟨g2, i, none⟩) (own_lt HO2.out g2 rfl).1 _, HO1.out.far (p := ⟨g2, i, none⟩) (fun g hg => by simp [Value.ownBlock] at hg; subst hg; exact fun e => hne e.symm), HO2.out.set HL.out i _, fun j hj => by
                     rw [getD_setI (by rw [HL.out]; exact hlt)]
                     split
                     · exact HMD.out
                     · exact HALL.out j hj⟩
                   case measure => simp [intOf]; omega)
          · obtain rfl : i = n := by omega
            have I1 := Lib.hid (HO1.out.ints (by simp; omega)).2
            have I2 := Lib.hid (HO2.out.ints (by rw [HL.out]; omega)).2
            have WO1 := Lib.hid (WO.out wr _ i _ HBW.out I1.out fun j hj => getD_rep hj)
            have PK1 := Lib.hid fun V (h : Below wr.heap.size wr V) => PK.out V _ i _ (below_more HBW.out h) (I2.out.below h) HALL.out
            have HLB := Lib.hid (I2.out)
            obtain ⟨U, hU⟩ : ∃ U, wr = U := ⟨_, rfl⟩
            rw [hU] at WO1 PK1 HLB HBW ⊢
            clear WO PK HO1 HO2 HBX I1 I2 hU HU HCV
            have e5 : ((k : Int) != (k : Int)) = false := by simp
            go_wp2_with (go_at_call 16; with_reducible refine Calls.mono WO1.out ?_; rintro e w1 ⟨v, la, rfl, ⟨y1, rfl⟩, ho, hla, hl0, hlz⟩; obtain ⟨go, cO, rfl, hgo1, hgo2, _⟩ := ho.form hla hk1; have HOL := Lib.hid ho; have HLA := Lib.hid hla; have HL0 := Lib.hid hl0; have HLZ := Lib.hid hlz; clear ho hla hl0 hlz)
            have HBY : Hid (Below U.heap.size U y1.val) := by show Below _ _ _; repeat (first | exact Below.refl _ _ | (with_reducible assumption) | apply below_later | apply below_alloc | apply below_drew | apply below_drewN)
            have HG : Hid (U.heap.size ≤ go) := hgo1
            generalize y1.val = Y at *
            clear hgo1 hgo2 WO1
            go_loopw [11] (fun u wr => ∃ (j : Nat) (l : List Int), u = .int .i64 (j : Nat) ∧ j ≤ i ∧ l.length = k ∧ Below U.heap.size U wr ∧ OwnI wr U.heap.size (.slice (some ⟨go, 0, none⟩) k cO) l ∧ l.getD 0 0 = sumN (R 0).f i - sumN (R 0).f j ∧ ∀ x, x < k → 0 < x → l.getD x 0 = 0) (fun u _ => i - (intOf u).toNat)
            case atStart => exact ⟨0, la, rfl, by omega, HLA.out, HBY.out, HOL.out, by rw [HL0.out, S0.out]; omega, HLZ.out⟩
            case round =>
              obtain ⟨j, lb, rfl, hj, hlb, hbl, ho, hl0, hlz⟩ := hrel
              clear HBY HOL HLA HL0 HLZ
              have HLB2 := Lib.hid hlb
              have HBL := Lib.hid hbl
              have HO := Lib.hid ho
              have HL0 := Lib.hid hl0
              have HLZ := Lib.hid hlz
              have HBV : Hid (Below w.heap.size w wr) := below_more HBW.out hbl
              clear hlb hbl ho hl0 hlz
              by_cases hlt2 : j < i
              · obtain ⟨B2, la2, ca2, hI2⟩ := HD.out wr HBV.out
                obtain ⟨br, or', hBr, pr⟩ := hI2.at_ (by omega)
                have cr := pr.at_ j hlt2
                have lr := pr.lt
                rw [hBr] at ca2
                obtain ⟨o1, o2⟩ := HO.out.cell HLB2.out hk1
                have o3 := (own_lt HO.out go rfl).2
                have o4 := o2 0
                obtain ⟨s0, s1⟩ := SB.out j (by omega)
                obtain ⟨s2, s3⟩ := SB.out i (Nat.le_refl _)
                obtain ⟨v0, v1⟩ := VV.out 0 hk1 j hlt2
                have SSj := Lib.hid (SS.out j)
                rw [HL0.out] at o1
                have KC : Hid (∀ y : Later wr, Below U.heap.size U (y.val.setCell ⟨go, 0, none⟩ (.int .i64 (sumN (R 0).f i - sumN (R 0).f j - (R 0).f j))) ∧ OwnI (y.val.setCell ⟨go, 0, none⟩ (.int .i64 (sumN (R 0).f i - sumN (R 0).f j - (R 0).f j))) U.heap.size (.slice (some ⟨go, 0, none⟩) k cO) (lb.set 0 (sumN (R 0).f i - sumN (R 0).f j - (R 0).f j))) := fun y =>
                  ⟨(below_more HBL.out y.ok).setCell (p := ⟨go, 0, none⟩) HG.out _, (HO.out.later y).set HLB2.out 0 _⟩
                clear pr hI2 hBr o2
                generalize sumN (R 0).f i = si at *
                generalize sumN (R 0).f j = sj at *
                generalize (R 0).f j = fj at *
                generalize (R 0).c = rc at *
                go_wp2_with fail
                refine wp_region_tail 0 11 (by kernel_rfl) (by kernel_rfl) ?_
                simp only [List.take_succ_cons, List.take_zero, List.drop_succ_cons, List.drop_zero]
                repeat (go_big_quiet_step ((fail)))
                refine wpQuiet_nil ?_
                intro y9
                go_wp2
                refine calm_normal ?_
                go_wp2
                first
                  | (go_roundw
                     case rel => exact ⟨j + 1, _, by go_num, by omega, by rw [List.length_set]; exact HLB2.out, (KC.out y9).1, (KC.out y9).2, by rw [getD_setI (by rw [HLB2.out]; exact hk1), if_pos rfl, SSj.out]; omega, fun x hx h0 => by
                       rw [getD_setI (by rw [HLB2.out]; exact hk1), if_neg (by omega)]
                       exact HLZ.out x hx h0⟩
                     case measure => simp [intOf]; omega)
                  | (refine ⟨⟨j + 1, _, by go_num, by omega, by rw [List.length_set]; exact HLB2.out, (KC.out y9).1, (KC.out y9).2, by rw [getD_setI (by rw [HLB2.out]; exact hk1), if_pos rfl, SSj.out]; omega, fun x hx h0 => by
                       rw [getD_setI (by rw [HLB2.out]; exact hk1), if_neg (by omega)]
                       exact HLZ.out x hx h0⟩, ?_⟩; simp [intOf]; omega)
              · obtain rfl : j = i := by omega
                have HZ : Hid (∀ x, x < k → lb.getD x 0 = 0) := fun x hx => by
                  by_cases e : 0 < x
                  · exact HLZ.out x hx e
                  · obtain rfl : x = 0 := by omega
                    rw [HL0.out]
                    omega
                have IL := Lib.hid (HO.out.ints (by rw [HLB2.out]; omega)).2
                clear HO HL0 HLZ
                go_wp2_with fail
                obtain ⟨X, hX⟩ : ∃ X, wr = X := ⟨_, rfl⟩
                rw [hX] at IL HBL HBV ⊢
                clear hX
                go_loopw [12] (fun u wr => ∃ x : Nat, u = .int .i64 (x : Nat) ∧ x ≤ k ∧ ∃ y : Later X, wr = y.val) (fun u _ => k - (intOf u).toNat)
                case atStart => exact ⟨0, rfl, by omega, later_of (by repeat (first | exact Below.refl _ _ | (with_reducible assumption) | apply below_later | apply below_alloc | apply below_drew | apply below_drewN))⟩
                case round =>
                  obtain ⟨x, rfl, hx, y, rfl⟩ := hrel
                  by_cases hlt3 : x < k
                  · have cx := ((IL.out.later y).at_ hk1)
                    obtain ⟨g9, o9, hg9, p9⟩ := cx
                    simp only [Option.some.injEq, Addr.mk.injEq, and_true] at hg9
                    obtain ⟨rfl, rfl⟩ := hg9
                    have c9 := p9.at_ x hlt3
                    have l9 := p9.lt
                    rw [HZ.out x hlt3, Nat.zero_add] at c9
                    clear p9
                    go_wp2_with fail
                    first
                      | (go_roundw
                         case rel => exact ⟨x + 1, by go_num, by omega, later_of (by repeat (first | exact Below.refl _ _ | (with_reducible assumption) | apply below_later | apply below_alloc | apply below_drew | apply below_drewN))⟩
                         case measure => simp [intOf]; omega)
                      | (refine ⟨⟨x + 1, by go_num, by omega, later_of (by repeat (first | exact Below.refl _ _ | (with_reducible assumption) | apply below_later | apply below_alloc | apply below_drew | apply below_drewN))⟩, ?_⟩; simp [intOf]; omega)
                  · obtain rfl : x = k := by omega
                    have HBY : Hid (Below U.heap.size U y.val) := below_more HBL.out y.ok
                    have HBYW : Hid (Below w.heap.size w y.val) := below_more HBV.out y.ok
                    have PK2 := Lib.hid (PK1.out y.val HBY.out)
                    have HI2 := Lib.hid (HLB.out.below HBY.out)
                    clear PK1 HBL HBV IL HZ HLB
                    generalize y.val = X2 at *
                    have e6 : ((j : Int) != (j : Int)) = false := by simp
                    go_wp2_with (go_at_call 30; with_reducible refine Calls.mono PK2.out ?_; rintro e w1 ⟨v, sh, rfl, ⟨y2, rfl⟩, ho, hsl, hmx⟩; obtain ⟨P, cP, rfl⟩ := ho.shape_n hsl; have IS := Lib.hid (ho.ints (by rw [hsl]; omega)).2; have HMX := Lib.hid hmx; clear ho hmx)
                    have HBQ : Hid (Below w.heap.size w y2.val) := below_more HBYW.out (by repeat (first | exact Below.refl _ _ | (with_reducible assumption) | apply below_later | apply below_alloc | apply below_drew | apply below_drewN))
                    have JI : Hid (IsInts y2.val (some ⟨g2, 0, none⟩) j fun q => l.getD q 0) := HI2.out.below (by repeat (first | exact Below.refl _ _ | (with_reducible assumption) | apply below_later | apply below_alloc | apply below_drew | apply below_drewN))
                    have JS : Hid (IsInts y2.val P j fun q => sh.getD q 0) := IS.out.below (by repeat (first | exact Below.refl _ _ | (with_reducible assumption) | apply below_later | apply below_alloc | apply below_drew | apply below_drewN))
                    clear HI2 IS PK2 HBY HBYW
                    generalize y2.val = Q at *
                    have TBN := Lib.hid fun (q p : Nat) (hq : q < x) (hp : p ≤ j) => topN_bd (g := (R q).f) (k := p) fun z hz => VV.out q hq z (by omega)
                    have TBO := Lib.hid fun (q p : Nat) (hq : q < x) (hp : p ≤ j) => topO_bd (f := (R q).f) (c := fun z => sh.getD z 0) (o := (q : Nat)) (m := p) fun z hz => VV.out q hq z (by omega)
                    have TSN : Hid (∀ q p : Nat, topN (R q).f (p + 1) = max (topN (R q).f p) ((R q).f p)) := fun _ _ => rfl
                    have TSO : Hid (∀ q p : Nat, topO (R q).f (fun z => sh.getD z 0) (q : Nat) (p + 1) = if sh.getD p 0 = (q : Nat) then max (topO (R q).f (fun z => sh.getD z 0) (q : Nat) p) ((R q).f p) else topO (R q).f (fun z => sh.getD z 0) (q : Nat) p) := fun _ _ => rfl
                    have T00 : Hid (∀ q : Nat, topN (R q).f 0 = 0 ∧ topO (R q).f (fun z => sh.getD z 0) (q : Nat) 0 = 0) := fun _ => ⟨rfl, rfl⟩
                    go_loopw [14] (fun u wr => ∃ d : Nat, u = .int .i64 (d : Nat) ∧ d ≤ x ∧ ∃ y : Later Q, wr = y.val) (fun u _ => x - (intOf u).toNat)
                    case atStart => exact ⟨0, rfl, by omega, later_of (by repeat (first | exact Below.refl _ _ | (with_reducible assumption) | apply below_later | apply below_alloc | apply below_drew | apply below_drewN))⟩
                    case round =>
                      obtain ⟨d, rfl, hd, y, rfl⟩ := hrel
                      by_cases hgo : d < x ∧ 0 < j
                      · obtain ⟨hd1, hj1⟩ := hgo
                        have e7 : decide ((d : Int) < (x : Int)) = true := by simp; omega
                        have e8 : decide ((0 : Int) < (j : Int)) = true := by simp; omega
                        have e9 : decide (0 < j) = true := by simp; omega
                        obtain ⟨q, hq, hqx⟩ := cast_of (HALL.out 0 hj1).1 (HALL.out 0 hj1).2
                        obtain ⟨ga, oa, hga, pa⟩ := (JI.out.later y).at_ hj1
                        simp only [Option.some.injEq, Addr.mk.injEq, and_true] at hga
                        obtain ⟨rfl, rfl⟩ := hga
                        have ca := pa.at_ 0 hj1
                        have la := pa.lt
                        rw [hq, Nat.zero_add] at ca
                        have HMQ := Lib.hid (HMX.out hj1 q hq)
                        have YV : Hid (∀ V, Below y.val.heap.size y.val V → ∃ y' : Later Q, V = y'.val) := fun V h => ⟨⟨V, below_more y.ok h⟩, rfl⟩
                        clear pa hq
                        by_cases hqd : q = d
                        · subst hqd
                          have e10 : ((q : Int) != (q : Int)) = false := by simp
                          have TBNq := Lib.hid fun p hp => TBN.out q p hqx hp
                          have TBOq := Lib.hid fun p hp => TBO.out q p hqx hp
                          have TSNq := Lib.hid fun p => TSN.out q p
                          have TSOq := Lib.hid fun p => TSO.out q p
                          have T0q := Lib.hid (T00.out q)
                          have CEq := Lib.hid fun V h p hp => CE.out V h q p hqx hp
                          have VVq := Lib.hid (VV.out q hqx)
                          have HBR : Hid (Below w.heap.size w y.val) := below_more HBQ.out y.ok
                          have JSR := Lib.hid (JS.out.later y)
                          generalize topO (R q).f (fun z => sh.getD z 0) (q : Nat) = TO at *
                          generalize topN (R q).f = TN at *
                          generalize (R q).f = f at *
                          generalize (R q).c = rc at *
                          generalize y.val = G at *
                          go_wp2_with fail
                          go_loopw [15, 16, 17] (fun u1 u2 v wr => ∃ p : Nat, u1 = .int .i64 (TN p) ∧ u2 = .int .i64 (TO p) ∧ v = .int .i64 (p : Nat) ∧ p ≤ j ∧ ∃ z : Later G, wr = z.val) (fun _ _ v _ => j - (intOf v).toNat)
                          case atStart => exact ⟨0, by rw [T0q.out.1], by rw [T0q.out.2], rfl, by omega, later_of (by repeat (first | exact Below.refl _ _ | (with_reducible assumption) | apply below_later | apply below_alloc | apply below_drew | apply below_drewN))⟩
                          case round =>
                            obtain ⟨p, rfl, rfl, rfl, hp, z, rfl⟩ := hrel
                            by_cases hp2 : p < j
                            · obtain ⟨br, br', lt1, ct1, lr1, cr1⟩ := CEq.out z.val (below_more HBR.out z.ok) p hp2
                              obtain ⟨bs, os', hS, ps⟩ := (JSR.out.later z).at_ (by omega)
                              have HSO := Lib.hid hS
                              rw [hS]
                              have cs := ps.at_ p hp2
                              have ls := ps.lt
                              obtain ⟨a0, a1⟩ := TBNq.out p (by omega)
                              obtain ⟨a2, a3⟩ := TBOq.out p (by omega)
                              obtain ⟨a4, a5⟩ := VVq.out p hp2
                              have N1 := Lib.hid (TSNq.out p)
                              have N2 := Lib.hid (TSOq.out p)
                              clear ps hS
                              generalize TN p = tn at *
                              generalize TO p = tq at *
                              generalize f p = fp at *
                              generalize sh.getD p 0 = sp at *
                              by_cases hs : sp = (q : Nat)
                              · have e11 : (sp == ((q : Nat) : Int)) = true := by rw [hs]; simp
                                have N3 : Hid (TO (p + 1) = max tq fp) := by show _ = _; rw [N2.out, if_pos hs]
                                clear hs
                                go_wp2_with fail
                                all_goals
                                  try rw [← HSO.out]
                                  first
                                    | (refine ⟨⟨p + 1, by rw [N1.out]; first | rfl | (congr 1; split <;> omega) | (congr 1; omega), by rw [N3.out]; first | rfl | (congr 1; split <;> omega) | (congr 1; omega), by go_num, by omega, later_of (by repeat (first | exact Below.refl _ _ | (with_reducible assumption) | apply below_later | apply below_alloc | apply below_drew | apply below_drewN))⟩, ?_⟩; simp [intOf]; omega)
                                    | (go_roundw
                                       case rel => exact ⟨p + 1, by rw [N1.out]; first | rfl | (congr 1; split <;> omega) | (congr 1; omega), by rw [N3.out]; first | rfl | (congr 1; split <;> omega) | (congr 1; omega), by go_num, by omega, later_of (by repeat (first | exact Below.refl _ _ | (with_reducible assumption) | apply below_later | apply below_alloc | apply below_drew | apply below_drewN))⟩
                                       case measure => simp [intOf]; omega)
                              · have e11 : (sp == ((q : Nat) : Int)) = false := by simp [hs]
                                have N3 : Hid (TO (p + 1) = tq) := by show _ = _; rw [N2.out, if_neg hs]
                                clear hs
                                go_wp2_with fail
                                all_goals
                                  try rw [← HSO.out]
                                  first
                                    | (refine ⟨⟨p + 1, by rw [N1.out]; first | rfl | (congr 1; split <;> omega) | (congr 1; omega), by rw [N3.out], by go_num, by omega, later_of (by repeat (first | exact Below.refl _ _ | (with_reducible assumption) | apply below_later | apply below_alloc | apply below_drew | apply below_drewN))⟩, ?_⟩; simp [intOf]; omega)
                                    | (go_roundw
                                       case rel => exact ⟨p + 1, by rw [N1.out]; first | rfl | (congr 1; split <;> omega) | (congr 1; omega), by rw [N3.out], by go_num, by omega, later_of (by repeat (first | exact Below.refl _ _ | (with_reducible assumption) | apply below_later | apply below_alloc | apply below_drew | apply below_drewN))⟩
                                       case measure => simp [intOf]; omega)
                            · obtain rfl : p = j := by omega
                              rw [HMQ.out]
                              generalize TN p = tn at *
                              have e12 : (tn != tn) = false := by simp
                              go_wp2_with fail
                              first
                                | (refine ⟨⟨q + 1, by go_num, by omega, YV.out _ z.ok⟩, ?_⟩; simp [intOf]; omega)
                                | (go_roundw
                                   case rel => exact ⟨q + 1, by go_num, by omega, YV.out _ z.ok⟩
                                   case measure => simp [intOf]; omega)
                        · have e10 : ((q : Int) != (d : Int)) = true := by simp; omega
                          clear hqd
                          go_wp2_with fail
                          first
                            | (refine ⟨⟨d + 1, by go_num, by omega, later_of (by repeat (first | exact Below.refl _ _ | (with_reducible assumption) | apply below_later | apply below_alloc | apply below_drew | apply below_drewN))⟩, ?_⟩; simp [intOf]; omega)
                            | (go_roundw
                               case rel => exact ⟨d + 1, by go_num, by omega, later_of (by repeat (first | exact Below.refl _ _ | (with_reducible assumption) | apply below_later | apply below_alloc | apply below_drew | apply below_drewN))⟩
                               case measure => simp [intOf]; omega)
                      · by_cases hdx : d < x
                        · obtain rfl : j = 0 := by omega
                          have e7 : decide ((d : Int) < (x : Int)) = true := by simp; omega
                          go_wp2_with (go_at_call 14; with_reducible refine Calls.mono (Gives.calls (FL.out _)) ?_; rintro e w1 ⟨rfl, z9, rfl⟩)
                          go_ret
                          exact ⟨rfl, later_of (below_more HBQ.out (by repeat (first | exact Below.refl _ _ | (with_reducible assumption) | apply below_later | apply below_alloc | apply below_drew | apply below_drewN)))⟩
                        · have e7 : decide ((d : Int) < (x : Int)) = false := by simp; omega
                          go_wp2_with (go_at_call 14; with_reducible refine Calls.mono (Gives.calls (FL.out _)) ?_; rintro e w1 ⟨rfl, z9, rfl⟩)
                          go_ret
                          exact ⟨rfl, later_of (below_more HBQ.out (by repeat (first | exact Below.refl _ _ | (with_reducible assumption) | apply below_later | apply below_alloc | apply below_drew | apply below_drewN)))⟩
end Go.Proofs.Ytjmjafpjfhgfdaa
