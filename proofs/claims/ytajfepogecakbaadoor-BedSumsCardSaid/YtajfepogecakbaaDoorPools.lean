/- bed.Pools. -/
import Derived.Test.YtajfepogecakbaaDoorGroups
import Derived.Test.YtajfepogecakbaaDoorPoolsMath
import Derived.Test.YtajfepogecakbaaDoorBedValid
import Derived.Maps.OwnSet
namespace Go.Proofs.YtajfepogecakbaaDoor
open Go.RowKit Go.Maps

set_option maxHeartbeats 1600000 in
theorem onRim_any (W H at_ n cap : Nat) (A : Option Addr) (w : World) (hW : 1 ≤ W) (hW2 : W ≤ 30) (hH : 1 ≤ H) (hH2 : H ≤ 30) (hat : at_ < W * H) :
    Gives Tryd.prog 78 #[.agg #[.int .i64 W, .int .i64 H, .slice A n cap], .int .i64 at_] w (.bool (rimB W H at_)) := by
  have hat2 : at_ < 900 := Nat.lt_of_lt_of_le hat (Nat.mul_le_mul hW2 hH2)
  have b1 : (at_ : Int) % (W : Int) < 30 := by have := Int.emod_lt_of_pos (at_ : Int) (show (0 : Int) < W by omega); omega
  have b2 : 0 ≤ (at_ : Int) % (W : Int) := Int.emod_nonneg _ (by omega)
  have b3 : (at_ : Int) / (W : Int) < 900 := by have := Int.ediv_le_self (W : Int) (show 0 ≤ (at_ : Int) by omega); omega
  have b4 : 0 ≤ (at_ : Int) / (W : Int) := Int.ediv_nonneg (by omega) (by omega)
  have k1 : ((at_ : Int) % (W : Int) = 0) ↔ at_ % W = 0 := by rw [int_mod]; omega
  have k2 : ((at_ : Int) % (W : Int) = (W : Int) - 1) ↔ at_ % W + 1 = W := by rw [int_mod]; omega
  have k3 : ((at_ : Int) / (W : Int) = 0) ↔ at_ / W = 0 := by rw [int_div]; omega
  have k4 : ((at_ : Int) / (W : Int) = (H : Int) - 1) ↔ at_ / W + 1 = H := by rw [int_div]; omega
  have HR : Hid (rimB W H at_ = (((((at_ : Int) % (W : Int) == 0) || ((at_ : Int) % (W : Int) == (W : Int) - 1)) || ((at_ : Int) / (W : Int) == 0)) || ((at_ : Int) / (W : Int) == (H : Int) - 1))) := by
    show _ = _
    unfold rimB
    rw [Bool.eq_iff_iff]
    simp only [Bool.or_eq_true, decide_eq_true_eq, beq_iff_eq]
    rw [k1, k2, k3, k4]
  generalize rimB W H at_ = r at HR ⊢
  clear k1 k2 k3 k4 hat
  cases q1 : ((at_ : Int) % (W : Int) == 0)
  · cases q2 : ((at_ : Int) % (W : Int) == (W : Int) - 1)
    · cases q3 : ((at_ : Int) / (W : Int) == 0)
      · cases q4 : ((at_ : Int) / (W : Int) == (H : Int) - 1)
        all_goals
          rw [q1, q2, q3, q4] at HR
          go_enter Tryd.func78, Tryd.ntmps78
          go_wp2_with fail
          first | (with_reducible show Code.wp _ _ _ _ (Later.val _); refine wp_region_later_at _ (by kernel_rfl) (by kernel_rfl) ?_) | refine wp_region_later (by kernel_rfl) (by kernel_rfl) ?_
          repeat (go_big_quiet_step ((fail)))
          refine wpQuiet_nil ?_
          intro y0
          go_wp2
          go_ret
          exact ⟨ret_bool HR.out.symm, later_of (by repeat (first | exact Below.refl _ _ | (with_reducible assumption) | apply below_later | apply below_alloc | apply below_drew | apply below_drewN))⟩
      · rw [q1, q2, q3] at HR
        go_enter Tryd.func78, Tryd.ntmps78
        go_wp2_with fail
        first | (with_reducible show Code.wp _ _ _ _ (Later.val _); refine wp_region_later_at _ (by kernel_rfl) (by kernel_rfl) ?_) | refine wp_region_later (by kernel_rfl) (by kernel_rfl) ?_
        repeat (go_big_quiet_step ((fail)))
        refine wpQuiet_nil ?_
        intro y0
        go_wp2
        go_ret
        exact ⟨ret_bool HR.out.symm, later_of (by repeat (first | exact Below.refl _ _ | (with_reducible assumption) | apply below_later | apply below_alloc | apply below_drew | apply below_drewN))⟩
    · rw [q1, q2] at HR
      go_enter Tryd.func78, Tryd.ntmps78
      go_wp2_with fail
      first | (with_reducible show Code.wp _ _ _ _ (Later.val _); refine wp_region_later_at _ (by kernel_rfl) (by kernel_rfl) ?_) | refine wp_region_later (by kernel_rfl) (by kernel_rfl) ?_
      repeat (go_big_quiet_step ((fail)))
      refine wpQuiet_nil ?_
      intro y0
      go_wp2
      go_ret
      exact ⟨ret_bool (by rw [HR.out]; rfl), later_of (by repeat (first | exact Below.refl _ _ | (with_reducible assumption) | apply below_later | apply below_alloc | apply below_drew | apply below_drewN))⟩
  · rw [q1] at HR
    go_enter Tryd.func78, Tryd.ntmps78
    go_wp2_with fail
    first | (with_reducible show Code.wp _ _ _ _ (Later.val _); refine wp_region_later_at _ (by kernel_rfl) (by kernel_rfl) ?_) | refine wp_region_later (by kernel_rfl) (by kernel_rfl) ?_
    repeat (go_big_quiet_step ((fail)))
    refine wpQuiet_nil ?_
    intro y0
    go_wp2
    go_ret
    exact ⟨ret_bool (by rw [HR.out]; rfl), later_of (by repeat (first | exact Below.refl _ _ | (with_reducible assumption) | apply below_later | apply below_alloc | apply below_drew | apply below_drewN))⟩

theorem wf_near {i : Int} (h0 : -1 ≤ i) (h1 : i ≤ 1000) : (Lit.int .i64 i).wf = true := by
  show (decide (IntKind.i64.min ≤ i) && decide (i ≤ IntKind.i64.max)) = true
  rw [show IntKind.i64.min = -9223372036854775808 from rfl, show IntKind.i64.max = 9223372036854775807 from rfl]
  simp only [Bool.and_eq_true, decide_eq_true_eq]
  omega
theorem law_int : Keyed Tryd.prog 3 := int_keyed Tryd.underlying3
set_option maxRecDepth 100000 in
theorem pools_bad (W H : Int) (n cap : Nat) (A : Option Addr) (f : Nat → Int) (w : World) (hv : validM W H n f = false) (hp : IsInts w A n f) :
    Gives Tryd.prog 33 #[.agg #[.int .i64 W, .int .i64 H, .slice A n cap]] w (.tuple #[.int .i64 0, .int .i64 20]) := by
  have V : Hid (∀ w', IsInts w' A n f → Gives Tryd.prog 19 #[.agg #[.int .i64 W, .int .i64 H, .slice A n cap]] w' (.bool false)) := fun w' h => hv ▸ bvalid_any W H A n cap f w' h
  have HP := Lib.hid hp
  clear hv hp
  go_enter Tryd.func33, Tryd.ntmps33
  go_wp2_with (go_at_call 19; (first | (with_reducible show Calls _ _ _ (Later.val _) _; with_reducible refine Calls.mono (Later.call _ (V.out _ (HP.out.later ⟨_, by repeat (first | exact Below.refl _ _ | (with_reducible assumption) | apply below_later | apply below_alloc | apply below_drew | apply below_drewN)⟩))) ?_) | (with_reducible refine Calls.mono (Gives.calls (V.out _ (HP.out.later ⟨_, by repeat (first | exact Below.refl _ _ | (with_reducible assumption) | apply below_later | apply below_alloc | apply below_drew | apply below_drewN)⟩))) ?_)); rintro e w1 ⟨rfl, z, rfl⟩)
  go_ret2
  exact ⟨rfl, later_of (by repeat (first | exact Below.refl _ _ | (with_reducible assumption) | apply below_later | apply below_alloc | apply below_drew | apply below_drewN))⟩

/-- What the loop of bed.Pools keeps. -/
structure LKeep (M : Obj) (W H n gv cap mb : Nat) (nm : Nat → Int) (nums : List Int) (k : Nat) (w V : World) : Prop where
  below : Below w.heap.size w V
  box : V.heap[w.heap.size]? = some M
  own : OwnI V (w.heap.size + 1) (.slice (some ⟨gv, 0, none⟩) n cap) nums
  map_ : V.ownsMap Tryd.prog 3 (plainElem (H := Unit) Tryd.prog 4) mb k (setOf (.lit (.bool true)) (openL W H nm k))
section
variable {M : Obj} {W H n gv cap mb : Nat} {nm : Nat → Int} {nums : List Int} {k : Nat} {w V V' : World}
theorem LKeep.later (h : LKeep M W H n gv cap mb nm nums k w V) (x : Later V) : LKeep M W H n gv cap mb nm nums k w x.val :=
  ⟨below_more h.below x.ok, (x.ok.block _ (lt_of_get h.box)).trans h.box, h.own.later x, h.map_.kept (grown_of_later x) (by simp)⟩
theorem LKeep.skip (h : LKeep M W H n gv cap mb nm nums k w V) (hs : openB W H nm k = false) : LKeep M W H n gv cap mb nm nums (k + 1) w V :=
  ⟨h.below, h.box, h.own, by rw [openL_step, hs, if_neg (by simp), List.append_nil]; exact h.map_.mono (by omega)⟩
theorem LKeep.put (h : LKeep M W H n gv cap mb nm nums k w V) (hM : ∀ a b, M ≠ .map a b) (hs : openB W H nm k = true) (hg : V.grownBy V' (some mb)) (hm : V'.ownsMap Tryd.prog 3 (plainElem (H := Unit) Tryd.prog 4) mb (k + 1) ((setOf (.lit (.bool true)) (openL W H nm k)).put (.int .i64 (nm k)) (.lit (.bool true)))) (hmb : w.heap.size ≤ mb) :
    LKeep M W H n gv cap mb nm nums (k + 1) w V' := by
  have hmap : ∃ es clock, V.heap[mb]? = some (.map es clock) := by obtain ⟨es, clock, h1, _⟩ := h.map_; exact ⟨es, clock, h1⟩
  obtain ⟨es, clock, hmap⟩ := hmap
  refine ⟨h.below.grown hg h.below.size fun j hj => by cases hj; exact hmb, (hg.block _ (lt_of_get h.box) (fun e => ?_)).trans h.box, h.own.moved fun g hg' => hg.block _ (own_lt h.own g hg').2 (fun e => ?_), ?_⟩
  · have e : w.heap.size = mb := Option.some.inj e
    rw [← e, h.box] at hmap
    exact hM _ _ (Option.some.inj hmap)
  · have e : g = mb := Option.some.inj e
    obtain ⟨cur, hc⟩ := h.own.block
    obtain rfl : gv = g := by simpa [Value.ownBlock] using hg'
    rw [e, hmap] at hc
    cases hc
  · rw [openL_step, hs, if_pos rfl, setOf_snoc]; exact hm
end

set_option maxRecDepth 100000 in
set_option maxHeartbeats 3200000 in
theorem pools_ok (W H n cap : Nat) (A : Option Addr) (f : Nat → Int) (w : World) (hv : validM W H n f = true) (hp : IsInts w A n f) :
    Gives Tryd.prog 33 #[.agg #[.int .i64 W, .int .i64 H, .slice A n cap]] w (.tuple #[.int .i64 ((poolsN W H f : Nat) : Int), .int .i64 0]) := by
  have V : Hid (∀ w', IsInts w' A n f → Gives Tryd.prog 19 #[.agg #[.int .i64 W, .int .i64 H, .slice A n cap]] w' (.bool true)) := fun w' h => hv ▸ bvalid_any W H A n cap f w' h
  obtain ⟨⟨v1, v2⟩, ⟨v3, v4⟩, hn, _⟩ := validM_iff.1 hv
  have hn' : n = W * H := by rw [← Int.natCast_mul] at hn; omega
  have hW1 : 1 ≤ W := by omega
  have hH1 : 1 ≤ H := by omega
  have h0 : 0 < n := by
    have := Nat.mul_le_mul hW1 hH1
    omega
  have hn9 : n ≤ 900 := by rw [hn']; exact Nat.mul_le_mul (show W ≤ 30 by omega) (show H ≤ 30 by omega)
  obtain ⟨b, off, rfl, p⟩ := hp.at_ h0
  have hmb : (W : Int) * (H : Int) ≤ 900 := by omega
  have hm0 : 0 ≤ (W : Int) * (H : Int) := by omega
  have GR : Hid (∀ (w1 : World) (bm : Nat), Ints w1 b off n f → w1.cell? ⟨bm, 0, none⟩ = some (.int .i64 W) → w1.cell? ⟨bm, 1, none⟩ = some (.int .i64 H) → w1.cell? ⟨bm, 2, none⟩ = some (.slice (some ⟨b, off, none⟩) n cap) →
      Calls Tryd.prog 74 #[.agg #[.int .i64 W, .int .i64 H, .slice (some ⟨b, off, none⟩) n cap], .func (.func 75) #[] #[.pointer (some ⟨bm, 0, none⟩)], .func (.func 76) #[] #[.pointer (some ⟨bm, 0, none⟩)]] w1 (PostG w1 n (esPools W H f) (belPools f))) := fun w1 bm q c0 c1 c2 =>
    groupsPools W H n cap b off bm f w1 (esPools W H f) hW1 (by omega) hH1 (by omega) hn' q c0 c1 c2 (hn' ▸ net_pools hW1)
  have RM : Hid (∀ (k : Nat) (w : World), k < n → Gives Tryd.prog 78 #[.agg #[.int .i64 W, .int .i64 H, .slice (some ⟨b, off, none⟩) n cap], .int .i64 k] w (.bool (rimB W H k))) := fun k w hk => onRim_any W H k n cap _ w hW1 (by omega) hH1 (by omega) (by rw [← hn']; exact hk)
  have CNT : Hid (∀ nm : Nat → Int, (∀ i, i < n → nm i = grp (esPools W H f) (belPools f) i) → ((openL W H nm n).foldl addKey []).length + poolsN W H f = setsTo (esPools W H f) (belPools f) n) := fun nm h => by
    rw [hn'] at h ⊢
    exact open_count hW1 h
  have GB : Hid (∀ i, -1 ≤ grp (esPools W H f) (belPools f) i ∧ grp (esPools W H f) (belPools f) i ≤ i) := fun i => by
    unfold grp
    have h1 := (rootOf_spec (esPools W H f) i).1
    have h2 := num_le_n (rootOf (esPools W H f) i) (fun r => IsRoot (Conn (esPools W H f)) r ∧ belPools f r = true)
    unfold setsTo
    split <;> omega
  have SB : setsTo (esPools W H f) (belPools f) n ≤ n := num_le_n _ _
  obtain ⟨tot, htot⟩ : ∃ tot, setsTo (esPools W H f) (belPools f) n = tot := ⟨_, rfl⟩
  obtain ⟨pl, hpl⟩ : ∃ pl, poolsN W H f = pl := ⟨_, rfl⟩
  rw [htot] at CNT SB
  rw [hpl] at CNT ⊢
  have HT := Lib.hid htot
  have HP := Lib.hid hp
  have P := Lib.hid p
  have HN := Lib.hid hn
  have hmm := @run_makeMap Tryd.prog
  clear hp p hn hn' htot hpl hv
  go_enter Tryd.func33, Tryd.ntmps33
  go_wp2_with (go_at_call 19; (first | (with_reducible show Calls _ _ _ (Later.val _) _; with_reducible refine Calls.mono (Later.call _ (V.out _ (HP.out.later ⟨_, by repeat (first | exact Below.refl _ _ | (with_reducible assumption) | apply below_later | apply below_alloc | apply below_drew | apply below_drewN)⟩))) ?_) | (with_reducible refine Calls.mono (Gives.calls (V.out _ (HP.out.later ⟨_, by repeat (first | exact Below.refl _ _ | (with_reducible assumption) | apply below_later | apply below_alloc | apply below_drew | apply below_drewN)⟩))) ?_)); rintro e w1 ⟨rfl, z, rfl⟩)
  have zz := z.size
  simp only [World.size_alloc] at zz
  have zc : z.val.heap[w.heap.size]? = some (.cells #[.int .i64 W, .int .i64 H, .slice (some ⟨b, off, none⟩) n cap] 24) := (z.ok.block _ (by simp)).trans (World.alloc_heap_new _ _)
  have zp : Ints z.val b off n f := (P.out.later ⟨w.alloc (.cells #[.int .i64 W, .int .i64 H, .slice (some ⟨b, off, none⟩) n cap] 24), by repeat (first | exact Below.refl _ _ | (with_reducible assumption) | apply below_later | apply below_alloc | apply below_drew | apply below_drewN)⟩).later z
  refine Calls.mono (GR.out z.val w.heap.size zp (cell_of_heap zc 0 _ rfl) (cell_of_heap zc 1 _ rfl) (cell_of_heap zc 2 _ rfl)) ?_
  rintro e w1 ⟨v, nums, rfl, y, rfl, ho, hlen, hnum⟩
  obtain ⟨gv, cap2, rfl, hgv, hgL, hgc⟩ := ho.form hlen h0
  obtain ⟨nm, hnm⟩ : ∃ nm : Nat → Int, (fun i => nums.getD i 0) = nm := ⟨_, rfl⟩
  have hnm1 : ∀ i, nums.getD i 0 = nm i := fun i => congrFun hnm i
  have CN : Hid (((openL W H nm n).foldl addKey []).length + pl = tot) := CNT.out nm fun i hi => by rw [← hnm1]; exact hnum i hi
  have NB : Hid (∀ i, i < n → -1 ≤ nm i ∧ nm i ≤ 1000) := fun i hi => by
    have := GB.out i
    rw [← hnm1, hnum i hi]
    omega
  have yc := (y.ok.block _ (lt_of_get zc)).trans zc
  have hby : Below w.heap.size w y.val := by repeat (first | exact Below.refl _ _ | (with_reducible assumption) | apply below_later | apply below_alloc | apply below_drew | apply below_drewN)
  have HO := Lib.hid (ho.mono (base' := w.heap.size + 1) (by omega))
  have HLEN := Lib.hid hlen
  have HNM := Lib.hid hnm1
  have YC := Lib.hid yc
  have ysz := y.size
  rw [HT.out]
  have e0 := cell_of_heap yc 0 _ rfl
  have e1 := cell_of_heap yc 1 _ rfl
  have lw := lt_of_get yc
  clear ho hlen hnum hnm hnm1 yc zc zp CNT GB
  go_wp2
  have pk0 : LKeep (.cells #[.int .i64 W, .int .i64 H, .slice (some ⟨b, off, none⟩) n cap] 24) W H n gv cap2 y.val.heap.size nm nums 0 w (y.val.alloc (.map #[] 0)) :=
    ⟨hby.alloc (by omega) _, (Below.heap_alloc _ _ _ (lt_of_get YC.out)).trans YC.out, HO.out.alloc _, World.ownsMap_made _ _ _ _⟩
  have PK0 := Lib.hid pk0
  clear pk0
  go_loopw [24] (fun u wr => ∃ k : Nat, k ≤ n ∧ u = .int .i64 k ∧ LKeep (.cells #[.int .i64 W, .int .i64 H, .slice (some ⟨b, off, none⟩) n cap] 24) W H n gv cap2 y.val.heap.size nm nums k w wr) (fun v _ => n - (intOf v).toNat)
  case atStart => exact ⟨0, by omega, rfl, PK0.out⟩
  case round =>
    obtain ⟨k, hk, rfl, pk⟩ := hrel
    have PK := Lib.hid pk
    by_cases hlt : k < n
    · have hlt' : (k : Int) < (W : Int) * (H : Int) := by rw [← HN.out]; omega
      obtain ⟨nb0, nb1⟩ := NB.out k hlt
      obtain ⟨en, _⟩ := pk.own.cell HLEN.out hlt
      rw [HNM.out] at en
      have q2 := cell_of_heap pk.box 2 _ rfl
      have q0 := cell_of_heap pk.box 0 _ rfl
      have q1 := cell_of_heap pk.box 1 _ rfl
      have lq := lt_of_get pk.box
      have lg := pk.own.lt.2
      have rm := RM.out k
      clear pk
      by_cases hm : nm k = -1
      · have HOB : Hid (openB W H nm k = false) := by show _ = _; unfold openB; rw [hm]; rfl
        rw [hm] at en
        clear hm rm nb0 nb1
        go_wp2_with fail
        go_roundw
        case rel => exact ⟨k + 1, by omega, by go_num, PK.out.skip HOB.out⟩
        case measure => simp [intOf]; omega
      · cases hr : rimB W H k
        · have HOB : Hid (openB W H nm k = false) := by show _ = _; unfold openB; rw [hr, Bool.and_false]
          rw [hr] at rm
          have RM2 := Lib.hid (fun w => rm w hlt)
          have hm2 : (nm k != -1) = true := by simpa using hm
          clear hm hr rm
          go_wp2_with (go_at_call 78; (first | (with_reducible show Calls _ _ _ (Later.val _) _; with_reducible refine Calls.mono (Later.call _ (RM2.out _)) ?_) | (with_reducible refine Calls.mono (Gives.calls (RM2.out _)) ?_)); rintro e w1 ⟨rfl, x2, rfl⟩)
          go_roundw
          case rel => exact ⟨k + 1, by omega, by go_num, (PK.out.later _).skip HOB.out⟩
          case measure => simp [intOf]; omega
        · have HOB : Hid (openB W H nm k = true) := by show _ = _; unfold openB; rw [hr]; simp [hm]
          rw [hr] at rm
          have RM2 := Lib.hid (fun w => rm w hlt)
          have hm2 : (nm k != -1) = true := by simpa using hm
          have hkey : keyOf Tryd.prog 3 (.int .i64 (nm k)) = some (.int .i64 (nm k)) := keyOf_int_mk Tryd.underlying3 (wf_near nb0 nb1)
          have HKEY := Lib.hid hkey
          clear hm hr rm hkey
          go_wp2_with (first | (go_at_call 78; with_reducible refine Calls.mono (Gives.calls (RM2.out _)) ?_; rintro e w1 ⟨rfl, x2, rfl⟩) | (at_mapUpdate; refine wpList_mapUpdate_own _ rfl _ _ _ 83 rfl 3 4 law_int Tryd.underlying83 (plainElem (H := Unit) Tryd.prog 4) y.val.heap.size k _ rfl (PK.out.later x2).map_ (by unfold maxLen; omega) _ _ _ rfl rfl HKEY.out _ [] (plainElem_bool Tryd.underlying4 true) ?_; intro w5 hown5 hgrow5))
          go_roundw
          case rel => exact ⟨k + 1, by omega, by go_num, (PK.out.later x2).put (fun _ _ e => by cases e) HOB.out hgrow5 hown5 (by omega)⟩
          case measure => simp [intOf]; omega
    · obtain rfl : k = n := by omega
      have hlt' : ¬ (k : Int) < (W : Int) * (H : Int) := by rw [← HN.out]; omega
      obtain ⟨c, hc⟩ : ∃ c, ((openL W H nm k).foldl addKey []).length = c := ⟨_, rfl⟩
      have HSZ : Hid (size (setOf (H := Unit) (.lit (.bool true)) (openL W H nm k)) = c) := (size_setOf _ _ openL_key).trans hc
      have hcp := CN.out
      rw [hc] at hcp
      have HCP := Lib.hid hcp
      have c1 : c ≤ tot := by omega
      have HB := Lib.hid pk.below
      clear hc hcp
      go_wp2_with (at_len; refine wpList_len_own _ rfl _ 83 rfl 3 4 Tryd.underlying83 _ y.val.heap.size k _ rfl PK.out.map_ ?_; rw [HSZ.out])
      go_ret2
      exact ⟨by rw [show (tot : Int) - (c : Int) = (pl : Int) by have := HCP.out; omega]; rfl, later_of HB.out⟩
end Go.Proofs.YtajfepogecakbaaDoor
