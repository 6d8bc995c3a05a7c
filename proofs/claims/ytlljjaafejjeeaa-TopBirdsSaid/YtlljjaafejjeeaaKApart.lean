/- wader's areApart: walked. -/
import Derived.Test.YtlljjaafejjeeaaKLeadsLaw
namespace Go.Proofs.Ytlljjaafejjeeaa
open Go.RowKit

/-- Is a sighting of a list apart from those ahead of it, and behind them? -/
def okA (L : Nat → Nat → Bool) (n : Nat) (c : Nat → Int) (i : Nat) : Bool :=
  inS n (c i) && ((decide (i = 0) || decide (c (i - 1) < c i)) && allB i fun k => !(L (c i).toNat (c k).toNat || L (c k).toNat (c i).toNat))
def apartB (L : Nat → Nat → Bool) (n : Nat) (c : Nat → Int) (m : Nat) : Bool := allB m (okA L n c)
theorem okA_in {L : Nat → Nat → Bool} {n : Nat} {c : Nat → Int} {i : Nat} (h : okA L n c i = true) : ∃ j : Nat, c i = j ∧ j < n := by
  unfold okA at h
  simp only [Bool.and_eq_true] at h
  exact inS_true h.1
set_option maxRecDepth 100000 in
set_option maxHeartbeats 1600000 in
theorem areApart1_any (n cap i k bw bi : Nat) (s : Int) (A : Option Addr) (X Y T : Nat → Int) (w : World) (hi : i < n) (hk : k < n) (W : Watch n s X Y T) (hp : IsChs w A n X Y T)
    (hw : w.heap[bw]? = some (.cells #[.slice A n cap, .int .i64 s] 53 (0, 0))) (hb : w.heap[bi]? = some (.cells #[.int .i64 i] 3 (0, 0))) :
    Gives Try.prog 48 #[.int .i64 k, .pointer (some ⟨bw, 0, none⟩), .pointer (some ⟨bi, 0, none⟩)] w (.bool (leadsR s X Y T i k || leadsR s X Y T k i)) := by
  have L1 := Lib.hid fun (V : World) (h : Below w.heap.size w V) => leads_any s n cap i k A X Y T V hi hk W (hp.below h)
  have L2 := Lib.hid fun (V : World) (h : Below w.heap.size w V) => leads_any s n cap k i A X Y T V hk hi W (hp.below h)
  have w0 := cell_of_heap hw 0 _ rfl
  have w1 := cell_of_heap hw 1 _ rfl
  have w2 := get_lt hw
  obtain ⟨i0, _, i2⟩ := box_facts hb
  clear hp W hw hb
  generalize leadsR s X Y T i k = r1 at *
  generalize leadsR s X Y T k i = r2 at *
  rcases r1 with _ | _
  · go_enter Try.func48, Try.ntmps48
    go_wp2_with (first | (go_at_call 43; with_reducible refine Calls.mono (Gives.calls (L1.out _ (by repeat (first | exact Below.refl _ _ | (with_reducible assumption) | apply below_later | apply below_alloc | apply below_drew | apply below_drewN)))) ?_; rintro e w1 ⟨rfl, z, rfl⟩) | (go_at_call 43; with_reducible refine Calls.mono (Gives.calls (L2.out _ (by repeat (first | exact Below.refl _ _ | (with_reducible assumption) | apply below_later | apply below_alloc | apply below_drew | apply below_drewN)))) ?_; rintro e w1 ⟨rfl, z2, rfl⟩))
    go_ret
    exact ⟨ret_bool (by simp), later_of (by repeat (first | exact Below.refl _ _ | (with_reducible assumption) | apply below_later | apply below_alloc | apply below_drew | apply below_drewN))⟩
  · go_enter Try.func48, Try.ntmps48
    go_wp2_with (first | (go_at_call 43; with_reducible refine Calls.mono (Gives.calls (L1.out _ (by repeat (first | exact Below.refl _ _ | (with_reducible assumption) | apply below_later | apply below_alloc | apply below_drew | apply below_drewN)))) ?_; rintro e w1 ⟨rfl, z, rfl⟩) | (go_at_call 43; with_reducible refine Calls.mono (Gives.calls (L2.out _ (by repeat (first | exact Below.refl _ _ | (with_reducible assumption) | apply below_later | apply below_alloc | apply below_drew | apply below_drewN)))) ?_; rintro e w1 ⟨rfl, z2, rfl⟩))
    go_ret
    exact ⟨ret_bool (by simp), later_of (by repeat (first | exact Below.refl _ _ | (with_reducible assumption) | apply below_later | apply below_alloc | apply below_drew | apply below_drewN))⟩
set_option maxRecDepth 100000 in
set_option maxHeartbeats 1600000 in
theorem aindex_any (m cap bw bi : Nat) (A : Option Addr) (c : Nat → Int) (p : Nat → Bool) (w : World) (hm : m ≤ 1000) (hp : IsInts w A m c)
    (hc : ∀ V, Below w.heap.size w V → ∀ k, k < m → Gives Try.prog 48 #[.int .i64 (c k), .pointer (some ⟨bw, 0, none⟩), .pointer (some ⟨bi, 0, none⟩)] V (.bool (p k))) :
    Calls Try.prog 54 #[.slice A m cap, .func (.func 48) #[] #[.pointer (some ⟨bw, 0, none⟩), .pointer (some ⟨bi, 0, none⟩)]] w fun e w' => ∃ r : Int, e = .returned (.int .i64 r) ∧ (∃ x : Later w, w' = x.val) ∧ (0 ≤ r ↔ (!allB m fun k => !p k) = true) ∧ -1 ≤ r ∧ r ≤ m := by
  have HP := Lib.hid hp
  have HC := Lib.hid hc
  clear hp hc
  go_enter Try.func54, Try.ntmps54
  go_wp2
  go_loopw [8] (fun u wr => ∃ k : Nat, k ≤ m ∧ u = .int .i64 k ∧ (∀ j, j < k → (!p j) = true) ∧ ∃ x : Later w, wr = x.val) (fun u _ => m - (intOf u).toNat)
  case atStart => exact ⟨0, by omega, rfl, by omega, later_of (by repeat (first | exact Below.refl _ _ | (with_reducible assumption) | apply below_later | apply below_alloc | apply below_drew | apply below_drewN))⟩
  case round =>
    obtain ⟨k, hk, rfl, hall, x, rfl⟩ := hrel
    have HALL := Lib.hid hall
    clear hall
    by_cases hlt : k < m
    · obtain ⟨b, off, hB, q⟩ := (HP.out.later x).at_ (by omega)
      subst hB
      have ck := q.at_ k hlt
      have lb := q.lt
      clear q
      have A1 := Lib.hid (HC.out x.val x.ok k hlt)
      cases hF : p k
      · rw [hF] at A1
        have HN : Hid (∀ j, j < k + 1 → (!p j) = true) := all_step HALL.out (by rw [hF]; rfl)
        clear hF
        go_wp2_with (go_at_call 48; (first | (with_reducible show Calls _ _ _ (Later.val _) _; with_reducible refine Calls.mono (Later.call _ (A1.out)) ?_) | (with_reducible refine Calls.mono (Gives.calls (A1.out)) ?_)); rintro e w1 ⟨rfl, z, rfl⟩)
        go_roundw
        case rel => exact ⟨k + 1, by omega, by go_num, HN.out, later_of (by repeat (first | exact Below.refl _ _ | (with_reducible assumption) | apply below_later | apply below_alloc | apply below_drew | apply below_drewN))⟩
        case measure => simp [intOf]; omega
      · rw [hF] at A1
        have HT : Hid ((!allB m fun k => !p k) = true) := by show _ = _; rw [allB_false (p := fun k => !p k) hlt (by rw [hF]; rfl)]; rfl
        clear hF
        go_wp2_with (go_at_call 48; (first | (with_reducible show Calls _ _ _ (Later.val _) _; with_reducible refine Calls.mono (Later.call _ (A1.out)) ?_) | (with_reducible refine Calls.mono (Gives.calls (A1.out)) ?_)); rintro e w1 ⟨rfl, z, rfl⟩)
        go_ret
        exact ⟨(k : Int), rfl, later_of (by repeat (first | exact Below.refl _ _ | (with_reducible assumption) | apply below_later | apply below_alloc | apply below_drew | apply below_drewN)), ⟨fun _ => HT.out, fun _ => by omega⟩, by omega, by omega⟩
    · obtain rfl : k = m := by omega
      have HT : Hid ((!allB k fun k => !p k) = false) := by show _ = _; rw [allB_true (p := fun k => !p k) HALL.out]; rfl
      go_wp2
      go_ret
      exact ⟨(-1 : Int), rfl, later_of (by repeat (first | exact Below.refl _ _ | (with_reducible assumption) | apply below_later | apply below_alloc | apply below_drew | apply below_drewN)), ⟨fun h => by omega, fun h => by rw [HT.out] at h; cases h⟩, by omega, by omega⟩
theorem acontains_any (m cap bw bi : Nat) (A : Option Addr) (c : Nat → Int) (p : Nat → Bool) (w : World) (hm : m ≤ 1000) (hp : IsInts w A m c)
    (hc : ∀ V, Below w.heap.size w V → ∀ k, k < m → Gives Try.prog 48 #[.int .i64 (c k), .pointer (some ⟨bw, 0, none⟩), .pointer (some ⟨bi, 0, none⟩)] V (.bool (p k))) :
    Gives Try.prog 47 #[.slice A m cap, .func (.func 48) #[] #[.pointer (some ⟨bw, 0, none⟩), .pointer (some ⟨bi, 0, none⟩)]] w (.bool (!allB m fun k => !p k)) := by
  have HI := Lib.hid (aindex_any m cap bw bi A c p w hm hp hc)
  clear hp hc
  generalize (!allB m fun k => !p k) = r at *
  go_enter Try.func47, Try.ntmps47
  go_wp2_with (go_at_call 54; refine Calls.mono HI.out ?_; rintro e w1 ⟨q, rfl, ⟨x, rfl⟩, hq, hq1, hq2⟩; have HQ := Lib.hid hq)
  go_ret
  refine ⟨ret_bool ?_, later_of (by repeat (first | exact Below.refl _ _ | (with_reducible assumption) | apply below_later | apply below_alloc | apply below_drew | apply below_drewN))⟩
  have := HQ.out
  cases r <;> simp_all
theorem IsInts.take {w : World} {A : Option Addr} {m k : Nat} {c : Nat → Int} (h : IsInts w A m c) (hk : k ≤ m) : IsInts w A k c :=
  ⟨by have := h.small; omega, fun h0 => let ⟨b, off, e, hp⟩ := h.at_ (by omega); ⟨b, off, e, hp.lt, fun i hi => hp.at_ i (by omega)⟩⟩
set_option maxRecDepth 100000 in
set_option maxHeartbeats 6400000 in
theorem areApart_any (n cap m c1 : Nat) (s : Int) (A O : Option Addr) (X Y T : Nat → Int) (c : Nat → Int) (w : World) (hm : m ≤ 1000) (W : Watch n s X Y T) (hp : IsChs w A n X Y T) (hc : IsInts w O m c) (hcap : m ≤ c1) :
    Gives Try.prog 31 #[.agg #[.slice A n cap, .int .i64 s], .slice O m c1] w (.bool (apartB (leadsR s X Y T) n c m)) := by
  have hn30 := W.n30
  have hb : Below w.heap.size w (w.alloc (.cells #[.slice A n cap, .int .i64 s] 53)) := (Below.refl _ _).alloc (Nat.le_refl _) _
  have hw : (w.alloc (.cells #[.slice A n cap, .int .i64 s] 53)).heap[w.heap.size]? = some (.cells #[.slice A n cap, .int .i64 s] 53 (0, 0)) := World.alloc_heap_new _ _
  have HC := Lib.hid (hc.below hb)
  have HB := Lib.hid hb
  have HW := Lib.hid hw
  have CF := Lib.hid fun (i bw bi k : Nat) (V : World) (hi : i < n) (hk : k ≤ m) (hin : ∀ j, j < k → okA (leadsR s X Y T) n c j = true) (hpV : IsChs V A n X Y T) (hcV : IsInts V O m c)
      (hwV : V.heap[bw]? = some (.cells #[.slice A n cap, .int .i64 s] 53 (0, 0))) (hbV : V.heap[bi]? = some (.cells #[.int .i64 i] 3 (0, 0))) =>
    acontains_any k c1 bw bi O c (fun j => leadsR s X Y T i (c j).toNat || leadsR s X Y T (c j).toNat i) V (by omega) (hcV.take hk) fun V' hV' j hj => by
      obtain ⟨q, hq, hqn⟩ := okA_in (hin j hj)
      have hq2 : (c j).toNat = q := by rw [hq]; simp
      rw [hq2, hq]
      exact areApart1_any n cap i q bw bi s A X Y T V' hi hqn W (hpV.below hV') ((hV'.block _ (get_lt hwV)).trans hwV) ((hV'.block _ (get_lt hbV)).trans hbV)
  have HP := Lib.hid (hp.below hb)
  have OK : Hid (∀ i, okA (leadsR s X Y T) n c i = (inS n (c i) && ((decide (i = 0) || decide (c (i - 1) < c i)) && allB i fun k => !(leadsR s X Y T (c i).toNat (c k).toNat || leadsR s X Y T (c k).toNat (c i).toNat)))) := fun _ => rfl
  have AB : Hid (apartB (leadsR s X Y T) n c m = allB m (okA (leadsR s X Y T) n c)) := rfl
  generalize leadsR s X Y T = L at *
  generalize apartB L n c m = res at *
  clear hp hc hb hw W
  go_enter Try.func31, Try.ntmps31
  go_wp2
  obtain ⟨b9, hb9⟩ : ∃ b9, w.heap.size = b9 := ⟨_, rfl⟩
  rw [hb9] at HW ⊢
  clear hb9
  generalize w.alloc (.cells #[.slice A n cap, .int .i64 s] 53) = Z at *
  go_loopw [9] (fun u wr => ∃ k : Nat, u = .int .i64 (k : Nat) ∧ k ≤ m ∧ (∀ j, j < k → okA L n c j = true) ∧ ∃ x : Later Z, wr = x.val) (fun u _ => m - (intOf u).toNat)
  case atStart => exact ⟨0, rfl, by omega, by omega, later_of (by repeat (first | exact Below.refl _ _ | (with_reducible assumption) | apply below_later | apply below_alloc | apply below_drew | apply below_drewN))⟩
  case round =>
    obtain ⟨k, rfl, hk, hall, x, rfl⟩ := hrel
    have HALL := Lib.hid hall
    clear hall
    by_cases hlt : k < m
    · obtain ⟨b, off, hB, p⟩ := (HC.out.later x).at_ (by omega)
      have HCX := Lib.hid (HC.out.later x)
      have HPX := Lib.hid (HP.out.later x)
      have HWX : Hid (x.val.heap[b9]? = some (.cells #[.slice A n cap, .int .i64 s] 53 (0, 0))) := (x.ok.block _ (get_lt HW.out)).trans HW.out
      have ck := p.at_ k hlt
      have lb := p.lt
      have cp : 0 < k → x.val.cell? ⟨b, off + (k - 1), none⟩ = some (.int .i64 (c (k - 1))) := fun h => p.at_ (k - 1) (by omega)
      have CP := Lib.hid cp
      have H1 := Lib.hid fun V => has_any n cap s (c k) A V
      have FB : Hid (okA L n c k = false → res = false) := fun h => by rw [AB.out, allB_false hlt h]
      have FT : Hid (okA L n c k = true → ∀ j, j < k + 1 → okA L n c j = true) := fun h => all_step HALL.out h
      have OK1 := Lib.hid (OK.out k)
      have hxb : Hid (Below w.heap.size w x.val) := below_more HB.out x.ok
      clear p cp
      have HBO := Lib.hid hB
      rw [hB]
      rw [hB] at HCX
      clear hB
      generalize hX : x.val = XV at *
      have HXV : Hid (∀ V, Below XV.heap.size XV V → ∃ y : Later Z, V = y.val) := fun V h => ⟨⟨V, below_more (hX ▸ x.ok) h⟩, rfl⟩
      clear hX
      obtain ⟨bI, hbI⟩ : ∃ bI, XV.heap.size = bI := ⟨_, rfl⟩
      have I9 : (XV.alloc (.cells #[.int .i64 (c k)] 3)).heap[bI]? = some (.cells #[.int .i64 (c k)] 3 (0, 0)) := hbI ▸ one_box XV _ _
      have hbQ : Hid (Below XV.heap.size XV (XV.alloc (.cells #[.int .i64 (c k)] 3))) := (Below.refl _ _).alloc (Nat.le_refl _) _
      go_wp2_with fail
      try rw [hbI]
      clear hbI
      generalize hQ : XV.alloc (.cells #[.int .i64 (c k)] 3) = Q at *
      clear hQ
      have HI9 : Hid (∀ V, Below Q.heap.size Q V → V.heap[bI]? = some (.cells #[.int .i64 (c k)] 3 (0, 0))) := fun V h => (h.block _ (get_lt I9)).trans I9
      have HW9 : Hid (∀ V, Below Q.heap.size Q V → V.heap[b9]? = some (.cells #[.slice A n cap, .int .i64 s] 53 (0, 0))) := fun V h => ((below_more hbQ.out h).block _ (get_lt HWX.out)).trans HWX.out
      replace HPX : Hid (∀ V, Below Q.heap.size Q V → IsChs V A n X Y T) := fun V h => HPX.out.below (below_more hbQ.out h)
      replace HCX : Hid (∀ V, Below Q.heap.size Q V → IsInts V O m c) := fun V h => HBO.out ▸ HCX.out.below (below_more hbQ.out h)
      replace CP : Hid (0 < k → Q.cell? ⟨b, off + (k - 1), none⟩ = some (.int .i64 (c (k - 1)))) := fun h => (hbQ.out.cell (p := ⟨b, off + (k - 1), none⟩) lb).trans (CP.out h)
      replace HXV : Hid (∀ V, Below Q.heap.size Q V → ∃ y : Later Z, V = y.val) := fun V h => HXV.out V (below_more hbQ.out h)
      replace hxb : Hid (Below w.heap.size w Q) := below_more hxb.out hbQ.out
      have lb2 := Nat.lt_of_lt_of_le lb hbQ.out.size
      obtain ⟨i0, _, i2⟩ := box_facts I9
      have w0 := cell_of_heap (HW9.out Q (Below.refl _ _)) 0 _ rfl
      have w1 := cell_of_heap (HW9.out Q (Below.refl _ _)) 1 _ rfl
      have w2 := get_lt (HW9.out Q (Below.refl _ _))
      clear ck lb hbQ HWX I9
      cases hin : inS n (c k)
      case false =>
        rw [hin] at H1 OK1
        have HE : Hid (res = false) := FB.out (by rw [OK1.out]; rfl)
        clear hin
        refine wp_region_later (by kernel_rfl) (by kernel_rfl) ?_
        repeat (go_big_quiet_step ((go_at_call 46; (with_reducible refine Later.call _ (H1.out _)))))
        refine wpQuiet_nil ?_
        intro y
        go_wp2
        go_ret
        exact ⟨ret_bool HE.out.symm, later_of (below_more hxb.out (by repeat (first | exact Below.refl _ _ | (with_reducible assumption) | apply below_later | apply below_alloc | apply below_drew | apply below_drewN)))⟩
      obtain ⟨i', hi, hi'⟩ := inS_true hin
      rw [hin] at H1 OK1
      rw [hi] at H1 OK1 i0
      have HI' : Hid (∀ V, Below Q.heap.size Q V → V.heap[bI]? = some (.cells #[.int .i64 (i' : Nat)] 3 (0, 0))) := hi ▸ HI9.out
      have e9 : ((i' : Nat) : Int).toNat = i' := by simp
      rw [e9] at OK1
      clear hin HI9
      have CF1 := Lib.hid fun V h => CF.out i' b9 bI k V hi' (by omega) HALL.out (HPX.out V h) (HCX.out V h) (HW9.out V h) (HI'.out V h)
      generalize (allB k fun j => !(L i' (c j).toNat || L (c j).toNat i')) = rr at *
      have CF2 : Hid (∀ V, Below Q.heap.size Q V → Gives Try.prog 47 #[.slice (some ⟨b, off, none⟩) k c1, .func (.func 48) #[] #[.pointer (some ⟨b9, 0, none⟩), .pointer (some ⟨bI, 0, none⟩)]] V (.bool (!rr))) := fun V h => HBO.out ▸ CF1.out V h
      clear CF1 CF
      by_cases hk0 : k = 0
      · subst hk0
        have hg : decide (((0 : Nat) : Int) > 0) = false := by simp
        cases rr
        case false =>
          have HE : Hid (res = false) := FB.out (by rw [OK1.out]; rfl)
          refine wp_region_later (by kernel_rfl) (by kernel_rfl) ?_
          repeat (go_big_quiet_step ((go_at_call 46; (with_reducible refine Later.call _ (H1.out _)))))
          refine wpQuiet_nil ?_
          intro y
          go_wp2_with (go_at_call 47; with_reducible refine Calls.mono (Gives.calls (CF2.out _ (by repeat (first | exact Below.refl _ _ | (with_reducible assumption) | apply below_later | apply below_alloc | apply below_drew | apply below_drewN)))) ?_; rintro e w1 ⟨rfl, z, rfl⟩)
          go_ret
          exact ⟨ret_bool HE.out.symm, later_of (below_more hxb.out (by repeat (first | exact Below.refl _ _ | (with_reducible assumption) | apply below_later | apply below_alloc | apply below_drew | apply below_drewN)))⟩
        case true =>
          have HE := Lib.hid (FT.out (by rw [OK1.out]; rfl))
          refine wp_region_later (by kernel_rfl) (by kernel_rfl) ?_
          repeat (go_big_quiet_step ((go_at_call 46; (with_reducible refine Later.call _ (H1.out _)))))
          refine wpQuiet_nil ?_
          intro y
          go_wp2_with (go_at_call 47; with_reducible refine Calls.mono (Gives.calls (CF2.out _ (by repeat (first | exact Below.refl _ _ | (with_reducible assumption) | apply below_later | apply below_alloc | apply below_drew | apply below_drewN)))) ?_; rintro e w1 ⟨rfl, z, rfl⟩)
          try rw [← HBO.out]
          go_roundw
          case rel => exact ⟨0 + 1, by go_num, by omega, HE.out, HXV.out _ (by repeat (first | exact Below.refl _ _ | (with_reducible assumption) | apply below_later | apply below_alloc | apply below_drew | apply below_drewN))⟩
          case measure => simp [intOf]; omega
      · have hg : decide ((0 : Int) < (k : Int)) = true := by simp; omega
        have hg2 : decide (0 < k) = true := by simp; omega
        have hw1 : IntKind.i64.wrap ((k : Int) - 1) = ((k - 1 : Nat) : Int) := by
          rw [show ((k : Int) - 1) = ((k - 1 : Nat) : Int) by omega]
          exact IntWalk.i64_in _ ⟨by omega, by omega⟩
        have cp := CP.out (by omega)
        have hk1 : decide (k = 0) = false := decide_eq_false hk0
        rw [hk1, Bool.false_or] at OK1
        obtain ⟨q, hq⟩ : ∃ q, c (k - 1) = q := ⟨_, rfl⟩
        rw [hq] at cp OK1
        by_cases hlq : (i' : Int) ≤ q
        · have hd : decide ((i' : Int) ≤ q) = true := decide_eq_true hlq
          have HE : Hid (res = false) := FB.out (by rw [OK1.out, decide_eq_false (by omega : ¬ q < (i' : Int))]; rfl)
          refine wp_region_later (by kernel_rfl) (by kernel_rfl) ?_
          repeat (go_big_quiet_step ((go_at_call 46; (with_reducible refine Later.call _ (H1.out _)))))
          refine wpQuiet_nil ?_
          intro y
          go_wp2
          go_ret
          exact ⟨ret_bool HE.out.symm, later_of (below_more hxb.out (by repeat (first | exact Below.refl _ _ | (with_reducible assumption) | apply below_later | apply below_alloc | apply below_drew | apply below_drewN)))⟩
        · have hd : decide ((i' : Int) ≤ q) = false := decide_eq_false hlq
          rw [decide_eq_true (by omega : q < (i' : Int)), Bool.true_and] at OK1
          cases rr
          case false =>
            have HE : Hid (res = false) := FB.out (by rw [OK1.out]; rfl)
            refine wp_region_later (by kernel_rfl) (by kernel_rfl) ?_
            repeat (go_big_quiet_step ((go_at_call 46; (with_reducible refine Later.call _ (H1.out _)))))
            refine wpQuiet_nil ?_
            intro y
            go_wp2_with (go_at_call 47; with_reducible refine Calls.mono (Gives.calls (CF2.out _ (by repeat (first | exact Below.refl _ _ | (with_reducible assumption) | apply below_later | apply below_alloc | apply below_drew | apply below_drewN)))) ?_; rintro e w1 ⟨rfl, z, rfl⟩)
            go_ret
            exact ⟨ret_bool HE.out.symm, later_of (below_more hxb.out (by repeat (first | exact Below.refl _ _ | (with_reducible assumption) | apply below_later | apply below_alloc | apply below_drew | apply below_drewN)))⟩
          case true =>
            have HE := Lib.hid (FT.out (by rw [OK1.out]; rfl))
            refine wp_region_later (by kernel_rfl) (by kernel_rfl) ?_
            repeat (go_big_quiet_step ((go_at_call 46; (with_reducible refine Later.call _ (H1.out _)))))
            refine wpQuiet_nil ?_
            intro y
            go_wp2_with (go_at_call 47; with_reducible refine Calls.mono (Gives.calls (CF2.out _ (by repeat (first | exact Below.refl _ _ | (with_reducible assumption) | apply below_later | apply below_alloc | apply below_drew | apply below_drewN)))) ?_; rintro e w1 ⟨rfl, z, rfl⟩)
            try rw [← HBO.out]
            go_roundw
            case rel => exact ⟨k + 1, by go_num, by omega, HE.out, HXV.out _ (by repeat (first | exact Below.refl _ _ | (with_reducible assumption) | apply below_later | apply below_alloc | apply below_drew | apply below_drewN))⟩
            case measure => simp [intOf]; omega
    · obtain rfl : k = m := by omega
      have HT : Hid (res = true) := by show _ = _; rw [AB.out]; exact allB_true HALL.out
      go_wp2
      go_ret
      exact ⟨ret_bool HT.out.symm, later_of (below_more HB.out (by repeat (first | exact Below.refl _ _ | (with_reducible assumption) | apply below_later | apply below_alloc | apply below_drew | apply below_drewN)))⟩
end Go.Proofs.Ytlljjaafejjeeaa
