/- neighbours: what its iterator gives out. -/
import Derived.Test.YtajfepogecakbaaDoorAroundC
namespace Go.Proofs.YtajfepogecakbaaDoor
open Go.RowKit Go.Shelf
attribute [local go_sem] Oper.semAt_some

set_option maxHeartbeats 400000 in
theorem around_any (W H at_ : Nat) (A : Option Addr) (n cap : Nat) (w : World) :
    Calls Tryd.prog 77 #[.agg #[.int .i64 W, .int .i64 H, .slice A n cap], .int .i64 at_] w fun e w' =>
      e = .returned (.func (.func 103) #[] #[.pointer (some ⟨w.heap.size + 1, 0, none⟩), .pointer (some ⟨w.heap.size, 0, none⟩)]) ∧ w' = (w.alloc (.cells #[.int .i64 W, .int .i64 H, .slice A n cap] 24)).alloc (.cells #[.int .i64 at_] 3) := by
  go_enter Tryd.func77, Tryd.ntmps77
  go_wp2
  go_ret
  exact ⟨rfl, rfl⟩
set_option maxHeartbeats 400000 in
theorem neighbours_any (W H at_ : Nat) (A : Option Addr) (n cap : Nat) (w : World) :
    Calls Tryd.prog 101 #[.agg #[.int .i64 W, .int .i64 H, .slice A n cap], .int .i64 at_] w fun e w' =>
      e = .returned (.func (.func 109) #[] #[.pointer (some ⟨w.heap.size, 0, none⟩), .pointer (some ⟨w.heap.size + 1, 0, none⟩)]) ∧ w' = (w.alloc (.cells #[.int .i64 W, .int .i64 H, .slice A n cap] 24)).alloc (.cells #[.int .i64 at_] 3) := by
  go_enter Tryd.func101, Tryd.ntmps101
  go_wp2
  go_ret
  exact ⟨rfl, rfl⟩

theorem get_new (w : World) (o : Obj) : (w.alloc o).heap[w.heap.size]? = some o := World.alloc_heap_new w o
theorem get_old {w : World} {o : Obj} {b : Nat} (h : b < w.heap.size) : (w.alloc o).heap[b]? = w.heap[b]? := Below.heap_alloc w o b h

theorem round_in {P : Program} {lp l : Nat} {f : FuncId} {tmps : Array Value} {assign body : Code} {w : World} {R : Ending → World → Prop} (h : RoundIn Fence.wide 0 P l f tmps assign body w R) : RoundIn (Fence.wide.inRound lp) 0 P l f tmps assign body w R := h
theorem mod_eq_int {x y W : Nat} : ((x : Int) % (W : Int) = (y : Int) % (W : Int)) ↔ x % W = y % W := by
  rw [← Int.natCast_emod, ← Int.natCast_emod]; omega
theorem div_eq_int {x y W : Nat} : ((x : Int) / (W : Int) = (y : Int) / (W : Int)) ↔ x / W = y / W := by
  rw [← Int.natCast_ediv, ← Int.natCast_ediv]; omega

/-- How many of the first k are beside. -/
def cntN (W at_ : Nat) (l : List Nat) (k : Nat) : Nat := ((l.take k).filter (beside W at_)).length
theorem cntN_step {W at_ : Nat} {l : List Nat} {k x : Nat} (h : l[k]? = some x) : cntN W at_ l (k + 1) = cntN W at_ l k + if beside W at_ x then 1 else 0 := by
  unfold cntN
  rw [List.take_add_one, h, Option.toList_some, List.filter_append, List.length_append]
  cases hb : beside W at_ x <;> simp [hb]
theorem cntN_get {W at_ : Nat} {l : List Nat} {k x : Nat} (h : l[k]? = some x) (hb : beside W at_ x = true) : cntN W at_ l k < (l.filter (beside W at_)).length ∧ (l.filter (beside W at_))[cntN W at_ l k]? = some x := by
  have hk := (List.getElem?_eq_some_iff.1 h).1
  have e : l.filter (beside W at_) = (l.take k).filter (beside W at_) ++ (x :: (l.drop (k + 1)).filter (beside W at_)) := by
    have e1 : l = l.take k ++ x :: l.drop (k + 1) := by
      obtain ⟨_, e3⟩ := List.getElem?_eq_some_iff.1 h
      rw [← e3, List.getElem_cons_drop, List.take_append_drop]
    conv => lhs; rw [e1]
    rw [List.filter_append, List.filter_cons, if_pos hb]
  unfold cntN
  rw [e]
  constructor
  · simp
  · rw [List.getElem?_append_right (Nat.le_refl _), Nat.sub_self]; rfl

theorem around_lt (W H at_ : Nat) (hW : W ≤ 30) (hH : H ≤ 30) (x : Nat) (hx : x ∈ aroundL W H at_) : x < 900 := by
  unfold aroundL at hx
  obtain ⟨p, _, hp⟩ := List.mem_filterMap.1 hx
  unfold pickP at hp
  split at hp
  · rename_i hk
    obtain rfl := Option.some.inj hp
    unfold okP insB at hk
    simp only [Bool.and_eq_true, decide_eq_true_eq] at hk
    obtain ⟨_, h1, h2, h3, h4⟩ := hk
    have m := Int.mul_le_mul (show plY W at_ p ≤ 29 by omega) (show (W : Int) ≤ 30 by omega) (by omega) (by omega)
    unfold idP
    omega
  · cases hp

set_option maxRecDepth 100000 in
set_option maxHeartbeats 3200000 in
theorem neighbours1_iter (W H at_ : Nat) (hW : 1 ≤ W) (hW2 : W ≤ 30) (hH : H ≤ 30) (hat : at_ < W * H) (A : Option Addr) (n cap : Nat) (w : World) (bm ba : Nat)
    (h1 : w.heap[ba]? = some (.cells #[.int .i64 at_] 3)) (h2 : w.heap[bm]? = some (.cells #[.int .i64 W, .int .i64 H, .slice A n cap] 24)) :
    IterC Tryd.prog 109 #[.pointer (some ⟨bm, 0, none⟩), .pointer (some ⟨ba, 0, none⟩)] (fun b => b = ba ∨ b = bm) (valsOf (nbrs W H at_)) w := by
  have hat2 : at_ < 900 := Nat.lt_of_lt_of_le hat (Nat.mul_le_mul hW2 hH)
  intro l J Jx S W0 hsub hsame hsz stJ stJx hround h0
  have la := (Array.getElem?_eq_some_iff.1 h1).1
  have lm := (Array.getElem?_eq_some_iff.1 h2).1
  have k1 : W0.heap[ba]? = some (.cells #[.int .i64 at_] 3) := (hsame _ (.inl rfl)).2.trans h1
  have k2 : W0.heap[bm]? = some (.cells #[.int .i64 W, .int .i64 H, .slice A n cap] 24) := (hsame _ (.inr rfl)).2.trans h2
  have la2 : ba < W0.heap.size := by omega
  have lm2 : bm < W0.heap.size := by omega
  have c1 : W0.cell? ⟨ba, 0, none⟩ = some (.int .i64 at_) := cell_of_heap k1 0 _ rfl
  have c2 : W0.cell? ⟨bm, 0, none⟩ = some (.int .i64 W) := cell_of_heap k2 0 _ rfl
  have c3 : W0.cell? ⟨bm, 1, none⟩ = some (.int .i64 H) := cell_of_heap k2 1 _ rfl
  have c4 : W0.cell? ⟨bm, 2, none⟩ = some (.slice A n cap) := cell_of_heap k2 2 _ rfl
  have HR := Lib.hid hround
  have HJ := Lib.hid stJ
  have HJX := Lib.hid stJx
  have HS := Lib.hid hsub
  have K1 := Lib.hid k1
  have K2 := Lib.hid k2
  have H0 := Lib.hid h0
  clear hround stJ stJx hsub hsame h1 h2 k1 k2 h0
  refine callsIn_of_wp_marks Tryd.func109 rfl trivial ?_ rfl
  simp only [Tryd.ntmps109, List.size_toArray, List.length_cons, List.length_nil, Nat.reduceAdd, Nat.reduceSub, Array.replicate_succ, Array.replicate_zero, List.push_toArray, List.append_toArray, List.nil_append, List.cons_append]
  gi_wp2_with (gi_at_call 77; refine (callsIn_wide.2 (around_any W H at_ A n cap _)).mono ?_; rintro e w' ⟨rfl, rfl⟩)
  -- the world in which the inner loop begins: yield's box, and around's two
  obtain ⟨W1, hW1⟩ : ∃ W1, ((W0.alloc (.cells #[.func (.yield l) #[] #[]] 65)).alloc (.cells #[.int .i64 W, .int .i64 H, .slice A n cap] 24)).alloc (.cells #[.int .i64 at_] 3) = W1 := ⟨_, rfl⟩
  have sz1 : W1.heap.size = W0.heap.size + 3 := by rw [← hW1]; simp
  have onW : Only S W0 W1 := by rw [← hW1]; exact ((Only.alloc _ _ _).trans (Only.alloc _ _ _)).trans (Only.alloc _ _ _)
  have gy : W1.heap[W0.heap.size]? = some (.cells #[.func (.yield l) #[] #[]] 65) := by
    rw [← hW1, get_old (by simp; omega), get_old (by simp), get_new]
  have gm : W1.heap[W0.heap.size + 1]? = some (.cells #[.int .i64 W, .int .i64 H, .slice A n cap] 24) := by
    rw [← hW1, get_old (by simp)]
    have := get_new (W0.alloc (.cells #[.func (.yield l) #[] #[]] 65)) (.cells #[.int .i64 W, .int .i64 H, .slice A n cap] 24)
    rwa [World.size_alloc] at this
  have ga : W1.heap[W0.heap.size + 1 + 1]? = some (.cells #[.int .i64 at_] 3) := by
    rw [← hW1]
    have := get_new ((W0.alloc (.cells #[.func (.yield l) #[] #[]] 65)).alloc (.cells #[.int .i64 W, .int .i64 H, .slice A n cap] 24)) (.cells #[.int .i64 at_] 3)
    rw [World.size_alloc, World.size_alloc] at this
    exact this
  rw [hW1]
  have hba : W1.heap[ba]? = some (.cells #[.int .i64 at_] 3) := by rw [← hW1, get_old (by simp; omega), get_old (by simp; omega), get_old la2]; exact K1.out
  have hbm : W1.heap[bm]? = some (.cells #[.int .i64 W, .int .i64 H, .slice A n cap] 24) := by rw [← hW1, get_old (by simp; omega), get_old (by simp; omega), get_old lm2]; exact K2.out
  clear hW1 c1 c2 c3 c4
  obtain ⟨U, hU⟩ : ∃ U : BSet → BSet, U = fun T b => S b ∨ b = W0.heap.size ∨ T b := ⟨_, rfl⟩
  obtain ⟨R, hR⟩ : ∃ R : BSet → World → Prop, R = fun T V => (V.heap[bm]? = some (.cells #[.int .i64 W, .int .i64 H, .slice A n cap] 24) ∧ V.heap[ba]? = some (.cells #[.int .i64 at_] 3) ∧ V.heap[W0.heap.size]? = some (.cells #[.func (.yield l) #[] #[]] 65)) ∧ ¬ T bm ∧ ¬ T ba ∧ ¬ T W0.heap.size := ⟨_, rfl⟩
  have hUle : ∀ T b, T b → U T b := fun T b h => by rw [hU]; exact .inr (.inr h)
  have hUS : ∀ T b, S b → U T b := fun T b h => by rw [hU]; exact .inl h
  have hUy : ∀ T, U T W0.heap.size := fun T => by rw [hU]; exact .inr (.inl rfl)
  have hUt : ∀ T T' V V', Takes T T' V V' → Takes (U T) (U T') V V' := fun T T' V V' h => by
    rw [hU]
    exact ⟨fun b hb => hb.imp id (Or.imp id (h.1 b)), fun b hb => hb.elim (fun k => .inl (.inl k)) (fun k => k.elim (fun k => .inl (.inr (.inl k))) (fun k => (h.2 b k).imp (fun k => .inr (.inr k)) id))⟩
  have hRst : ∀ T T' V V', R T V → Takes T T' V V' → Only T V V' → R T' V' := fun T T' V V' h ht ho => by
    rw [hR] at h ⊢
    obtain ⟨⟨p1, p2, p3⟩, p4, p5, p6⟩ := h
    have l1 := (Array.getElem?_eq_some_iff.1 p1).1
    have l2 := (Array.getElem?_eq_some_iff.1 p2).1
    have l3 := (Array.getElem?_eq_some_iff.1 p3).1
    refine ⟨⟨(ho.block _ l1 p4).trans p1, (ho.block _ l2 p5).trans p2, (ho.block _ l3 p6).trans p3⟩, fun k => ?_, fun k => ?_, fun k => ?_⟩
    · rcases ht.2 _ k with q | q
      · exact p4 q
      · omega
    · rcases ht.2 _ k with q | q
      · exact p5 q
      · omega
    · rcases ht.2 _ k with q | q
      · exact p6 q
      · omega
  have hR0 : R (fun b => b = W0.heap.size + 1 + 1 ∨ b = W0.heap.size + 1) W1 := by
    rw [hR]
    exact ⟨⟨hbm, hba, gy⟩, by omega, by omega, by omega⟩
  have hRk : ∀ T V V', R T V → Kept (U T) V V' → R T V' := fun T V V' h hk => by
    have s1 := hUS T bm (HS.out _ (.inr rfl))
    have s2 := hUS T ba (HS.out _ (.inl rfl))
    have s3 := hUy T
    rw [hR] at h ⊢
    obtain ⟨⟨p1, p2, p3⟩, p4⟩ := h
    exact ⟨⟨(hk.same _ s1 (Array.getElem?_eq_some_iff.1 p1).1).trans p1, (hk.same _ s2 (Array.getElem?_eq_some_iff.1 p2).1).trans p2, (hk.same _ s3 (Array.getElem?_eq_some_iff.1 p3).1).trans p3⟩, p4⟩
  have hRc : ∀ T V, R T V → (V.cell? ⟨bm, 0, none⟩ = some (.int .i64 W) ∧ V.cell? ⟨ba, 0, none⟩ = some (.int .i64 at_) ∧ V.cell? ⟨W0.heap.size, 0, none⟩ = some (.func (.yield l) #[] #[])) ∧ bm < V.heap.size ∧ ba < V.heap.size ∧ W0.heap.size < V.heap.size := fun T V h => by
    rw [hR] at h
    obtain ⟨⟨p1, p2, p3⟩, _⟩ := h
    exact ⟨⟨cell_of_heap p1 0 _ rfl, cell_of_heap p2 0 _ rfl, cell_of_heap p3 0 _ rfl⟩, (Array.getElem?_eq_some_iff.1 p1).1, (Array.getElem?_eq_some_iff.1 p2).1, (Array.getElem?_eq_some_iff.1 p3).1⟩
  have j0 : J (U (fun b => b = W0.heap.size + 1 + 1 ∨ b = W0.heap.size + 1)) 0 W1 := by
    refine HJ.out S _ 0 W0 W1 H0.out ?_ onW
    rw [hU]
    exact ⟨fun b hb => .inl hb, fun b hb => hb.elim .inl (fun k => .inr (by omega))⟩
  have hget : ∀ k, k < (aroundL W H at_).length → ∃ x, (aroundL W H at_)[k]? = some x := fun k hk => ⟨_, List.getElem?_eq_getElem hk⟩
  have HU1 := Lib.hid hUle
  have HU2 := Lib.hid hUS
  have HU3 := Lib.hid hUt
  have HRS := Lib.hid hRst
  have HR0 := Lib.hid hR0
  have HRK := Lib.hid hRk
  have HRC := Lib.hid hRc
  have J0 := Lib.hid j0
  have HG := Lib.hid hget
  clear hUle hUS hUt hRst hR0 hRk hRc j0 hget hUy hU hR hba hbm
  refine range_law (gf := 103) (lb := #[.pointer (some ⟨W0.heap.size + 1 + 1, 0, none⟩), .pointer (some ⟨W0.heap.size + 1, 0, none⟩)]) rfl (enters_of Tryd.func103 (by kernel_rfl) rfl)
    (around1_iter W H at_ hW hW2 hH hat A n cap W1 (W0.heap.size + 1 + 1) (W0.heap.size + 1) ga gm) (fun b hb => by omega) (fun k hk => by
      rw [valsOf_length] at hk
      obtain ⟨x, hx⟩ := HG.out k hk
      rw [valsOf_get hx]; rfl)
    (fun T k V => J (U T) (cntN W at_ (aroundL W H at_) k) V ∧ R T V)
    (fun T k c V => c = Code.ret ∧ (∃ j, j < (nbrs W H at_).length ∧ Jx (U T) j V) ∧ R T V)
    (fun T T' k V V' h ht ho => ⟨HJ.out _ _ _ V V' h.1 (HU3.out _ _ _ _ ht) (ho.mono (HU1.out T)), HRS.out _ _ _ _ h.2 ht ho⟩)
    (fun c T T' k V V' h ht ho => ⟨h.1, h.2.1.elim fun j hj => ⟨j, hj.1, HJX.out _ _ _ V V' hj.2 (HU3.out _ _ _ _ ht) (ho.mono (HU1.out T))⟩, HRS.out _ _ _ _ h.2.2 ht ho⟩)
    ⟨J0.out, HR0.out⟩
    (fun k => { tmps := #[.func (.yield l) #[] #[], .pointer (some ⟨bm, 0, none⟩), .pointer (some ⟨ba, 0, none⟩), .pointer (some ⟨W0.heap.size, 0, none⟩), .int .i64 ((aroundL W H at_).getD k 0), .agg #[.int .i64 W, .int .i64 H, .slice A n cap], .int .i64 at_, .func (.func 103) #[] #[.pointer (some ⟨W0.heap.size + 1 + 1, 0, none⟩), .pointer (some ⟨W0.heap.size + 1, 0, none⟩)], .int .i64 ((aroundL W H at_).getD k 0), undef, undef, undef, undef, undef, undef, undef, undef, undef, undef, undef, undef, undef, undef, undef, undef, undef, undef, undef, undef, undef, undef, undef, undef, undef, undef], defers := [] })
    ?assign ?body ?done ?stop
  case assign =>
    intro l2 k V K hk hK
    rw [valsOf_length] at hk
    obtain ⟨x, hx⟩ := HG.out k hk
    have e : (aroundL W H at_).getD k 0 = x := by rw [List.getD_eq_getElem?_getD, hx]; rfl
    rw [valsOf_get hx]
    rw [e] at hK
    gi_wp2
    exact hK
  case body =>
    rintro l2 T k V hk ⟨hj, hr⟩
    rw [valsOf_length] at hk
    obtain ⟨x, hx⟩ := HG.out k hk
    have e : (aroundL W H at_).getD k 0 = x := by rw [List.getD_eq_getElem?_getD, hx]; rfl
    rw [e]
    have hx := Lib.hid hx
    clear e
    obtain ⟨⟨c1, c2, c3⟩, l1, l2', l3⟩ := HRC.out T V hr
    have HJ2 := Lib.hid hj
    have HR2 := Lib.hid hr
    clear hj hr
    have hx9 : x < 900 := by
      have := around_lt W H at_ hW2 hH x (List.mem_of_getElem? hx.out)
      exact this
    have d1 : 0 ≤ (x : Int) / (W : Int) := Int.ediv_nonneg (by omega) (by omega)
    have d2 : (x : Int) / (W : Int) < 900 := by have := Int.ediv_le_self (W : Int) (show 0 ≤ (x : Int) by omega); omega
    have d3 : 0 ≤ (at_ : Int) / (W : Int) := Int.ediv_nonneg (by omega) (by omega)
    have d4 : (at_ : Int) / (W : Int) < 900 := by have := Int.ediv_le_self (W : Int) (show 0 ≤ (at_ : Int) by omega); omega
    by_cases hb : beside W at_ x = true
    · obtain ⟨hk1, hk2⟩ := cntN_get hx.out hb
      have hY : ∀ V1, J (U T) (cntN W at_ (aroundL W H at_) k) V1 → YieldAt Fence.wide 0 Tryd.prog l #[.int .i64 x] V1 fun e W' => Kept (U T) V1 W' ∧ ((e = .returned (.bool true) ∧ J (U T) (cntN W at_ (aroundL W H at_) k + 1) W') ∨ (e = .returned (.bool false) ∧ Jx (U T) (cntN W at_ (aroundL W H at_) k) W')) := fun V1 hV1 => by
        have := HR.out (U T) (cntN W at_ (aroundL W H at_) k) V1 (by rw [valsOf_length]; exact hk1) hV1
        rw [show nbrs W H at_ = (aroundL W H at_).filter (beside W at_) from rfl, valsOf_get hk2] at this
        exact this
      have HY := Lib.hid hY
      have HB := Lib.hid hb
      have HK1 := Lib.hid hk1
      clear hY hk1 hk2
      by_cases hc : x % W = at_ % W
      · have q1 : ((x : Int) % (W : Int) == (at_ : Int) % (W : Int)) = true := by simpa using mod_eq_int.2 hc
        clear hc hb
        gi_wp2_with fail
        refine wpIn_round_tail 23 (by kernel_rfl) (by kernel_rfl) ?_
        simp only [List.take_succ_cons, List.take_zero, List.drop_succ_cons, List.drop_zero]
        repeat (go_big_quiet_step ((fail)))
        refine wpQuiet_nil ?_
        intro z
        obtain ⟨fn, tmps, assign, body, hyy, hRR⟩ := HY.out z.val (HJ.out _ _ _ V _ HJ2.out (Takes.refl _ _) (Only.later z))
        gi_wp2
        refine (round_in hRR).mono ?_
        clear hyy hRR
        rintro e W' ⟨hkp, (⟨rfl, hJ'⟩ | ⟨rfl, hx'⟩)⟩
        · have HJ3 := Lib.hid hJ'
          have HKP := Lib.hid hkp
          clear hJ' hkp
          gi_wp2
          refine ⟨((Kept.later z).trans (HKP.out.mono (HU1.out T))), ?_, HRK.out _ _ _ HR2.out ((Kept.later z).trans HKP.out)⟩
          rw [cntN_step hx.out, HB.out]
          exact HJ3.out
        · have HJ3 := Lib.hid hx'
          have HKP := Lib.hid hkp
          clear hx' hkp
          gi_wp2
          exact ⟨((Kept.later z).trans (HKP.out.mono (HU1.out T))), rfl, ⟨_, HK1.out, HJ3.out⟩, HRK.out _ _ _ HR2.out ((Kept.later z).trans HKP.out)⟩
      · have q1 : ((x : Int) % (W : Int) == (at_ : Int) % (W : Int)) = false := by simpa using fun h => hc (mod_eq_int.1 h)
        have q2 : ((x : Int) / (W : Int) == (at_ : Int) / (W : Int)) = true := by
          have : x / W = at_ / W := by simpa [beside, hc] using hb
          simpa using div_eq_int.2 this
        clear hc hb
        gi_wp2_with fail
        refine wpIn_round_tail 23 (by kernel_rfl) (by kernel_rfl) ?_
        simp only [List.take_succ_cons, List.take_zero, List.drop_succ_cons, List.drop_zero]
        repeat (go_big_quiet_step ((fail)))
        refine wpQuiet_nil ?_
        intro z
        obtain ⟨fn, tmps, assign, body, hyy, hRR⟩ := HY.out z.val (HJ.out _ _ _ V _ HJ2.out (Takes.refl _ _) (Only.later z))
        gi_wp2
        refine (round_in hRR).mono ?_
        clear hyy hRR
        rintro e W' ⟨hkp, (⟨rfl, hJ'⟩ | ⟨rfl, hx'⟩)⟩
        · have HJ3 := Lib.hid hJ'
          have HKP := Lib.hid hkp
          clear hJ' hkp
          gi_wp2
          refine ⟨((Kept.later z).trans (HKP.out.mono (HU1.out T))), ?_, HRK.out _ _ _ HR2.out ((Kept.later z).trans HKP.out)⟩
          rw [cntN_step hx.out, HB.out]
          exact HJ3.out
        · have HJ3 := Lib.hid hx'
          have HKP := Lib.hid hkp
          clear hx' hkp
          gi_wp2
          exact ⟨((Kept.later z).trans (HKP.out.mono (HU1.out T))), rfl, ⟨_, HK1.out, HJ3.out⟩, HRK.out _ _ _ HR2.out ((Kept.later z).trans HKP.out)⟩
    · have hb' : beside W at_ x = false := by simpa using hb
      have HB := Lib.hid hb'
      have q1 : ((x : Int) % (W : Int) == (at_ : Int) % (W : Int)) = false := by
        simp only [beside, Bool.or_eq_false_iff, beq_eq_false_iff_ne] at hb'
        simpa using fun h => hb'.1 (mod_eq_int.1 h)
      have q2 : ((x : Int) / (W : Int) == (at_ : Int) / (W : Int)) = false := by
        simp only [beside, Bool.or_eq_false_iff, beq_eq_false_iff_ne] at hb'
        simpa using fun h => hb'.2 (div_eq_int.1 h)
      clear hb hb'
      gi_wp2_with fail
      refine wpIn_round_tail 23 (by kernel_rfl) (by kernel_rfl) ?_
      simp only [List.take_succ_cons, List.take_zero, List.drop_succ_cons, List.drop_zero]
      repeat (go_big_quiet_step ((fail)))
      refine wpQuiet_nil ?_
      intro z
      gi_wp2
      refine ⟨Kept.later z, ?_, HRK.out _ _ _ HR2.out (Kept.later z)⟩
      rw [cntN_step hx.out, HB.out]
      exact HJ.out _ _ _ V _ HJ2.out (Takes.refl _ _) (Only.later z)
  case done =>
    rintro D T V hD hTD hT0 ⟨hj, hr⟩ hK
    rw [valsOf_length] at hj
    have HJ2 := Lib.hid hj
    clear hj hr
    gi_wp2
    refine ⟨by simp, .inl ⟨_, _, rfl, run_takeDeferred hK, ?_⟩⟩
    refine ⟨_, results_none rfl _ _ _, ⟨_, rfl⟩, U T, HU2.out T, .inl ?_⟩
    rw [valsOf_length]
    have e : cntN W at_ (aroundL W H at_) (aroundL W H at_).length = (nbrs W H at_).length := by unfold cntN nbrs; rw [List.take_length]
    rw [← e]
    exact HJ.out _ _ _ V _ HJ2.out (Takes.refl _ _) (Only.putObj _ (HU1.out T _ hTD))
  case stop =>
    rintro D c T k V hk hD hTD hT0 ⟨rfl, ⟨j, hj1, hj2⟩, hr⟩ hK
    have HJ2 := Lib.hid hj2
    clear hj2 hr
    gi_wp2
    refine ⟨by simp, .inl ⟨_, _, rfl, run_takeDeferred hK, ?_⟩⟩
    refine ⟨_, results_none rfl _ _ _, ⟨_, rfl⟩, U T, HU2.out T, .inr ⟨j, ?_, ?_⟩⟩
    · rw [valsOf_length]; exact hj1
    · exact HJX.out _ _ _ V _ HJ2.out (Takes.refl _ _) (Only.putObj _ (HU1.out T _ hTD))
end Go.Proofs.YtajfepogecakbaaDoor
