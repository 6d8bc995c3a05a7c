/- sluice.steps, called with sedge/sluice.Ridge$1: walked. -/
import Derived.Test.YtelfinjnbncnlaaStepsC
import Derived.Test.YtelfinjnbncnlaaDepths
import Derived.Test.YtelfinjnbncnlaaSluiceFirst
namespace Go.Proofs.Ytelfinjnbncnlaa
open Go.RowKit

set_option maxRecDepth 100000 in
set_option maxHeartbeats 3200000 in
theorem steps_ridge (W H n cap m capS kf cf : Nat) (A B Fr : Option Addr) (p1 p2 : Value) (may : Nat → Bool) (src : List Nat) (w : World) (hW : 1 ≤ W) (hW2 : W ≤ 16) (hH1 : 1 ≤ H) (hH : H ≤ 16) (hn : n = W * H) (hk : src.length = kf) (hk0 : 0 < kf) (hk9 : kf ≤ 256) (hs : ∀ i, i ∈ src → i < n) (hp : IsInts w Fr kf fun i => ((src.getD i 0 : Nat) : Int))
    (MAY : ∀ V, Below w.heap.size w V → ∀ i : Nat, i < n → Gives Try.prog 27 #[.int .i64 i, p1, p2] V (.bool (may i))) :
    Calls Try.prog 52 #[.agg #[.int .i64 W, .int .i64 H, .slice A n cap, .slice B m capS], .slice Fr kf cf, .func (.func 27) #[] #[p1, p2]] w (PostDi w n (near4 W H) may src) := by
  have hn9 : n ≤ 256 := by rw [hn]; exact Nat.mul_le_mul hW2 hH
  have hn1 : 1 ≤ n := by rw [hn]; exact Nat.mul_le_mul hW hH1
  have hmul : (W : Int) * (H : Int) = (n : Int) := by rw [hn, Int.natCast_mul]
  have hmb : (W : Int) * (H : Int) ≤ 256 := by omega
  have hm0 : 0 ≤ (W : Int) * (H : Int) := by omega
  have RP : Hid (∀ (w : World) (g0 : Nat), w.cell? ⟨g0, 0, none⟩ = some (.int .i64 (-1)) → Calls Try.prog 36 #[.slice (some ⟨g0, 0, none⟩) 1 1, .int .i64 ((W : Int) * (H : Int))] w fun e w' => ∃ g, e = .returned (.slice (some ⟨g, 0, none⟩) n n) ∧ g = w.heap.size ∧ ∃ y : Later w, w' = y.val ∧ OwnI w' w.heap.size (.slice (some ⟨g, 0, none⟩) n n) (List.replicate n (-1))) := fun w g0 h => by
    rw [hmul]; exact repeat_any g0 0 1 n (-1) w hn1 (by omega) h
  have NR : Hid (∀ (w' : World) (i : Nat), i < n → GivesI 51 #[.int .i64 W, .int .i64 H, .int .i64 i] w' (natN (near4 W H i))) := fun w' i hi => near_any W H i w' hW hW2 hH (hn ▸ hi)
  have LT : Hid (∀ i j, i < n → j ∈ near4 W H i → j < n) := fun i j hi hj => by rw [hn] at hi ⊢; exact near_lt hj hi
  have HP := Lib.hid hp
  have HS := Lib.hid hs
  have MY := Lib.hid MAY
  have HK := Lib.hid hk
  have CL : Hid (∀ w', Below w.heap.size w w' → GivesI 41 #[.slice Fr kf cf] w' (natN src)) := fun w' h => by
    obtain ⟨b1, o1, rfl, p1⟩ := (hp.later ⟨w', h⟩).at_ hk0
    have k := clone_ints b1 o1 kf cf _ w' hk0 (by omega) p1
    have e : (List.range kf).map (fun i => ((src.getD i 0 : Nat) : Int)) = natN src := by
      apply List.ext_getElem
      · simp [natN, hk]
      · intro i h1 h2
        have h3 : i < src.length := by simpa [natN] using h2
        simp [natN, List.getD_eq_getElem?_getD, h3]
    rw [e] at k
    exact k
  clear hp hs MAY hn hk hmul
  obtain ⟨i0, hi0, hz0, hz1, hz2⟩ := info_int
  go_enter Try.func52, Try.ntmps52
  go_wp2_with (go_at_call 36; refine Calls.mono (RP.out _ _ (cell_of_heap (box_two w _ _) 0 _ rfl)) ?_; rintro e w1 ⟨g, rfl, hg, y, rfl, ho⟩)
  have BX : Hid (∀ V, Below ((w.alloc (.cells #[.int .i64 W, .int .i64 H, .slice A n cap, .slice B m capS] 25)).alloc (.cells #[.int .i64 (-1)] 3)).heap.size ((w.alloc (.cells #[.int .i64 W, .int .i64 H, .slice A n cap, .slice B m capS] 25)).alloc (.cells #[.int .i64 (-1)] 3)) V → V.heap[w.heap.size]? = some (.cells #[.int .i64 W, .int .i64 H, .slice A n cap, .slice B m capS] 25)) := fun V h =>
    (h.block w.heap.size (by simp only [World.size_alloc]; omega)).trans ((Below.heap_alloc _ _ _ (by simp)).trans (World.alloc_heap_new _ _))
  have HB : Hid (Below w.heap.size w ((w.alloc (.cells #[.int .i64 W, .int .i64 H, .slice A n cap, .slice B m capS] 25)).alloc (.cells #[.int .i64 (-1)] 3))) := by show Below _ _ _; repeat (first | exact Below.refl _ _ | (with_reducible assumption) | apply below_later | apply below_alloc | apply below_drew | apply below_drewN)
  have KC0 : Hid (KC ((w.alloc (.cells #[.int .i64 W, .int .i64 H, .slice A n cap, .slice B m capS] 25)).alloc (.cells #[.int .i64 (-1)] 3)) y.val g n n (List.replicate n (-1))) := ⟨y.ok, ho⟩
  simp only [World.size_alloc] at hg
  obtain ⟨g', hg'⟩ : ∃ g', w.heap.size + 1 + 1 = g' := ⟨_, rfl⟩
  have eg : g = g' := by omega
  subst eg
  rw [hg']
  have hgw : w.heap.size < g := by omega
  have ng : w.heap.size ≠ g := by omega
  have ng' : g ≠ w.heap.size := by omega
  clear ho hg hg'
  generalize y.val = VY at *
  generalize (w.alloc (.cells #[.int .i64 W, .int .i64 H, .slice A n cap, .slice B m capS] 25)).alloc (.cells #[.int .i64 (-1)] 3) = VB at *
  go_loopw [23] (fun u wr => ∃ (k : Nat) (l : List Int), u = .int .i64 k ∧ k ≤ kf ∧ KC VB wr g n n l ∧ l.length = n ∧ ∀ i, i < n → l.getD i 0 = if i ∈ src.take k then 0 else -1) (fun u _ => kf - (intOf u).toNat)
  case atStart => exact ⟨0, _, rfl, by omega, KC0.out, by simp, fun i hi => by simp [List.getD_eq_getElem?_getD, hi]⟩
  case round =>
    obtain ⟨k, l, rfl, hk, kc, hlen, hl⟩ := hrel
    have KC1 := Lib.hid kc
    have HLEN := Lib.hid hlen
    have HLL := Lib.hid hl
    clear kc hlen hl KC0
    by_cases hlt : k < kf
    · obtain ⟨b1, o1, hF, p1⟩ := (HP.out.later ⟨wr, below_more HB.out KC1.out.below⟩).at_ (by omega)
      subst hF
      have cfr := p1.at_ k hlt
      have lf := p1.lt
      obtain ⟨a, ha⟩ : ∃ a, src[k]? = some a := ⟨_, List.getElem?_eq_getElem (by rw [HK.out]; exact hlt)⟩
      have ea : src.getD k 0 = a := by rw [List.getD_eq_getElem?_getD, ha]; rfl
      rw [ea] at cfr
      have han : a < n := HS.out a (List.mem_of_getElem? ha)
      obtain ⟨co, fo⟩ := KC1.out.own.cell HLEN.out han
      have foa := fo a
      have lg := (own_lt KC1.out.own g rfl).2
      have KC2 := Lib.hid (KC1.out.put HLEN.out a 0)
      have HSET : Hid (∀ i, i < n → (l.set a 0).getD i 0 = if i ∈ src.take (k + 1) then 0 else -1) := fun i hi => by
        rw [getD_put (by rw [HLEN.out]; exact han), List.take_add_one, ha, Option.toList_some]
        by_cases c : i = a
        · subst c; rw [if_pos rfl, if_pos (by simp)]
        · rw [if_neg c, HLL.out i hi]
          have e : (i ∈ src.take k ++ [a]) ↔ i ∈ src.take k := by simp [c]
          simp only [e]
      clear p1 fo ha ea
      go_wp2_with fail
      go_roundw
      case rel => exact ⟨k + 1, _, by go_num, by omega, KC2.out, by rw [List.length_set]; exact HLEN.out, HSET.out⟩
      case measure => simp [intOf]; omega
    · obtain rfl : k = kf := by omega
      have B0 := Lib.hid (bfs_start (nx := near4 W H) (may := may) HLEN.out HS.out fun i hi => by rw [HLL.out i hi, List.take_of_length_le (by rw [HK.out]; exact Nat.le_refl _)])
      have N0 : Hid (Near1 n l) := near_start HLEN.out fun i hi => by rw [HLL.out i hi]; split <;> omega
      have hbw := below_more HB.out KC1.out.below
      go_wp2_with (go_at_call 41; with_reducible refine Calls.mono (GivesI.calls (CL.out _ hbw)) ?_; rintro e w1 ⟨vq, rfl, z, rfl, hoq⟩)
      have SQ0 : Hid (SQ VB z.val g n n l vq src (.slice none 0 0) []) :=
        ⟨below_more KC1.out.below z.ok, KC1.out.own.later z, by
          have h := (tail_of_own hoq)
          rw [show (natN src).length = src.length by simp [natN]] at h
          refine ⟨h.1, h.2.imp id ?_⟩
          rintro ⟨g1, f1, c1, cu, e1, e2, r⟩
          exact ⟨g1, f1, c1, cu, e1, by have := KC1.out.below.size; omega, r⟩, OwnI.nil _ _, fun t ht => ⟨fun e => by have := (own_lt hoq t ht).1; have := (own_lt KC1.out.own g rfl).2; omega, fun k hk => by simp [Value.ownBlock] at hk⟩, fun t ht => by simp [Value.ownBlock] at ht⟩
      clear hoq hbw KC1 HLL
      generalize z.val = VZ at *
      go_loopg [10] (src.length + unset1 l n) (fun num v10 wr => ∃ (o : List Int) (q : List Nat) (top : Int), num = q.length + unset1 o n ∧ SQ VB wr g n n o v10 q (.slice none 0 0) [] ∧ Bfs n (near4 W H) may src o q (fun _ _ => False) top ∧ Near1 n o ∧ q.length + unset1 o n ≤ src.length + n)
      case atStart => exact ⟨l, src, 0, rfl, SQ0.out, B0.out, N0.out, by have := unset1_le l n; omega⟩
      case round =>
        obtain ⟨o, q, top, hnum, sq, bfs, hn1o, hqo⟩ := hrel
        have HQO := Lib.hid hqo
        clear hqo
        have NO1 := Lib.hid hn1o
        clear hn1o N0
        have SQ1 := Lib.hid sq
        have BF1 := Lib.hid bfs
        have HNUM := Lib.hid hnum
        clear sq bfs hnum SQ0 B0
        rcases q with _ | ⟨c, q⟩
        · have hq := SQ1.out.que
          rcases hq.2 with ⟨hv, _⟩ | ⟨gq, oq, cq, cu, hv, _⟩
          all_goals
            subst hv
            clear hq
            go_wp2_with fail
            go_ret
            exact ⟨_, o, rfl, ⟨_, below_more HB.out SQ1.out.below⟩, rfl, SQ1.out.out.mono HB.out.size, BF1.out.len, BF1.out.dist⟩
        · obtain ⟨gq, oq, cq, hv, q1, q2, ccq, sq2⟩ := SQ1.out.head
          subst hv
          have SQ2 := Lib.hid sq2
          have hah := BF1.out.ahead c (List.mem_cons_self ..)
          obtain ⟨hcn, hoc, _⟩ := hah
          have HOC := Lib.hid hoc
          have BF2 := Lib.hid BF1.out.take
          have M0 := BX.out _ SQ1.out.below
          have m0 := cell_of_heap M0 0 _ rfl
          have m1 := cell_of_heap M0 1 _ rfl
          have lM := get_lt M0
          obtain ⟨nl, hnl⟩ : ∃ nl, (near4 W H c).length = nl := ⟨_, rfl⟩
          have HNL : Hid ((natN (near4 W H c)).length = nl) := by show _ = _; rw [← hnl]; simp [natN]
          have nl4 : nl ≤ 4 := hnl ▸ near_len W H c
          have HNL2 := Lib.hid hnl
          obtain ⟨lq, hlq⟩ : ∃ lq, q.length = lq := ⟨_, rfl⟩
          have HLQ := Lib.hid hlq
          have HLQL : Hid (lq ≤ 512) := by
            have h1 := HQO.out
            have h2 := HK.out
            rw [List.length_cons] at h1
            show lq ≤ 512
            omega
          rw [hlq] at q1 SQ2 ⊢
          clear sq2 M0 hnl hoc hlq
          by_cases h1 : cq = 1
          all_goals
            first
              | rw [if_pos h1] at SQ2
              | rw [if_neg h1] at SQ2
            go_wp2_with (go_at_call 51; with_reducible refine Calls.mono (GivesI.calls (NR.out _ c hcn)) ?_; rintro e w2 ⟨vn, rfl, yn, rfl, hon⟩; obtain ⟨AN, capN, rfl⟩ := hon.shape_n (n := nl) HNL.out; have HON := Lib.hid hon; clear hon)
            have SQ3 := Lib.hid (SQ2.out.round yn HON.out)
            have HYB : Hid (Below VB.heap.size VB yn.val) := SQ3.out.below
            have M1 := BX.out _ HYB.out
            clear SQ2 HON m0 m1 lM M1 ccq
            generalize yn.val = VN at *
            go_loopw [10, 48] (fun v10 u wr => ∃ (j : Nat) (o' : List Int) (q' : List Nat), u = .int .i64 j ∧ j ≤ nl ∧ q'.length + unset1 o' n = lq + unset1 o n ∧ SQ VB wr g n n o' v10 q' (.slice AN nl capN) (near4 W H c) ∧ Bfs n (near4 W H) may src o' q' (fun a i => a = c ∧ i ∈ (near4 W H c).drop j) (o'.getD c 0) ∧ o'.getD c 0 ≠ -1 ∧ Near1 n o') (fun _ u _ => nl - (intOf u).toNat)
            case atStart => exact ⟨0, o, q, rfl, by omega, by rw [HLQ.out], by first | exact SQ3.out | (have h9 := SQ3.out; rw [h1] at h9; exact h9), BF2.out, HOC.out, NO1.out⟩
            case round =>
              obtain ⟨j, o', q', rfl, hj, hnum, sq, bfs, hoc, hnx⟩ := hrel
              have NO4 := Lib.hid hnx
              clear hnx
              have SQ4 := Lib.hid sq
              have BF4 := Lib.hid bfs
              have HNM := Lib.hid hnum
              have HOC4 := Lib.hid hoc
              clear sq bfs hnum hoc SQ3 BF2
              by_cases hjl : j < nl
              · obtain ⟨gn, fn, hAN, pN⟩ := (SQ4.out.near.ints (by rw [HNL.out]; omega)).2.at_ (by omega)
                subst hAN
                have cN := pN.at_ j hjl
                have lN := pN.lt
                obtain ⟨b, hb⟩ : ∃ b, (near4 W H c)[j]? = some b := ⟨_, List.getElem?_eq_getElem (by rw [HNL2.out]; exact hjl)⟩
                have eb : (natN (near4 W H c)).getD j 0 = (b : Int) := by rw [List.getD_eq_getElem?_getD, natN, List.getElem?_map, hb]; rfl
                rw [eb] at cN
                have hbn : b < n := LT.out c b hcn (List.mem_of_getElem? hb)
                have HBJ := Lib.hid hb
                obtain ⟨cb, fb⟩ := SQ4.out.out.cell BF4.out.len hbn
                have lg := (own_lt SQ4.out.out g rfl).2
                clear pN hb eb
                by_cases hob : o'.getD b 0 = -1
                · cases hmb : may b
                  · have MB : Hid (∀ V, Below w.heap.size w V → Gives Try.prog 27 #[.int .i64 b, p1, p2] V (.bool false)) := fun V h => hmb ▸ MY.out V h b hbn
                    have BF5 := Lib.hid (BF4.out.skip HBJ.out hbn (.inr hmb))
                    have hbw : Below w.heap.size w wr := below_more HB.out SQ4.out.below
                    rw [hob] at cb
                    clear hmb hob
                    go_wp2_with (go_at_call 27; with_reducible refine Calls.mono (Gives.calls (MB.out _ hbw)) ?_; rintro e w3 ⟨rfl, z3, rfl⟩)
                    go_roundw
                    case rel => exact ⟨j + 1, o', q', by go_num, by omega, HNM.out, SQ4.out.to z3.ok, BF5.out, HOC4.out, NO4.out⟩
                    case measure => simp [intOf]; omega
                  · have MB : Hid (∀ V, Below w.heap.size w V → Gives Try.prog 27 #[.int .i64 b, p1, p2] V (.bool true)) := fun V h => hmb ▸ MY.out V h b hbn
                    have BF5 := Lib.hid (BF4.out.new hcn HOC4.out HBJ.out hbn hob hmb)
                    have UN := Lib.hid (unset1_set (x := o'.getD c 0 + 1) BF4.out.len hbn hob (by have := BF4.out.sgn c hcn; have := HOC4.out; omega) n)
                    have hbw : Below w.heap.size w wr := below_more HB.out SQ4.out.below
                    have HOB := Lib.hid hob
                    rw [hob] at cb
                    have s0 := BF4.out.sgn c hcn
                    have s1 := HOC4.out
                    have s2 : o'.getD c 0 ≤ 256 := by have := NO4.out c hcn; omega
                    clear hmb hob
                    have NO5 := Lib.hid (near_new NO4.out BF4.out.len hcn hbn HOB.out (by omega))
                    go_wp2_with fail
                    go_at_call 27
                    with_reducible refine Calls.mono (Gives.calls (MB.out _ hbw)) ?_
                    rintro e w3 ⟨rfl, z3, rfl⟩
                    have SQ5 := Lib.hid (SQ4.out.to z3.ok)
                    obtain ⟨cb3, fb3⟩ := SQ5.out.out.cell BF4.out.len hbn
                    obtain ⟨cc3, fc3⟩ := SQ5.out.out.cell BF4.out.len hcn
                    have fbb := fb3 b
                    have lg3 := (own_lt SQ5.out.out g rfl).2
                    clear fb3 fc3
                    have SQ6 := Lib.hid (SQ5.out.put BF4.out.len b (o'.getD c 0 + 1))
                    have hqn : q'.length ≤ 800 := by
                      have h1 := HNM.out
                      have h2 := HLQL.out
                      have h3 := unset1_le o n
                      omega
                    have s3 : 0 ≤ o'.getD c 0 := by omega
                    obtain ⟨oc, hoc⟩ : ∃ oc, o'.getD c 0 = oc := ⟨_, rfl⟩
                    rw [hoc] at cc3 SQ6 s2 s3 BF5 UN NO5
                    clear s0 s1 hoc
                    have hb6 : VB.heap.size ≤ ((z3.val.setCell ⟨g, b, none⟩ (.int .i64 (oc + 1))).alloc (.cells #[.int .i64 b] 3)).heap.size := by
                      have h9 := SQ6.out.below.size
                      rw [World.size_alloc]; omega
                    have hq6 := (SQ6.out.to ((Below.refl _ _).alloc (Nat.le_refl _) (.cells #[.int .i64 b] 3))).que
                    have HB6 := Lib.hid hb6
                    have HQ6 := Lib.hid hq6
                    clear hb6 hq6
                    go_wp2_with (at_builtin; refine wpList_append_tail _ rfl _ _ 22 rfl VB.heap.size 3 i0 (.int .i64 0) 1 8 Try.underlying22 hi0 hz0 hz1 hz2 rfl _ _ _ rfl HQ6.out ⟨_, 0, none⟩ 1 1 [.int .i64 (b : Nat)] rfl rfl (lit_at (by simp)) one_int (by omega) (by unfold maxLen; omega) (by omega) HB6.out ?_)
                    intro v5 w5 hq5 hg5 hat
                    have SQ7 := Lib.hid (SQ6.out.push hg5 hq5 (by simpa using hat))
                    clear hq5 hg5 hat
                    go_wp2_with fail
                    go_roundw
                    case rel =>
                      refine ⟨j + 1, _, q' ++ [b], by go_num, by omega, ?_, SQ7.out, BF5.out, ?_, NO5.out⟩
                      · have h1 := HNM.out
                        have h2 := UN.out
                        rw [if_pos hbn] at h2
                        rw [List.length_append, List.length_singleton]
                        omega
                      · have h1 := HOC4.out
                        rw [getD_at BF4.out.len hbn]
                        split
                        · omega
                        · exact h1
                    case measure => simp [intOf]; omega
                · have hq : (o'.getD b 0 == -1) = false := by simpa using hob
                  have BF5 := Lib.hid (BF4.out.skip HBJ.out hbn (.inl hob))
                  clear hob
                  generalize o'.getD b 0 = ob at *
                  go_wp2_with fail
                  go_roundw
                  case rel => exact ⟨j + 1, o', q', by go_num, by omega, HNM.out, SQ4.out, BF5.out, HOC4.out, NO4.out⟩
                  case measure => simp [intOf]; omega
              · obtain rfl : j = nl := by omega
                have hnm := HNM.out
                have hnu := HNUM.out
                rw [List.length_cons, HLQ.out] at hnu
                go_wp2_with fail
                go_roundg (q'.length + unset1 o' n)
                case measure => omega
                case rel => exact ⟨o', q', o'.getD c 0, rfl, SQ4.out.drop, BF4.out.end_ (by rw [HNL2.out]; exact Nat.le_refl _), NO4.out, by have h1 := HQO.out; rw [List.length_cons] at h1; have h2 := HLQ.out; omega⟩
end Go.Proofs.Ytelfinjnbncnlaa
