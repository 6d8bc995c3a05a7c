/- The document's own hull: walked. -/
import Derived.Test.YtamhhbkjgfhfoaaDoorHull
import Derived.Test.YtamhhbkjgfhfoaaDoorRefNum
import Derived.RangeFuncBound
namespace Go.Proofs.YtamhhbkjgfhfoaaDoor
open Go.RowKit

theorem cell_of_box {w : World} {b : Nat} {cs : Array Value} {t : TypeId} {z : Nat × Nat} (h : w.heap[b]? = some (.cells cs t z)) (i : Nat) (v : Value) (hi : cs[i]? = some v) : w.cell? ⟨b, i, none⟩ = some v := by
  simp [World.cell?, h, hi]
theorem thaw_of_box {w : World} {b : Nat} {cs : Array Value} {t : TypeId} (h : w.heap[b]? = some (.cells cs t (0, 0))) (i : Nat) : w.frozen? ⟨b, i, none⟩ = false := by
  simp [World.frozen?, h]
theorem two_set {w : World} {b : Nat} {u v u' v' : Value} {t : TypeId} (h : w.heap[b]? = some (.cells #[u, v] t (0, 0))) : ((w.setCell ⟨b, 0, none⟩ u').setCell ⟨b, 1, none⟩ v').heap[b]? = some (.cells #[u', v'] t (0, 0)) := by
  have e1 : (w.setCell ⟨b, 0, none⟩ u').heap[b]? = some (.cells #[u', v] t (0, 0)) := by
    unfold World.setCell
    simp only
    rw [Array.getElem?_modify, if_pos rfl, h]
    rfl
  unfold World.setCell at e1 ⊢
  simp only at e1 ⊢
  rw [Array.getElem?_modify, if_pos rfl, e1]
  rfl
def ptI (px py : Nat → Int) (i : Nat) : Pt := (px i, py i)
def zeroB (px py : Nat → Int) (i k : Nat) : Bool := decide (crP (ptI px py 0) (ptI px py k) (ptI px py i) = 0)
def flatB (n : Nat) (px py : Nat → Int) : Bool := allB n fun i => allB i fun k => zeroB px py i k
theorem allB_step {n : Nat} {p : Nat → Bool} : allB (n + 1) p = (allB n p && p n) := by
  unfold allB
  rw [List.range_succ, List.all_append]
  simp
theorem flat_of_zero {o : Pt} {l : List Pt} (h : ∀ a ∈ l, ∀ b ∈ l, crP o a b = 0) : Flat l := by
  intro a ha b hb c hc
  have h1 := h a ha b hb
  have h2 := h a ha c hc
  have h3 := h b hb c hc
  unfold crP crossI at *
  grind
theorem flat_flag {n : Nat} {px py : Nat → Int} : flatB n px py = true ↔ Flat (ptsOf n px py) := by
  constructor
  · intro h
    refine flat_of_zero (o := ptI px py 0) fun a ha b hb => ?_
    obtain ⟨i, hi, rfl⟩ := List.mem_map.1 ha
    obtain ⟨k, hk, rfl⟩ := List.mem_map.1 hb
    have hi' := List.mem_range.1 hi
    have hk' := List.mem_range.1 hk
    have key : ∀ i k, i < n → k < i → crP (ptI px py 0) (ptI px py k) (ptI px py i) = 0 := fun i k hi hk => by
      have := allB_iff.1 (allB_iff.1 h i hi) k hk
      simpa [zeroB] using this
    rcases Nat.lt_trichotomy i k with hlt | rfl | hlt
    · exact key k i hk' hlt
    · show crP _ (ptI px py i) (ptI px py i) = 0
      unfold crP crossI
      grind
    · have e := key i k hi' hlt
      have : crP (ptI px py 0) (ptI px py i) (ptI px py k) = - crP (ptI px py 0) (ptI px py k) (ptI px py i) := by unfold crP crossI; grind
      show crP _ (ptI px py i) (ptI px py k) = 0
      rw [this, e]
      rfl
  · intro h
    refine allB_true fun i hi => allB_true fun k hk => ?_
    unfold zeroB
    have m : ∀ j, j < n → ptI px py j ∈ ptsOf n px py := fun j hj => List.mem_map.2 ⟨j, List.mem_range.2 hj, rfl⟩
    simpa using h _ (m 0 (by omega)) _ (m k (by omega)) _ (m i hi)

set_option maxHeartbeats 800000 in
theorem r_far_any (ax ay bx b_y : Int) (w : World) (ha : InRange ax ay) (hb : InRange bx b_y) :
    Gives Tryd.prog 25 #[.agg #[.int .i64 ax, .int .i64 ay], .agg #[.int .i64 bx, .int .i64 b_y]] w (.int .i64 (farP (ax, ay) (bx, b_y))) := by
  obtain ⟨h1, h2, h3, h4⟩ := ha
  obtain ⟨h5, h6, h7, h8⟩ := hb
  obtain ⟨b3, b4⟩ := mul_bd (a := ax - bx) (b := ax - bx) 2000 2000 (by omega) (by omega) (by omega) (by omega)
  obtain ⟨b5, b6⟩ := mul_bd (a := ay - b_y) (b := ay - b_y) 2000 2000 (by omega) (by omega) (by omega) (by omega)
  go_enter Tryd.func25, Tryd.ntmps25
  go_wp2
  go_ret
  exact ⟨rfl, later_of (by repeat (first | exact Below.refl _ _ | (with_reducible assumption) | apply below_later | apply below_alloc | apply below_drew | apply below_drewN))⟩

/-- The first post, so far. -/
theorem nodup_le : ∀ (L l : List Pt), L.Nodup → (∀ x ∈ L, x ∈ l) → L.length ≤ l.length
  | [], l, _, _ => by simp
  | a :: r, l, hn, hs => by
    have ha := hs a (by simp)
    have h1 := List.length_erase_of_mem ha
    have h2 : 0 < l.length := List.length_pos_of_mem ha
    have hn' := List.nodup_cons.1 hn
    have := nodup_le r (l.erase a) hn'.2 fun x hx => (List.mem_erase_of_ne (fun e => hn'.1 (by rw [← e]; exact hx))).2 (hs x (by simp [hx]))
    simp
    omega
theorem own_take {L : List Pt} {i : Nat} {p : Pt} (h : L[i]? = some p) : L.take (i + 1) = L.take i ++ [p] := by
  rw [List.take_add_one, h]
  rfl
theorem setCell_far {w : World} {g j b : Nat} {v : Value} (h : b ≠ g) : (w.setCell ⟨g, j, none⟩ v).heap[b]? = w.heap[b]? := Below.heap_setCell w _ v b (fun e => h e)
theorem two_set_any {w : World} {b : Nat} {u v u' v' : Value} {t : TypeId} (h : w.heap[b]? = some (.cells #[u, v] t (0, 0))) : ((w.setCell ⟨b, 0, none⟩ u').setCell ⟨b, 1, none⟩ v').heap[b]? = some (.cells #[u', v'] t (0, 0)) := two_set h
theorem own_far {w : World} {base g : Nat} {v : Value} {l : List Pt} {x y : Value} (h : OwnP w base v l) (hg : ∀ g', v.ownBlock = some g' → g' ≠ g) : OwnP ((w.setCell ⟨g, 0, none⟩ x).setCell ⟨g, 1, none⟩ y) base v l :=
  World.ownsRow.kept h ((grown_set _ _).trans (grown_set _ _)) (by
    cases hv : v.ownBlock with
    | none => exact .inl rfl
    | some g' => exact .inr (fun e => hg g' hv (Option.some.inj e)))
/-- The first k looked at from c. -/
def nxTo (l : List Pt) (c : Pt) (k : Nat) : Pt := (l.take k).foldl (pick c) c
theorem nxTo_step {l : List Pt} {c : Pt} {k : Nat} {x : Pt} (h : l[k]? = some x) : nxTo l c (k + 1) = pick c (nxTo l c k) x := by
  unfold nxTo
  rw [List.take_add_one, h, Option.toList_some, List.foldl_append]
  rfl
theorem nxTo_in {l : List Pt} {c : Pt} (hc : c ∈ l) : ∀ k, nxTo l c k ∈ l
  | 0 => by simpa [nxTo] using hc
  | k + 1 => by
    rcases Nat.lt_or_ge k l.length with h | h
    · rw [nxTo_step (List.getElem?_eq_getElem h)]
      unfold pick
      split
      · exact List.getElem_mem h
      · exact nxTo_in hc k
    · have e : nxTo l c (k + 1) = nxTo l c k := by unfold nxTo; rw [List.take_of_length_le (by omega), List.take_of_length_le h]
      rw [e]
      exact nxTo_in hc k
structure FirstBox (w : World) (n : Nat) (px py : Nat → Int) (B k : Nat) (f : Nat) (V : World) : Prop where
  fn : f < n
  least : ∀ j, j < k → lf 4001 1 (ptI px py f) ≤ lf 4001 1 (ptI px py j)
  box : V.heap[B]? = some (.cells #[.int .i64 (px f), .int .i64 (py f)] 34 (0, 0))

set_option maxRecDepth 100000 in
set_option maxHeartbeats 6400000 in
theorem r_hull_any (b off n cap : Nat) (px py : Nat → Int) (w : World) (hn : n ≤ 40) (h0 : 0 < n) (hp : Posts w b off n px py) (hv : rangedB n px py = true) (L : List Pt) (E : Int) (hh : HullR (ptsOf n px py) L E) :
    GivesP 7 #[.slice (some ⟨b, off, none⟩) n cap] w L E := by
  have hl := hp.lt
  have Hp := Lib.hid hp
  have Hh := Lib.hid hh
  have Hi : Hid (∀ i, i < n → InRange (px i) (py i)) := fun i hi => range_pts hv _ (List.mem_map.2 ⟨i, List.mem_range.2 hi, rfl⟩)
  have Hg : Hid (∀ i, i < n → (inR (px i) && inR (py i)) = true) := allB_iff.1 hv
  clear hp hv hh
  go_enter Tryd.func7, Tryd.ntmps7
  go_wp2
  go_loopw [4] (fun v wr => ∃ i : Nat, i ≤ n ∧ v = .int .i64 i ∧ ∃ x : Later w, wr = x.val) (fun v _ => n - (intOf v).toNat)
  case atStart => exact ⟨0, by omega, rfl, later_of (by repeat (first | exact Below.refl _ _ | (with_reducible assumption) | apply below_later | apply below_alloc | apply below_drew | apply below_drewN))⟩
  case round =>
    obtain ⟨i, hi, rfl, x, rfl⟩ := hrel
    by_cases hlt : i < n
    · have c1 := Hp.out.x i hlt
      have c2 := Hp.out.y i hlt
      have hs := x.size
      have hs2 : b < x.val.heap.size := by omega
      have G := Lib.hid (Hg.out i hlt)
      go_wp2_with (first | (go_at_call 23; (first | (with_reducible show Calls _ _ _ (Later.val _) _; with_reducible refine Calls.mono (Later.call _ ((G.out ▸ r_ranged_any (px i) (py i) _))) ?_) | (with_reducible refine Calls.mono (Gives.calls ((G.out ▸ r_ranged_any (px i) (py i) _))) ?_)); rintro e w1 ⟨rfl, y, rfl⟩))
      go_roundw
      case rel => exact ⟨i + 1, by omega, by go_num, later_of (by repeat (first | exact Below.refl _ _ | (with_reducible assumption) | apply below_later | apply below_alloc | apply below_drew | apply below_drewN))⟩
      case measure => simp [intOf]; omega
    · obtain rfl : n = i := by omega
      clear hi hlt
      have a0 : w.cell? ⟨b, off, none⟩ = some (.int .i64 (px 0)) := by simpa using Hp.out.x 0 h0
      have a1 : w.cell? ⟨b, off + 1, none⟩ = some (.int .i64 (py 0)) := by simpa using Hp.out.y 0 h0
      have r0 := Hi.out 0 h0
      go_wp2
      go_loopw [5, 6] (fun f v wr => ∃ i : Nat, i ≤ n ∧ v = .int .i64 i ∧ f = .bool (allB i fun i => allB i fun k => zeroB px py i k) ∧ ∃ x : Later w, wr = x.val) (fun _ v _ => n - (intOf v).toNat)
      case atStart => exact ⟨0, by omega, rfl, rfl, later_of (by repeat (first | exact Below.refl _ _ | (with_reducible assumption) | apply below_later | apply below_alloc | apply below_drew | apply below_drewN))⟩
      case round =>
        obtain ⟨i, hi, rfl, rfl, x, rfl⟩ := hrel
        by_cases hlt : i < n
        · obtain ⟨O, hO⟩ : ∃ O, (allB i fun i => allB i fun k => zeroB px py i k) = O := ⟨_, rfl⟩
          have HOO := Lib.hid hO
          rw [hO]
          clear hO
          have b1 := Hp.out.x i hlt
          have b2 := Hp.out.y i hlt
          have ri := Hi.out i hlt
          go_wp2
          go_loopw [5, 7] (fun f v wr => ∃ k : Nat, k ≤ i ∧ v = .int .i64 k ∧ f = .bool (O && allB k fun k => zeroB px py i k) ∧ ∃ x : Later w, wr = x.val) (fun _ v _ => i - (intOf v).toNat)
          case atStart => exact ⟨0, by omega, rfl, by simp [allB], later_of (by repeat (first | exact Below.refl _ _ | (with_reducible assumption) | apply below_later | apply below_alloc | apply below_drew | apply below_drewN))⟩
          case round =>
            obtain ⟨k, hk, rfl, rfl, y, rfl⟩ := hrel
            obtain ⟨F, hF⟩ : ∃ F, (O && allB k fun k => zeroB px py i k) = F := ⟨_, rfl⟩
            have HF := Lib.hid hF
            rw [hF]
            clear hF
            by_cases hkt : k < i
            · have hkn : k < n := by omega
              have d1 := Hp.out.x k hkn
              have d2 := Hp.out.y k hkn
              have rk := Hi.out k hkn
              cases F
              · have ST : Hid ((O && allB (k + 1) fun k => zeroB px py i k) = false) := by show _ = _; rw [allB_step, ← Bool.and_assoc, HF.out]; rfl
                go_wp2_with fail
                first | (with_reducible show Code.wp _ _ _ _ (Later.val _); refine wp_region_later_at _ (by kernel_rfl) (by kernel_rfl) ?_) | refine wp_region_later (by kernel_rfl) (by kernel_rfl) ?_
                repeat (go_big_quiet_step ((fail)))
                refine wpQuiet_nil ?_
                intro z
                go_wp2
                go_roundw
                case rel => exact ⟨k + 1, by omega, by go_num, by rw [ST.out], later_of (by repeat (first | exact Below.refl _ _ | (with_reducible assumption) | apply below_later | apply below_alloc | apply below_drew | apply below_drewN))⟩
                case measure => simp [intOf]; omega
              · by_cases hz : crossI (px 0) (py 0) (px k) (py k) (px i) (py i) = 0
                · have ST : Hid ((O && allB (k + 1) fun k => zeroB px py i k) = true) := by show _ = _; rw [allB_step, ← Bool.and_assoc, HF.out]; exact decide_eq_true hz
                  have T : Hid (∀ w, Gives Tryd.prog 24 #[.agg #[.int .i64 (px 0), .int .i64 (py 0)], .agg #[.int .i64 (px k), .int .i64 (py k)], .agg #[.int .i64 (px i), .int .i64 (py i)]] w (.int .i64 0)) := fun w => hz ▸ r_turn_any _ _ _ _ _ _ w r0 rk ri
                  clear hz
                  go_wp2_with fail
                  first | (with_reducible show Code.wp _ _ _ _ (Later.val _); refine wp_region_later_at _ (by kernel_rfl) (by kernel_rfl) ?_) | refine wp_region_later (by kernel_rfl) (by kernel_rfl) ?_
                  repeat (go_big_quiet_step ((first | ((go_at_call 24; (with_reducible refine Later.call _ (T.out _)))))))
                  refine wpQuiet_nil ?_
                  intro z
                  go_wp2
                  go_roundw
                  case rel => exact ⟨k + 1, by omega, by go_num, by rw [ST.out], later_of (by repeat (first | exact Below.refl _ _ | (with_reducible assumption) | apply below_later | apply below_alloc | apply below_drew | apply below_drewN))⟩
                  case measure => simp [intOf]; omega
                · have ST : Hid ((O && allB (k + 1) fun k => zeroB px py i k) = false) := by show _ = _; rw [allB_step, ← Bool.and_assoc, HF.out]; exact decide_eq_false hz
                  have T : Hid (∀ w, Gives Tryd.prog 24 #[.agg #[.int .i64 (px 0), .int .i64 (py 0)], .agg #[.int .i64 (px k), .int .i64 (py k)], .agg #[.int .i64 (px i), .int .i64 (py i)]] w (.int .i64 (crossI (px 0) (py 0) (px k) (py k) (px i) (py i)))) := fun w => r_turn_any _ _ _ _ _ _ w r0 rk ri
                  generalize crossI (px 0) (py 0) (px k) (py k) (px i) (py i) = Z at *
                  have hz' : (Z == 0) = false := beq_eq_false_iff_ne.2 hz
                  clear hz
                  go_wp2_with fail
                  first | (with_reducible show Code.wp _ _ _ _ (Later.val _); refine wp_region_later_at _ (by kernel_rfl) (by kernel_rfl) ?_) | refine wp_region_later (by kernel_rfl) (by kernel_rfl) ?_
                  repeat (go_big_quiet_step ((first | ((go_at_call 24; (with_reducible refine Later.call _ (T.out _)))))))
                  refine wpQuiet_nil ?_
                  intro z
                  go_wp2
                  go_roundw
                  case rel => exact ⟨k + 1, by omega, by go_num, by rw [ST.out], later_of (by repeat (first | exact Below.refl _ _ | (with_reducible assumption) | apply below_later | apply below_alloc | apply below_drew | apply below_drewN))⟩
                  case measure => simp [intOf]; omega
            · obtain rfl : i = k := by omega
              have ST : Hid ((allB (i + 1) fun i => allB i fun k => zeroB px py i k) = F) := by show _ = _; rw [allB_step, HOO.out, HF.out]
              go_wp2
              go_roundw
              case rel => exact ⟨i + 1, by omega, by go_num, by rw [ST.out], later_of (by repeat (first | exact Below.refl _ _ | (with_reducible assumption) | apply below_later | apply below_alloc | apply below_drew | apply below_drewN))⟩
              case measure => simp [intOf]; omega
        · obtain rfl : n = i := by omega
          clear hi hlt
          rcases Hh.out with ⟨e1, e2, hf⟩ | ⟨e1, hh⟩
          · have HB : Hid ((allB n fun i => allB i fun k => zeroB px py i k) = true) := flat_flag.2 hf
            subst e1 e2
            rw [HB.out]
            clear hf
            go_wp2
            go_ret2
            exact ⟨_, rfl, ⟨_, (by repeat (first | exact Below.refl _ _ | (with_reducible assumption) | apply below_later | apply below_alloc | apply below_drew | apply below_drewN))⟩, rfl, OwnP.nil _ _⟩
          · have HB : Hid ((allB n fun i => allB i fun k => zeroB px py i k) = false) := by
              show _ = _
              cases hb : (allB n fun i => allB i fun k => zeroB px py i k)
              · rfl
              · exact absurd (flat_flag.1 hb) (not_flat hh)
            subst e1
            rw [HB.out]
            have HH := Lib.hid hh
            clear hh
            go_wp2
            obtain ⟨B, hB⟩ : ∃ B, x.val.heap.size = B := ⟨_, rfl⟩
            have hBw : w.heap.size ≤ B := by rw [← hB]; exact x.size
            have hbox : (x.val.alloc (.cells #[.int .i64 (px 0), .int .i64 (py 0)] 34)).heap[B]? = some (.cells #[.int .i64 (px 0), .int .i64 (py 0)] 34) := by rw [← hB]; exact World.alloc_heap_new _ _
            have hbel : Below w.heap.size w (x.val.alloc (.cells #[.int .i64 (px 0), .int .i64 (py 0)] 34)) := x.ok.alloc x.size _
            rw [hB]
            generalize x.val.alloc (.cells #[.int .i64 (px 0), .int .i64 (py 0)] 34) = W0 at *
            have HBX := Lib.hid hbox
            have HBE := Lib.hid hbel
            clear hbox hbel hB a0 a1 r0 HB
            go_loopw [9] (fun v wr => ∃ i f : Nat, i ≤ n ∧ v = .int .i64 i ∧ FirstBox w n px py B i f wr ∧ Below w.heap.size w wr) (fun v _ => n - (intOf v).toNat)
            case atStart => exact ⟨0, 0, by omega, rfl, ⟨h0, fun j hj => by omega, HBX.out⟩, HBE.out⟩
            case round =>
              obtain ⟨i, f, hi, rfl, hfb, hbw⟩ := hrel
              have HFB := Lib.hid hfb
              have HBW := Lib.hid hbw
              have hBl : B < wr.heap.size := (Array.getElem?_eq_some_iff.1 hfb.box).1
              have hPw := Hp.out.later ⟨wr, hbw⟩
              have hbl : b < wr.heap.size := by have := hbw.size; omega
              have hfn := hfb.fn
              by_cases hlt : i < n
              · have c1 : wr.cell? ⟨b, off + i * 2, none⟩ = some (.int .i64 (px i)) := hPw.x i hlt
                have c2 : wr.cell? ⟨b, off + i * 2 + 1, none⟩ = some (.int .i64 (py i)) := hPw.y i hlt
                have c3 : wr.cell? ⟨B, 0, none⟩ = some (.int .i64 (px f)) := cell_of_box hfb.box 0 _ rfl
                have c4 : wr.cell? ⟨B, 1, none⟩ = some (.int .i64 (py f)) := cell_of_box hfb.box 1 _ rfl
                have ri := Hi.out i hlt
                have rf := Hi.out f hfn
                have RI := Lib.hid ri
                have RF := Lib.hid rf
                clear hfb hbw hPw ri rf
                by_cases hA : px i < px f ∨ px i = px f ∧ py i < py f
                · have HA := Lib.hid hA
                  have STEP : Hid (∀ V : World, V.heap[B]? = some (.cells #[.int .i64 (px i), .int .i64 (py i)] 34) → FirstBox w n px py B (i + 1) i V) := fun V hV => ⟨hlt, fun j hj => by
                    rcases Nat.lt_or_ge j i with h | h
                    · have := HFB.out.least j h
                      have a := RI.out
                      have b := RF.out
                      have c := HA.out
                      unfold InRange at a b
                      unfold lf ptI at *
                      simp only at *
                      omega
                    · obtain rfl : j = i := by omega
                      exact Int.le_refl _, hV⟩
                  rcases hA with hA | ⟨hA, hA2⟩
                  · go_wp2_with fail
                    refine wp_region_later (by kernel_rfl) (by kernel_rfl) ?_
                    repeat (go_big_quiet_step ((fail)))
                    refine wpQuiet_nil ?_
                    intro z
                    have hz := z.size
                    have bz : z.val.heap[B]? = some (.cells #[.int .i64 (px f), .int .i64 (py f)] 34) := (z.ok.block _ hBl).trans HFB.out.box
                    have f1 := thaw_of_box bz 0
                    have f2 := thaw_of_box bz 1
                    have d1 : z.val.cell? ⟨b, off + i * 2, none⟩ = some (.int .i64 (px i)) := (z.cell _ _ hbl).trans c1
                    have d2 : z.val.cell? ⟨b, off + i * 2 + 1, none⟩ = some (.int .i64 (py i)) := (z.cell _ _ hbl).trans c2
                    have d3 : z.val.cell? ⟨B, 0, none⟩ = some (.int .i64 (px f)) := cell_of_box bz 0 _ rfl
                    have d4 : z.val.cell? ⟨B, 1, none⟩ = some (.int .i64 (py f)) := cell_of_box bz 1 _ rfl
                    have BZ := Lib.hid bz
                    clear bz c1 c2 c3 c4
                    go_wp2
                    go_roundw
                    case rel => exact ⟨i + 1, i, by omega, by go_num, STEP.out _ (by first | exact two_set BZ.out | (have h := two_set (u' := .int .i64 (px i)) (v' := .int .i64 (py i)) BZ.out; rw [hA] at h ⊢; exact h)), ((below_more HBW.out z.ok).setCell hBw _).setCell hBw _⟩
                    case measure => simp [intOf]; omega
                  · go_wp2_with fail
                    refine wp_region_later (by kernel_rfl) (by kernel_rfl) ?_
                    repeat (go_big_quiet_step ((fail)))
                    refine wpQuiet_nil ?_
                    intro z
                    have hz := z.size
                    have bz : z.val.heap[B]? = some (.cells #[.int .i64 (px f), .int .i64 (py f)] 34) := (z.ok.block _ hBl).trans HFB.out.box
                    have f1 := thaw_of_box bz 0
                    have f2 := thaw_of_box bz 1
                    have d1 : z.val.cell? ⟨b, off + i * 2, none⟩ = some (.int .i64 (px i)) := (z.cell _ _ hbl).trans c1
                    have d2 : z.val.cell? ⟨b, off + i * 2 + 1, none⟩ = some (.int .i64 (py i)) := (z.cell _ _ hbl).trans c2
                    have d3 : z.val.cell? ⟨B, 0, none⟩ = some (.int .i64 (px f)) := cell_of_box bz 0 _ rfl
                    have d4 : z.val.cell? ⟨B, 1, none⟩ = some (.int .i64 (py f)) := cell_of_box bz 1 _ rfl
                    have BZ := Lib.hid bz
                    clear bz c1 c2 c3 c4
                    go_wp2
                    go_roundw
                    case rel => exact ⟨i + 1, i, by omega, by go_num, STEP.out _ (by first | exact two_set BZ.out | (have h := two_set (u' := .int .i64 (px i)) (v' := .int .i64 (py i)) BZ.out; rw [hA] at h ⊢; exact h)), ((below_more HBW.out z.ok).setCell hBw _).setCell hBw _⟩
                    case measure => simp [intOf]; omega
                · have HA := Lib.hid hA
                  have STEP : Hid (∀ V : World, V.heap[B]? = some (.cells #[.int .i64 (px f), .int .i64 (py f)] 34) → FirstBox w n px py B (i + 1) f V) := fun V hV => ⟨hfn, fun j hj => by
                    rcases Nat.lt_or_ge j i with h | h
                    · exact HFB.out.least j h
                    · obtain rfl : j = i := by omega
                      have a := RI.out
                      have b := RF.out
                      have c := HA.out
                      unfold InRange at a b
                      unfold lf ptI
                      simp only
                      omega, hV⟩
                  have hA' : px f < px i ∨ px i = px f ∧ py f ≤ py i := by omega
                  clear hA
                  rcases hA' with hA | ⟨hA, hA2⟩
                  · have qA : (px i == px f) = false := beq_eq_false_iff_ne.2 (by omega)
                    have qA2 : decide (px i < px f) = false := decide_eq_false (by omega)
                    clear hA
                    go_wp2_with fail
                    refine wp_region_later (by kernel_rfl) (by kernel_rfl) ?_
                    repeat (go_big_quiet_step ((fail)))
                    refine wpQuiet_nil ?_
                    intro z
                    have BZ : Hid (z.val.heap[B]? = some (.cells #[.int .i64 (px f), .int .i64 (py f)] 34)) := (z.ok.block _ hBl).trans HFB.out.box
                    go_wp2
                    go_roundw
                    case rel => exact ⟨i + 1, f, by omega, by go_num, STEP.out _ BZ.out, below_more HBW.out z.ok⟩
                    case measure => simp [intOf]; omega
                  · go_wp2_with fail
                    refine wp_region_later (by kernel_rfl) (by kernel_rfl) ?_
                    repeat (go_big_quiet_step ((fail)))
                    refine wpQuiet_nil ?_
                    intro z
                    have BZ : Hid (z.val.heap[B]? = some (.cells #[.int .i64 (px f), .int .i64 (py f)] 34)) := (z.ok.block _ hBl).trans HFB.out.box
                    go_wp2
                    go_roundw
                    case rel => exact ⟨i + 1, f, by omega, by go_num, STEP.out _ BZ.out, below_more HBW.out z.ok⟩
                    case measure => simp [intOf]; omega
              · obtain rfl : n = i := by omega
                obtain ⟨h0', hh0⟩ : ∃ a, L.head? = some a := by
                  cases hL : L with
                  | nil => have := HH.out.three; rw [hL] at this; simp at this
                  | cons a r => exact ⟨a, rfl⟩
                have HF0 : Hid ((px f, py f) = h0') := by
                  have hm : h0' ∈ ptsOf n px py := HH.out.sub _ (List.mem_of_mem_head? hh0)
                  obtain ⟨j, hj, ej⟩ := List.mem_map.1 hm
                  have hj' := List.mem_range.1 hj
                  have a := HH.out.start h0' hh0 (px f, py f) (List.mem_map.2 ⟨f, List.mem_range.2 hfn, rfl⟩)
                  have b := HFB.out.least j hj'
                  have e : ptI px py j = h0' := ej
                  rw [e] at b
                  exact lf_inj (Hi.out f hfn) (by rw [← e]; exact Hi.out j hj') (Int.le_antisymm b a)
                have c3 : wr.cell? ⟨B, 0, none⟩ = some (.int .i64 (px f)) := cell_of_box hfb.box 0 _ rfl
                have c4 : wr.cell? ⟨B, 1, none⟩ = some (.int .i64 (py f)) := cell_of_box hfb.box 1 _ rfl
                have hf0 : wr.heap[B]? = some (.cells #[.int .i64 (px f), .int .i64 (py f)] 34) := hfb.box
                clear hfb hPw
                go_wp2
                obtain ⟨B2, hB2⟩ : ∃ B2, wr.heap.size = B2 := ⟨_, rfl⟩
                have hB2w : w.heap.size ≤ B2 := by rw [← hB2]; exact hbw.size
                have hBB : B < B2 := by omega
                have k1 : (wr.alloc (.cells #[.int .i64 (px f), .int .i64 (py f)] 34)).heap[B2]? = some (.cells #[.int .i64 (px f), .int .i64 (py f)] 34) := by rw [← hB2]; exact World.alloc_heap_new _ _
                have k2 : (wr.alloc (.cells #[.int .i64 (px f), .int .i64 (py f)] 34)).heap[B]? = some (.cells #[.int .i64 (px f), .int .i64 (py f)] 34) := (Below.heap_alloc _ _ _ hBl).trans hf0
                have k3 : Below w.heap.size w (wr.alloc (.cells #[.int .i64 (px f), .int .i64 (py f)] 34)) := hbw.alloc hbw.size _
                rw [hB2]
                generalize wr.alloc (.cells #[.int .i64 (px f), .int .i64 (py f)] 34) = W1 at *
                have K1 := Lib.hid k1
                have K2 := Lib.hid k2
                have K3 := Lib.hid k3
                clear k1 k2 k3 hf0 hB2 hbw hBl c3 c4 hbl
                have hl0 : L[0]? = some (px f, py f) := by
                  rw [HF0.out, ← hh0]
                  cases L <;> rfl
                have HL0 := Lib.hid hl0
                clear hl0 hh0
                have hL3 := HH.out.three
                have hLn : L.length ≤ n := by
                  have := nodup_le L (ptsOf n px py) HH.out.nodup HH.out.sub
                  rwa [ptsOf_length] at this
                have HIL : Hid (∀ (i : Nat) (p : Pt), L[i]? = some p → InRange p.1 p.2) := fun i p hp => by
                  have := HH.out.sub p (List.mem_of_getElem? hp)
                  obtain ⟨j, hj, rfl⟩ := List.mem_map.1 this
                  exact Hi.out j (List.mem_range.1 hj)
                go_loopw [10] (fun v wr => ∃ (i : Nat) (ax ay : Int), i < L.length ∧ L[i]? = some (ax, ay) ∧ OwnP wr (B2 + 1) v (L.take i) ∧ wr.heap[B]? = some (.cells #[.int .i64 (px f), .int .i64 (py f)] 34) ∧ wr.heap[B2]? = some (.cells #[.int .i64 ax, .int .i64 ay] 34) ∧ Below w.heap.size w wr) (fun v _ => match v with | .slice _ m _ => L.length - m | _ => 0)
                case atStart => exact ⟨0, px f, py f, by omega, HL0.out, OwnP.nil _ _, K2.out, K1.out, K3.out⟩
                case round =>
                  obtain ⟨i, ax, ay, hil, hat, ho, q1, q2, hb⟩ := hrel
                  obtain ⟨A, cap', rfl⟩ := ho.shape_n (n := i) (by rw [List.length_take]; omega)
                  have HO := Lib.hid ho
                  have HAT := Lib.hid hat
                  have c5 : wr.cell? ⟨B2, 0, none⟩ = some (.int .i64 ax) := cell_of_box q2 0 _ rfl
                  have c6 : wr.cell? ⟨B2, 1, none⟩ = some (.int .i64 ay) := cell_of_box q2 1 _ rfl
                  have hBl : B2 < wr.heap.size := (Array.getElem?_eq_some_iff.1 q2).1
                  have Q1 := Lib.hid q1
                  have Q2 := Lib.hid q2
                  have HB := Lib.hid hb
                  clear ho hat q1 q2 hb
                  have hln : (L.take i).length = i := by rw [List.length_take]; omega
                  have HLN := Lib.hid hln
                  obtain ⟨i0, hi0, hz0, hz1, hz2⟩ := info_parts infoXY
                  have hO2 : Hid (wr.ownsRow (B2 + 1) 34 2 (.slice A i cap') i (cells2 (L.take i))) := by have h := HO.out; unfold OwnP at h; rw [hln] at h; exact h
                  clear hln
                  go_wp2_with (at_builtin; (refine wpList_append_own _ rfl _ _ 22 rfl (B2 + 1) 34 i0 (.agg #[.int .i64 0, .int .i64 0]) 2 16 Tryd.underlying22 hi0 hz0 hz1 hz2 rfl (by decide) _ _ _ rfl (hO2.out.alloc (.cells #[.int .i64 ax, .int .i64 ay] 34)) ⟨wr.heap.size, 0, none⟩ 1 1 [.int .i64 ax, .int .i64 ay] rfl rfl (cell_two_new _ _ _ _) (by simp [Value.oneCell']) (by simp only [maxLen]; omega) (by omega) (by simp only [World.size_alloc]; omega) ?_); intro v' w1 hown2 hg1 _; (have hbx2 : w1.heap[B2]? = some (.cells #[.int .i64 ax, .int .i64 ay] 34) := (hg1.block B2 (by simp only [World.size_alloc]; omega) (fun e => by have := own_lt (hO2.out.alloc (.cells #[.int .i64 ax, .int .i64 ay] 34)) B2 e.symm; omega)).trans ((Below.heap_alloc _ _ _ hBl).trans Q2.out)); (have hbx1 : w1.heap[B]? = some (.cells #[.int .i64 (px f), .int .i64 (py f)] 34) := (hg1.block B (by simp only [World.size_alloc]; omega) (fun e => by have := own_lt (hO2.out.alloc (.cells #[.int .i64 ax, .int .i64 ay] 34)) B e.symm; omega)).trans ((Below.heap_alloc _ _ _ (by omega)).trans Q1.out)); (have c7 : w1.cell? ⟨B2, 0, none⟩ = some (.int .i64 ax) := cell_of_box hbx2 0 _ rfl); (have c8 : w1.cell? ⟨B2, 1, none⟩ = some (.int .i64 ay) := cell_of_box hbx2 1 _ rfl); (have hbw1 : Below w.heap.size w w1 := (HB.out.alloc HB.out.size (.cells #[.int .i64 ax, .int .i64 ay] 34)).grown hg1 (by have := HB.out.size; simp only [World.size_alloc]; omega) (fun k hk => by have := own_lt (hO2.out.alloc (.cells #[.int .i64 ax, .int .i64 ay] 34)) k hk; omega)); (have HBX1 := Lib.hid hbx1); (have HBX2 := Lib.hid hbx2); (have HBW1 := Lib.hid hbw1); (have HOW := Lib.hid hown2); clear hbx1 hbx2 hbw1 hown2 hg1 c5 c6)
                  obtain ⟨B3, hB3⟩ : ∃ B3, w1.heap.size = B3 := ⟨_, rfl⟩
                  obtain ⟨Av, cv, rfl⟩ := OwnP.shape_n (l := L.take (i + 1)) (n := i + 1) (w := w1) (base := B2 + 1) (v := v') (by rw [own_take HAT.out]; unfold OwnP; rw [List.length_append, HLN.out, cells2_append]; exact HOW.out) (by rw [List.length_take]; omega)
                  have HOW2 : Hid (OwnP w1 (B2 + 1) (.slice Av (i + 1) cv) (L.take (i + 1))) := by
                    show OwnP _ _ _ _
                    rw [own_take HAT.out]
                    unfold OwnP
                    rw [List.length_append, HLN.out, cells2_append]
                    exact HOW.out
                  have hB3b : ∀ g, (Value.slice Av (i + 1) cv).ownBlock = some g → g ≠ B3 := fun g hg e => by
                    have := own_lt HOW2.out g hg
                    omega
                  have hB2l : B2 < B3 := by rw [← hB3]; exact (Array.getElem?_eq_some_iff.1 HBX2.out).1
                  have hB3w : w.heap.size ≤ B3 := by omega
                  have k3 : (w1.alloc (.cells #[.int .i64 ax, .int .i64 ay] 34)).heap[B3]? = some (.cells #[.int .i64 ax, .int .i64 ay] 34) := by rw [← hB3]; exact World.alloc_heap_new _ _
                  have k2 := (Below.heap_alloc w1 (.cells #[.int .i64 ax, .int .i64 ay] 34) B2 (by omega)).trans HBX2.out
                  have k1 := (Below.heap_alloc w1 (.cells #[.int .i64 ax, .int .i64 ay] 34) B (by omega)).trans HBX1.out
                  have k4 := HBW1.out.alloc HBW1.out.size (.cells #[.int .i64 ax, .int .i64 ay] 34)
                  have k5 := HOW2.out.alloc (.cells #[.int .i64 ax, .int .i64 ay] 34)
                  rw [hB3]
                  generalize w1.alloc (.cells #[.int .i64 ax, .int .i64 ay] 34) = W2 at *
                  have K1' := Lib.hid k1
                  have K2' := Lib.hid k2
                  have K3' := Lib.hid k3
                  have K4' := Lib.hid k4
                  have K5' := Lib.hid k5
                  clear k1 k2 k3 k4 k5 hB3 c7 c8
                  have hain : (ax, ay) ∈ ptsOf n px py := HH.out.sub _ (List.mem_of_getElem? HAT.out)
                  have HAI := Lib.hid hain
                  have ra : InRange ax ay := HIL.out i (ax, ay) HAT.out
                  clear hain
                  go_loopw [13] (fun v wr => ∃ (k : Nat) (ux uy : Int), k ≤ n ∧ v = .int .i64 k ∧ nxTo (ptsOf n px py) (ax, ay) k = (ux, uy) ∧ wr.heap[B]? = some (.cells #[.int .i64 (px f), .int .i64 (py f)] 34) ∧ wr.heap[B2]? = some (.cells #[.int .i64 ax, .int .i64 ay] 34) ∧ wr.heap[B3]? = some (.cells #[.int .i64 ux, .int .i64 uy] 34) ∧ OwnP wr (B2 + 1) (.slice Av (i + 1) cv) (L.take (i + 1)) ∧ Below w.heap.size w wr) (fun v _ => n - (intOf v).toNat)
                  case atStart => exact ⟨0, ax, ay, by omega, rfl, rfl, K1'.out, K2'.out, K3'.out, K5'.out, K4'.out⟩
                  case round =>
                    obtain ⟨k, ux, uy, hk, rfl, hnx, r1, r2, r3, ro, rb⟩ := hrel
                    have e3 : wr.cell? ⟨B2, 0, none⟩ = some (.int .i64 ax) := cell_of_box r2 0 _ rfl
                    have e4 : wr.cell? ⟨B2, 1, none⟩ = some (.int .i64 ay) := cell_of_box r2 1 _ rfl
                    have e5 : wr.cell? ⟨B3, 0, none⟩ = some (.int .i64 ux) := cell_of_box r3 0 _ rfl
                    have e6 : wr.cell? ⟨B3, 1, none⟩ = some (.int .i64 uy) := cell_of_box r3 1 _ rfl
                    have hB3l : B3 < wr.heap.size := (Array.getElem?_eq_some_iff.1 r3).1
                    have hB2l' : B2 < wr.heap.size := by omega
                    have hBl' : B < wr.heap.size := by omega
                    have hbl : b < wr.heap.size := by have := rb.size; omega
                    have hPw : Posts wr b off n px py := Hp.out.later ⟨wr, rb⟩
                    have ru : InRange ux uy := by
                      have := nxTo_in HAI.out k
                      rw [hnx] at this
                      obtain ⟨j, hj, ej⟩ := List.mem_map.1 this
                      have := Hi.out j (List.mem_range.1 hj)
                      simp only [Prod.mk.injEq] at ej
                      rw [← ej.1, ← ej.2]
                      exact this
                    have NX := Lib.hid hnx
                    have R1 := Lib.hid r1
                    have R2 := Lib.hid r2
                    have R3 := Lib.hid r3
                    have RO := Lib.hid ro
                    have RB := Lib.hid rb
                    clear hnx r1 r2 r3 ro rb
                    by_cases hkn : k < n
                    · have e1 : wr.cell? ⟨b, off + k * 2, none⟩ = some (.int .i64 (px k)) := hPw.x k hkn
                      have e2 : wr.cell? ⟨b, off + k * 2 + 1, none⟩ = some (.int .i64 (py k)) := hPw.y k hkn
                      have rk := Hi.out k hkn
                      clear hPw
                      have F1 : Hid (∀ w, Gives Tryd.prog 25 #[.agg #[.int .i64 ax, .int .i64 ay], .agg #[.int .i64 (px k), .int .i64 (py k)]] w (.int .i64 (farP (ax, ay) (px k, py k)))) := fun w => r_far_any _ _ _ _ w ra rk
                      have F2 : Hid (∀ w, Gives Tryd.prog 25 #[.agg #[.int .i64 ax, .int .i64 ay], .agg #[.int .i64 ux, .int .i64 uy]] w (.int .i64 (farP (ax, ay) (ux, uy)))) := fun w => r_far_any _ _ _ _ w ra ru
                      have T : Hid (∀ w, Gives Tryd.prog 24 #[.agg #[.int .i64 ax, .int .i64 ay], .agg #[.int .i64 ux, .int .i64 uy], .agg #[.int .i64 (px k), .int .i64 (py k)]] w (.int .i64 (crP (ax, ay) (ux, uy) (px k, py k)))) := fun w => r_turn_any _ _ _ _ _ _ w ra ru rk
                      have PK : Hid (pickB (ax, ay) (ux, uy) (px k, py k) = (decide ((ux, uy) = (ax, ay)) || (decide (crP (ax, ay) (ux, uy) (px k, py k) < 0) || (decide (crP (ax, ay) (ux, uy) (px k, py k) = 0) && decide (farP (ax, ay) (ux, uy) < farP (ax, ay) (px k, py k)))))) := rfl
                      have PI : Hid (pick (ax, ay) (ux, uy) (px k, py k) = if pickB (ax, ay) (ux, uy) (px k, py k) = true then (px k, py k) else (ux, uy)) := rfl
                      generalize crP (ax, ay) (ux, uy) (px k, py k) = t at *
                      generalize farP (ax, ay) (px k, py k) = fx at *
                      generalize farP (ax, ay) (ux, uy) = fu at *
                      clear rk ru
                      by_cases hsame : ux = ax ∧ uy = ay
                      · obtain ⟨s1, s2⟩ := hsame
                        have TK : Hid (pick (ax, ay) (ux, uy) (px k, py k) = (px k, py k)) := by show _ = _; rw [PI.out, if_pos (by rw [PK.out]; simp [s1, s2])]
                        have s1 := s1.symm
                        have s2 := s2.symm
                        subst s1 s2
                        go_wp2_with fail
                        refine wp_region_later (by kernel_rfl) (by kernel_rfl) ?_
                        repeat (go_big_quiet_step ((first | ((go_at_call 24; (with_reducible refine Later.call _ (T.out _)))))))
                        refine wpQuiet_nil ?_
                        intro z1
                        have hz1 := z1.size
                        have hB3z : B3 < z1.val.heap.size := by omega
                        have m1 : z1.val.cell? ⟨b, off + k * 2, none⟩ = some (.int .i64 (px k)) := (z1.cell _ _ hbl).trans e1
                        have m2 : z1.val.cell? ⟨b, off + k * 2 + 1, none⟩ = some (.int .i64 (py k)) := (z1.cell _ _ hbl).trans e2
                        have m3 : z1.val.cell? ⟨B2, 0, none⟩ = some (.int .i64 ax) := (z1.cell _ _ (by omega)).trans e3
                        have m4 : z1.val.cell? ⟨B2, 1, none⟩ = some (.int .i64 ay) := (z1.cell _ _ (by omega)).trans e4
                        have m5 : z1.val.cell? ⟨B3, 0, none⟩ = some (.int .i64 ax) := (z1.cell _ _ hB3l).trans e5
                        have m6 : z1.val.cell? ⟨B3, 1, none⟩ = some (.int .i64 ay) := (z1.cell _ _ hB3l).trans e6
                        have n1 : b < z1.val.heap.size := by omega
                        have n2 : B2 < z1.val.heap.size := by omega
                        go_wp2_with fail
                        refine wp_region_later (by kernel_rfl) (by kernel_rfl) ?_
                        repeat (go_big_quiet_step ((first | ((go_at_call 25; (with_reducible refine Later.call _ (F1.out _)))) | ((go_at_call 25; (with_reducible refine Later.call _ (F2.out _)))))))
                        refine wpQuiet_nil ?_
                        intro z2
                        have bz : z2.val.heap[B3]? = some (.cells #[.int .i64 ax, .int .i64 ay] 34) := (z2.ok.block _ hB3z).trans ((z1.ok.block _ hB3l).trans R3.out)
                        have f1 := thaw_of_box bz 0
                        have f2 := thaw_of_box bz 1
                        have hz2 := z2.size
                        have d1 : z2.val.cell? ⟨b, off + k * 2, none⟩ = some (.int .i64 (px k)) := (z2.cell _ _ (by omega)).trans ((z1.cell _ _ hbl).trans e1)
                        have d2 : z2.val.cell? ⟨b, off + k * 2 + 1, none⟩ = some (.int .i64 (py k)) := (z2.cell _ _ (by omega)).trans ((z1.cell _ _ hbl).trans e2)
                        have d3 : z2.val.cell? ⟨B3, 0, none⟩ = some (.int .i64 ax) := cell_of_box bz 0 _ rfl
                        have d4 : z2.val.cell? ⟨B3, 1, none⟩ = some (.int .i64 ay) := cell_of_box bz 1 _ rfl
                        have BZ := Lib.hid bz
                        clear bz e1 e2 e3 e4 e5 e6 m1 m2 m3 m4 m5 m6
                        go_wp2
                        go_roundw
                        case rel =>
                          have hb2 := (setCell_far (w := z2.val.setCell ⟨B3, 0, none⟩ (.int .i64 (px k))) (g := B3) (j := 1) (v := .int .i64 (py k)) (b := B2) (by omega)).trans ((setCell_far (g := B3) (j := 0) (v := .int .i64 (px k)) (b := B2) (by omega)).trans ((z2.ok.block _ (by omega)).trans ((z1.ok.block _ (by omega)).trans R2.out)))
                          have hb1 := (setCell_far (w := z2.val.setCell ⟨B3, 0, none⟩ (.int .i64 (px k))) (g := B3) (j := 1) (v := .int .i64 (py k)) (b := B) (by omega)).trans ((setCell_far (g := B3) (j := 0) (v := .int .i64 (px k)) (b := B) (by omega)).trans ((z2.ok.block _ (by omega)).trans ((z1.ok.block _ (by omega)).trans R1.out)))
                          refine ⟨k + 1, px k, py k, by omega, by go_num, ?_, hb1, hb2, two_set_any BZ.out, ?_, ?_⟩
                          · rw [nxTo_step (ptsOf_get hkn), NX.out, TK.out]
                          · exact own_far ((RO.out.later z1).later z2) hB3b
                          · exact (((RB.out.trans (z1.ok.mono (by have := RB.out.size; omega))).trans (z2.ok.mono (by have := RB.out.size; omega))).setCell (by omega) _).setCell (by omega) _
                        case measure => simp [intOf]; omega
                      · by_cases hsx : ux = ax
                        · have hsy : ¬ uy = ay := fun e => hsame ⟨hsx, e⟩
                          clear hsame
                          have hsx := hsx.symm
                          subst hsx
                          rcases Int.lt_trichotomy t 0 with ht | ht | ht
                          · have TK : Hid (pick (ax, ay) (ax, uy) (px k, py k) = (px k, py k)) := by show _ = _; rw [PI.out, if_pos (by rw [PK.out]; simp [ht])]
                            go_wp2_with fail
                            refine wp_region_later (by kernel_rfl) (by kernel_rfl) ?_
                            repeat (go_big_quiet_step ((first | ((go_at_call 24; (with_reducible refine Later.call _ (T.out _)))))))
                            refine wpQuiet_nil ?_
                            intro z1
                            have hz1 := z1.size
                            have hB3z : B3 < z1.val.heap.size := by omega
                            have m1 : z1.val.cell? ⟨b, off + k * 2, none⟩ = some (.int .i64 (px k)) := (z1.cell _ _ hbl).trans e1
                            have m2 : z1.val.cell? ⟨b, off + k * 2 + 1, none⟩ = some (.int .i64 (py k)) := (z1.cell _ _ hbl).trans e2
                            have m3 : z1.val.cell? ⟨B2, 0, none⟩ = some (.int .i64 ax) := (z1.cell _ _ (by omega)).trans e3
                            have m4 : z1.val.cell? ⟨B2, 1, none⟩ = some (.int .i64 ay) := (z1.cell _ _ (by omega)).trans e4
                            have m5 : z1.val.cell? ⟨B3, 0, none⟩ = some (.int .i64 ax) := (z1.cell _ _ hB3l).trans e5
                            have m6 : z1.val.cell? ⟨B3, 1, none⟩ = some (.int .i64 uy) := (z1.cell _ _ hB3l).trans e6
                            have n1 : b < z1.val.heap.size := by omega
                            have n2 : B2 < z1.val.heap.size := by omega
                            go_wp2_with fail
                            refine wp_region_later (by kernel_rfl) (by kernel_rfl) ?_
                            repeat (go_big_quiet_step ((first | ((go_at_call 25; (with_reducible refine Later.call _ (F1.out _)))) | ((go_at_call 25; (with_reducible refine Later.call _ (F2.out _)))))))
                            refine wpQuiet_nil ?_
                            intro z2
                            have bz : z2.val.heap[B3]? = some (.cells #[.int .i64 ax, .int .i64 uy] 34) := (z2.ok.block _ hB3z).trans ((z1.ok.block _ hB3l).trans R3.out)
                            have f1 := thaw_of_box bz 0
                            have f2 := thaw_of_box bz 1
                            have hz2 := z2.size
                            have d1 : z2.val.cell? ⟨b, off + k * 2, none⟩ = some (.int .i64 (px k)) := (z2.cell _ _ (by omega)).trans ((z1.cell _ _ hbl).trans e1)
                            have d2 : z2.val.cell? ⟨b, off + k * 2 + 1, none⟩ = some (.int .i64 (py k)) := (z2.cell _ _ (by omega)).trans ((z1.cell _ _ hbl).trans e2)
                            have d3 : z2.val.cell? ⟨B3, 0, none⟩ = some (.int .i64 ax) := cell_of_box bz 0 _ rfl
                            have d4 : z2.val.cell? ⟨B3, 1, none⟩ = some (.int .i64 uy) := cell_of_box bz 1 _ rfl
                            have BZ := Lib.hid bz
                            clear bz e1 e2 e3 e4 e5 e6 m1 m2 m3 m4 m5 m6
                            go_wp2
                            go_roundw
                            case rel =>
                              have hb2 := (setCell_far (w := z2.val.setCell ⟨B3, 0, none⟩ (.int .i64 (px k))) (g := B3) (j := 1) (v := .int .i64 (py k)) (b := B2) (by omega)).trans ((setCell_far (g := B3) (j := 0) (v := .int .i64 (px k)) (b := B2) (by omega)).trans ((z2.ok.block _ (by omega)).trans ((z1.ok.block _ (by omega)).trans R2.out)))
                              have hb1 := (setCell_far (w := z2.val.setCell ⟨B3, 0, none⟩ (.int .i64 (px k))) (g := B3) (j := 1) (v := .int .i64 (py k)) (b := B) (by omega)).trans ((setCell_far (g := B3) (j := 0) (v := .int .i64 (px k)) (b := B) (by omega)).trans ((z2.ok.block _ (by omega)).trans ((z1.ok.block _ (by omega)).trans R1.out)))
                              refine ⟨k + 1, px k, py k, by omega, by go_num, ?_, hb1, hb2, two_set_any BZ.out, ?_, ?_⟩
                              · rw [nxTo_step (ptsOf_get hkn), NX.out, TK.out]
                              · exact own_far ((RO.out.later z1).later z2) hB3b
                              · exact (((RB.out.trans (z1.ok.mono (by have := RB.out.size; omega))).trans (z2.ok.mono (by have := RB.out.size; omega))).setCell (by omega) _).setCell (by omega) _
                            case measure => simp [intOf]; omega
                          · subst ht
                            rcases Int.lt_or_le fu fx with hf | hf
                            · have TK : Hid (pick (ax, ay) (ax, uy) (px k, py k) = (px k, py k)) := by show _ = _; rw [PI.out, if_pos (by rw [PK.out]; simp [hf])]
                              go_wp2_with fail
                              refine wp_region_later (by kernel_rfl) (by kernel_rfl) ?_
                              repeat (go_big_quiet_step ((first | ((go_at_call 24; (with_reducible refine Later.call _ (T.out _)))))))
                              refine wpQuiet_nil ?_
                              intro z1
                              have hz1 := z1.size
                              have hB3z : B3 < z1.val.heap.size := by omega
                              have m1 : z1.val.cell? ⟨b, off + k * 2, none⟩ = some (.int .i64 (px k)) := (z1.cell _ _ hbl).trans e1
                              have m2 : z1.val.cell? ⟨b, off + k * 2 + 1, none⟩ = some (.int .i64 (py k)) := (z1.cell _ _ hbl).trans e2
                              have m3 : z1.val.cell? ⟨B2, 0, none⟩ = some (.int .i64 ax) := (z1.cell _ _ (by omega)).trans e3
                              have m4 : z1.val.cell? ⟨B2, 1, none⟩ = some (.int .i64 ay) := (z1.cell _ _ (by omega)).trans e4
                              have m5 : z1.val.cell? ⟨B3, 0, none⟩ = some (.int .i64 ax) := (z1.cell _ _ hB3l).trans e5
                              have m6 : z1.val.cell? ⟨B3, 1, none⟩ = some (.int .i64 uy) := (z1.cell _ _ hB3l).trans e6
                              have n1 : b < z1.val.heap.size := by omega
                              have n2 : B2 < z1.val.heap.size := by omega
                              go_wp2_with fail
                              refine wp_region_later (by kernel_rfl) (by kernel_rfl) ?_
                              repeat (go_big_quiet_step ((first | ((go_at_call 25; (with_reducible refine Later.call _ (F1.out _)))) | ((go_at_call 25; (with_reducible refine Later.call _ (F2.out _)))))))
                              refine wpQuiet_nil ?_
                              intro z2
                              have bz : z2.val.heap[B3]? = some (.cells #[.int .i64 ax, .int .i64 uy] 34) := (z2.ok.block _ hB3z).trans ((z1.ok.block _ hB3l).trans R3.out)
                              have f1 := thaw_of_box bz 0
                              have f2 := thaw_of_box bz 1
                              have hz2 := z2.size
                              have d1 : z2.val.cell? ⟨b, off + k * 2, none⟩ = some (.int .i64 (px k)) := (z2.cell _ _ (by omega)).trans ((z1.cell _ _ hbl).trans e1)
                              have d2 : z2.val.cell? ⟨b, off + k * 2 + 1, none⟩ = some (.int .i64 (py k)) := (z2.cell _ _ (by omega)).trans ((z1.cell _ _ hbl).trans e2)
                              have d3 : z2.val.cell? ⟨B3, 0, none⟩ = some (.int .i64 ax) := cell_of_box bz 0 _ rfl
                              have d4 : z2.val.cell? ⟨B3, 1, none⟩ = some (.int .i64 uy) := cell_of_box bz 1 _ rfl
                              have BZ := Lib.hid bz
                              clear bz e1 e2 e3 e4 e5 e6 m1 m2 m3 m4 m5 m6
                              go_wp2
                              go_roundw
                              case rel =>
                                have hb2 := (setCell_far (w := z2.val.setCell ⟨B3, 0, none⟩ (.int .i64 (px k))) (g := B3) (j := 1) (v := .int .i64 (py k)) (b := B2) (by omega)).trans ((setCell_far (g := B3) (j := 0) (v := .int .i64 (px k)) (b := B2) (by omega)).trans ((z2.ok.block _ (by omega)).trans ((z1.ok.block _ (by omega)).trans R2.out)))
                                have hb1 := (setCell_far (w := z2.val.setCell ⟨B3, 0, none⟩ (.int .i64 (px k))) (g := B3) (j := 1) (v := .int .i64 (py k)) (b := B) (by omega)).trans ((setCell_far (g := B3) (j := 0) (v := .int .i64 (px k)) (b := B) (by omega)).trans ((z2.ok.block _ (by omega)).trans ((z1.ok.block _ (by omega)).trans R1.out)))
                                refine ⟨k + 1, px k, py k, by omega, by go_num, ?_, hb1, hb2, two_set_any BZ.out, ?_, ?_⟩
                                · rw [nxTo_step (ptsOf_get hkn), NX.out, TK.out]
                                · exact own_far ((RO.out.later z1).later z2) hB3b
                                · exact (((RB.out.trans (z1.ok.mono (by have := RB.out.size; omega))).trans (z2.ok.mono (by have := RB.out.size; omega))).setCell (by omega) _).setCell (by omega) _
                              case measure => simp [intOf]; omega
                            · have TK : Hid (pick (ax, ay) (ax, uy) (px k, py k) = (ax, uy)) := by show _ = _; rw [PI.out, if_neg (by rw [PK.out]; simp [hsy]; omega)]
                              have hf2 : decide (fu < fx) = false := decide_eq_false (by omega)
                              clear hf
                              go_wp2_with fail
                              refine wp_region_later (by kernel_rfl) (by kernel_rfl) ?_
                              repeat (go_big_quiet_step ((first | ((go_at_call 24; (with_reducible refine Later.call _ (T.out _)))))))
                              refine wpQuiet_nil ?_
                              intro z1
                              have hz1 := z1.size
                              have hB3z : B3 < z1.val.heap.size := by omega
                              have m1 : z1.val.cell? ⟨b, off + k * 2, none⟩ = some (.int .i64 (px k)) := (z1.cell _ _ hbl).trans e1
                              have m2 : z1.val.cell? ⟨b, off + k * 2 + 1, none⟩ = some (.int .i64 (py k)) := (z1.cell _ _ hbl).trans e2
                              have m3 : z1.val.cell? ⟨B2, 0, none⟩ = some (.int .i64 ax) := (z1.cell _ _ (by omega)).trans e3
                              have m4 : z1.val.cell? ⟨B2, 1, none⟩ = some (.int .i64 ay) := (z1.cell _ _ (by omega)).trans e4
                              have m5 : z1.val.cell? ⟨B3, 0, none⟩ = some (.int .i64 ax) := (z1.cell _ _ hB3l).trans e5
                              have m6 : z1.val.cell? ⟨B3, 1, none⟩ = some (.int .i64 uy) := (z1.cell _ _ hB3l).trans e6
                              have n1 : b < z1.val.heap.size := by omega
                              have n2 : B2 < z1.val.heap.size := by omega
                              go_wp2_with fail
                              refine wp_region_later (by kernel_rfl) (by kernel_rfl) ?_
                              repeat (go_big_quiet_step ((first | ((go_at_call 25; (with_reducible refine Later.call _ (F1.out _)))) | ((go_at_call 25; (with_reducible refine Later.call _ (F2.out _)))))))
                              refine wpQuiet_nil ?_
                              intro z2
                              have BZ : Hid (z2.val.heap[B3]? = some (.cells #[.int .i64 ax, .int .i64 uy] 34)) := (z2.ok.block _ hB3z).trans ((z1.ok.block _ hB3l).trans R3.out)
                              go_wp2
                              go_roundw
                              case rel =>
                                refine ⟨k + 1, ax, uy, by omega, by go_num, ?_, (z2.ok.block _ (by omega)).trans ((z1.ok.block _ (by omega)).trans R1.out), (z2.ok.block _ (by omega)).trans ((z1.ok.block _ (by omega)).trans R2.out), BZ.out, (RO.out.later z1).later z2, (RB.out.trans (z1.ok.mono (by have := RB.out.size; omega))).trans (z2.ok.mono (by have := RB.out.size; omega))⟩
                                rw [nxTo_step (ptsOf_get hkn), NX.out, TK.out]
                              case measure => simp [intOf]; omega
                          · have TK : Hid (pick (ax, ay) (ax, uy) (px k, py k) = (ax, uy)) := by show _ = _; rw [PI.out, if_neg (by rw [PK.out]; simp [hsy]; omega)]
                            have ht2 : decide (t < 0) = false := decide_eq_false (by omega)
                            have ht3 : (t == 0) = false := beq_eq_false_iff_ne.2 (by omega)
                            clear ht
                            go_wp2_with fail
                            refine wp_region_later (by kernel_rfl) (by kernel_rfl) ?_
                            repeat (go_big_quiet_step ((first | ((go_at_call 24; (with_reducible refine Later.call _ (T.out _)))))))
                            refine wpQuiet_nil ?_
                            intro z1
                            have hz1 := z1.size
                            have hB3z : B3 < z1.val.heap.size := by omega
                            have m1 : z1.val.cell? ⟨b, off + k * 2, none⟩ = some (.int .i64 (px k)) := (z1.cell _ _ hbl).trans e1
                            have m2 : z1.val.cell? ⟨b, off + k * 2 + 1, none⟩ = some (.int .i64 (py k)) := (z1.cell _ _ hbl).trans e2
                            have m3 : z1.val.cell? ⟨B2, 0, none⟩ = some (.int .i64 ax) := (z1.cell _ _ (by omega)).trans e3
                            have m4 : z1.val.cell? ⟨B2, 1, none⟩ = some (.int .i64 ay) := (z1.cell _ _ (by omega)).trans e4
                            have m5 : z1.val.cell? ⟨B3, 0, none⟩ = some (.int .i64 ax) := (z1.cell _ _ hB3l).trans e5
                            have m6 : z1.val.cell? ⟨B3, 1, none⟩ = some (.int .i64 uy) := (z1.cell _ _ hB3l).trans e6
                            have n1 : b < z1.val.heap.size := by omega
                            have n2 : B2 < z1.val.heap.size := by omega
                            go_wp2_with fail
                            refine wp_region_later (by kernel_rfl) (by kernel_rfl) ?_
                            repeat (go_big_quiet_step ((first | ((go_at_call 25; (with_reducible refine Later.call _ (F1.out _)))) | ((go_at_call 25; (with_reducible refine Later.call _ (F2.out _)))))))
                            refine wpQuiet_nil ?_
                            intro z2
                            have BZ : Hid (z2.val.heap[B3]? = some (.cells #[.int .i64 ax, .int .i64 uy] 34)) := (z2.ok.block _ hB3z).trans ((z1.ok.block _ hB3l).trans R3.out)
                            go_wp2
                            go_roundw
                            case rel =>
                              refine ⟨k + 1, ax, uy, by omega, by go_num, ?_, (z2.ok.block _ (by omega)).trans ((z1.ok.block _ (by omega)).trans R1.out), (z2.ok.block _ (by omega)).trans ((z1.ok.block _ (by omega)).trans R2.out), BZ.out, (RO.out.later z1).later z2, (RB.out.trans (z1.ok.mono (by have := RB.out.size; omega))).trans (z2.ok.mono (by have := RB.out.size; omega))⟩
                              rw [nxTo_step (ptsOf_get hkn), NX.out, TK.out]
                            case measure => simp [intOf]; omega
                        · clear hsame
                          rcases Int.lt_trichotomy t 0 with ht | ht | ht
                          · have TK : Hid (pick (ax, ay) (ux, uy) (px k, py k) = (px k, py k)) := by show _ = _; rw [PI.out, if_pos (by rw [PK.out]; simp [ht])]
                            go_wp2_with fail
                            refine wp_region_later (by kernel_rfl) (by kernel_rfl) ?_
                            repeat (go_big_quiet_step ((first | ((go_at_call 24; (with_reducible refine Later.call _ (T.out _)))))))
                            refine wpQuiet_nil ?_
                            intro z1
                            have hz1 := z1.size
                            have hB3z : B3 < z1.val.heap.size := by omega
                            have m1 : z1.val.cell? ⟨b, off + k * 2, none⟩ = some (.int .i64 (px k)) := (z1.cell _ _ hbl).trans e1
                            have m2 : z1.val.cell? ⟨b, off + k * 2 + 1, none⟩ = some (.int .i64 (py k)) := (z1.cell _ _ hbl).trans e2
                            have m3 : z1.val.cell? ⟨B2, 0, none⟩ = some (.int .i64 ax) := (z1.cell _ _ (by omega)).trans e3
                            have m4 : z1.val.cell? ⟨B2, 1, none⟩ = some (.int .i64 ay) := (z1.cell _ _ (by omega)).trans e4
                            have m5 : z1.val.cell? ⟨B3, 0, none⟩ = some (.int .i64 ux) := (z1.cell _ _ hB3l).trans e5
                            have m6 : z1.val.cell? ⟨B3, 1, none⟩ = some (.int .i64 uy) := (z1.cell _ _ hB3l).trans e6
                            have n1 : b < z1.val.heap.size := by omega
                            have n2 : B2 < z1.val.heap.size := by omega
                            go_wp2_with fail
                            refine wp_region_later (by kernel_rfl) (by kernel_rfl) ?_
                            repeat (go_big_quiet_step ((first | ((go_at_call 25; (with_reducible refine Later.call _ (F1.out _)))) | ((go_at_call 25; (with_reducible refine Later.call _ (F2.out _)))))))
                            refine wpQuiet_nil ?_
                            intro z2
                            have bz : z2.val.heap[B3]? = some (.cells #[.int .i64 ux, .int .i64 uy] 34) := (z2.ok.block _ hB3z).trans ((z1.ok.block _ hB3l).trans R3.out)
                            have f1 := thaw_of_box bz 0
                            have f2 := thaw_of_box bz 1
                            have hz2 := z2.size
                            have d1 : z2.val.cell? ⟨b, off + k * 2, none⟩ = some (.int .i64 (px k)) := (z2.cell _ _ (by omega)).trans ((z1.cell _ _ hbl).trans e1)
                            have d2 : z2.val.cell? ⟨b, off + k * 2 + 1, none⟩ = some (.int .i64 (py k)) := (z2.cell _ _ (by omega)).trans ((z1.cell _ _ hbl).trans e2)
                            have d3 : z2.val.cell? ⟨B3, 0, none⟩ = some (.int .i64 ux) := cell_of_box bz 0 _ rfl
                            have d4 : z2.val.cell? ⟨B3, 1, none⟩ = some (.int .i64 uy) := cell_of_box bz 1 _ rfl
                            have BZ := Lib.hid bz
                            clear bz e1 e2 e3 e4 e5 e6 m1 m2 m3 m4 m5 m6
                            go_wp2
                            go_roundw
                            case rel =>
                              have hb2 := (setCell_far (w := z2.val.setCell ⟨B3, 0, none⟩ (.int .i64 (px k))) (g := B3) (j := 1) (v := .int .i64 (py k)) (b := B2) (by omega)).trans ((setCell_far (g := B3) (j := 0) (v := .int .i64 (px k)) (b := B2) (by omega)).trans ((z2.ok.block _ (by omega)).trans ((z1.ok.block _ (by omega)).trans R2.out)))
                              have hb1 := (setCell_far (w := z2.val.setCell ⟨B3, 0, none⟩ (.int .i64 (px k))) (g := B3) (j := 1) (v := .int .i64 (py k)) (b := B) (by omega)).trans ((setCell_far (g := B3) (j := 0) (v := .int .i64 (px k)) (b := B) (by omega)).trans ((z2.ok.block _ (by omega)).trans ((z1.ok.block _ (by omega)).trans R1.out)))
                              refine ⟨k + 1, px k, py k, by omega, by go_num, ?_, hb1, hb2, two_set_any BZ.out, ?_, ?_⟩
                              · rw [nxTo_step (ptsOf_get hkn), NX.out, TK.out]
                              · exact own_far ((RO.out.later z1).later z2) hB3b
                              · exact (((RB.out.trans (z1.ok.mono (by have := RB.out.size; omega))).trans (z2.ok.mono (by have := RB.out.size; omega))).setCell (by omega) _).setCell (by omega) _
                            case measure => simp [intOf]; omega
                          · subst ht
                            rcases Int.lt_or_le fu fx with hf | hf
                            · have TK : Hid (pick (ax, ay) (ux, uy) (px k, py k) = (px k, py k)) := by show _ = _; rw [PI.out, if_pos (by rw [PK.out]; simp [hf])]
                              go_wp2_with fail
                              refine wp_region_later (by kernel_rfl) (by kernel_rfl) ?_
                              repeat (go_big_quiet_step ((first | ((go_at_call 24; (with_reducible refine Later.call _ (T.out _)))))))
                              refine wpQuiet_nil ?_
                              intro z1
                              have hz1 := z1.size
                              have hB3z : B3 < z1.val.heap.size := by omega
                              have m1 : z1.val.cell? ⟨b, off + k * 2, none⟩ = some (.int .i64 (px k)) := (z1.cell _ _ hbl).trans e1
                              have m2 : z1.val.cell? ⟨b, off + k * 2 + 1, none⟩ = some (.int .i64 (py k)) := (z1.cell _ _ hbl).trans e2
                              have m3 : z1.val.cell? ⟨B2, 0, none⟩ = some (.int .i64 ax) := (z1.cell _ _ (by omega)).trans e3
                              have m4 : z1.val.cell? ⟨B2, 1, none⟩ = some (.int .i64 ay) := (z1.cell _ _ (by omega)).trans e4
                              have m5 : z1.val.cell? ⟨B3, 0, none⟩ = some (.int .i64 ux) := (z1.cell _ _ hB3l).trans e5
                              have m6 : z1.val.cell? ⟨B3, 1, none⟩ = some (.int .i64 uy) := (z1.cell _ _ hB3l).trans e6
                              have n1 : b < z1.val.heap.size := by omega
                              have n2 : B2 < z1.val.heap.size := by omega
                              go_wp2_with fail
                              refine wp_region_later (by kernel_rfl) (by kernel_rfl) ?_
                              repeat (go_big_quiet_step ((first | ((go_at_call 25; (with_reducible refine Later.call _ (F1.out _)))) | ((go_at_call 25; (with_reducible refine Later.call _ (F2.out _)))))))
                              refine wpQuiet_nil ?_
                              intro z2
                              have bz : z2.val.heap[B3]? = some (.cells #[.int .i64 ux, .int .i64 uy] 34) := (z2.ok.block _ hB3z).trans ((z1.ok.block _ hB3l).trans R3.out)
                              have f1 := thaw_of_box bz 0
                              have f2 := thaw_of_box bz 1
                              have hz2 := z2.size
                              have d1 : z2.val.cell? ⟨b, off + k * 2, none⟩ = some (.int .i64 (px k)) := (z2.cell _ _ (by omega)).trans ((z1.cell _ _ hbl).trans e1)
                              have d2 : z2.val.cell? ⟨b, off + k * 2 + 1, none⟩ = some (.int .i64 (py k)) := (z2.cell _ _ (by omega)).trans ((z1.cell _ _ hbl).trans e2)
                              have d3 : z2.val.cell? ⟨B3, 0, none⟩ = some (.int .i64 ux) := cell_of_box bz 0 _ rfl
                              have d4 : z2.val.cell? ⟨B3, 1, none⟩ = some (.int .i64 uy) := cell_of_box bz 1 _ rfl
                              have BZ := Lib.hid bz
                              clear bz e1 e2 e3 e4 e5 e6 m1 m2 m3 m4 m5 m6
                              go_wp2
                              go_roundw
                              case rel =>
                                have hb2 := (setCell_far (w := z2.val.setCell ⟨B3, 0, none⟩ (.int .i64 (px k))) (g := B3) (j := 1) (v := .int .i64 (py k)) (b := B2) (by omega)).trans ((setCell_far (g := B3) (j := 0) (v := .int .i64 (px k)) (b := B2) (by omega)).trans ((z2.ok.block _ (by omega)).trans ((z1.ok.block _ (by omega)).trans R2.out)))
                                have hb1 := (setCell_far (w := z2.val.setCell ⟨B3, 0, none⟩ (.int .i64 (px k))) (g := B3) (j := 1) (v := .int .i64 (py k)) (b := B) (by omega)).trans ((setCell_far (g := B3) (j := 0) (v := .int .i64 (px k)) (b := B) (by omega)).trans ((z2.ok.block _ (by omega)).trans ((z1.ok.block _ (by omega)).trans R1.out)))
                                refine ⟨k + 1, px k, py k, by omega, by go_num, ?_, hb1, hb2, two_set_any BZ.out, ?_, ?_⟩
                                · rw [nxTo_step (ptsOf_get hkn), NX.out, TK.out]
                                · exact own_far ((RO.out.later z1).later z2) hB3b
                                · exact (((RB.out.trans (z1.ok.mono (by have := RB.out.size; omega))).trans (z2.ok.mono (by have := RB.out.size; omega))).setCell (by omega) _).setCell (by omega) _
                              case measure => simp [intOf]; omega
                            · have TK : Hid (pick (ax, ay) (ux, uy) (px k, py k) = (ux, uy)) := by show _ = _; rw [PI.out, if_neg (by rw [PK.out]; simp [hsx]; omega)]
                              have hf2 : decide (fu < fx) = false := decide_eq_false (by omega)
                              clear hf
                              go_wp2_with fail
                              refine wp_region_later (by kernel_rfl) (by kernel_rfl) ?_
                              repeat (go_big_quiet_step ((first | ((go_at_call 24; (with_reducible refine Later.call _ (T.out _)))))))
                              refine wpQuiet_nil ?_
                              intro z1
                              have hz1 := z1.size
                              have hB3z : B3 < z1.val.heap.size := by omega
                              have m1 : z1.val.cell? ⟨b, off + k * 2, none⟩ = some (.int .i64 (px k)) := (z1.cell _ _ hbl).trans e1
                              have m2 : z1.val.cell? ⟨b, off + k * 2 + 1, none⟩ = some (.int .i64 (py k)) := (z1.cell _ _ hbl).trans e2
                              have m3 : z1.val.cell? ⟨B2, 0, none⟩ = some (.int .i64 ax) := (z1.cell _ _ (by omega)).trans e3
                              have m4 : z1.val.cell? ⟨B2, 1, none⟩ = some (.int .i64 ay) := (z1.cell _ _ (by omega)).trans e4
                              have m5 : z1.val.cell? ⟨B3, 0, none⟩ = some (.int .i64 ux) := (z1.cell _ _ hB3l).trans e5
                              have m6 : z1.val.cell? ⟨B3, 1, none⟩ = some (.int .i64 uy) := (z1.cell _ _ hB3l).trans e6
                              have n1 : b < z1.val.heap.size := by omega
                              have n2 : B2 < z1.val.heap.size := by omega
                              go_wp2_with fail
                              refine wp_region_later (by kernel_rfl) (by kernel_rfl) ?_
                              repeat (go_big_quiet_step ((first | ((go_at_call 25; (with_reducible refine Later.call _ (F1.out _)))) | ((go_at_call 25; (with_reducible refine Later.call _ (F2.out _)))))))
                              refine wpQuiet_nil ?_
                              intro z2
                              have BZ : Hid (z2.val.heap[B3]? = some (.cells #[.int .i64 ux, .int .i64 uy] 34)) := (z2.ok.block _ hB3z).trans ((z1.ok.block _ hB3l).trans R3.out)
                              go_wp2
                              go_roundw
                              case rel =>
                                refine ⟨k + 1, ux, uy, by omega, by go_num, ?_, (z2.ok.block _ (by omega)).trans ((z1.ok.block _ (by omega)).trans R1.out), (z2.ok.block _ (by omega)).trans ((z1.ok.block _ (by omega)).trans R2.out), BZ.out, (RO.out.later z1).later z2, (RB.out.trans (z1.ok.mono (by have := RB.out.size; omega))).trans (z2.ok.mono (by have := RB.out.size; omega))⟩
                                rw [nxTo_step (ptsOf_get hkn), NX.out, TK.out]
                              case measure => simp [intOf]; omega
                          · have TK : Hid (pick (ax, ay) (ux, uy) (px k, py k) = (ux, uy)) := by show _ = _; rw [PI.out, if_neg (by rw [PK.out]; simp [hsx]; omega)]
                            have ht2 : decide (t < 0) = false := decide_eq_false (by omega)
                            have ht3 : (t == 0) = false := beq_eq_false_iff_ne.2 (by omega)
                            clear ht
                            go_wp2_with fail
                            refine wp_region_later (by kernel_rfl) (by kernel_rfl) ?_
                            repeat (go_big_quiet_step ((first | ((go_at_call 24; (with_reducible refine Later.call _ (T.out _)))))))
                            refine wpQuiet_nil ?_
                            intro z1
                            have hz1 := z1.size
                            have hB3z : B3 < z1.val.heap.size := by omega
                            have m1 : z1.val.cell? ⟨b, off + k * 2, none⟩ = some (.int .i64 (px k)) := (z1.cell _ _ hbl).trans e1
                            have m2 : z1.val.cell? ⟨b, off + k * 2 + 1, none⟩ = some (.int .i64 (py k)) := (z1.cell _ _ hbl).trans e2
                            have m3 : z1.val.cell? ⟨B2, 0, none⟩ = some (.int .i64 ax) := (z1.cell _ _ (by omega)).trans e3
                            have m4 : z1.val.cell? ⟨B2, 1, none⟩ = some (.int .i64 ay) := (z1.cell _ _ (by omega)).trans e4
                            have m5 : z1.val.cell? ⟨B3, 0, none⟩ = some (.int .i64 ux) := (z1.cell _ _ hB3l).trans e5
                            have m6 : z1.val.cell? ⟨B3, 1, none⟩ = some (.int .i64 uy) := (z1.cell _ _ hB3l).trans e6
                            have n1 : b < z1.val.heap.size := by omega
                            have n2 : B2 < z1.val.heap.size := by omega
                            go_wp2_with fail
                            refine wp_region_later (by kernel_rfl) (by kernel_rfl) ?_
                            repeat (go_big_quiet_step ((first | ((go_at_call 25; (with_reducible refine Later.call _ (F1.out _)))) | ((go_at_call 25; (with_reducible refine Later.call _ (F2.out _)))))))
                            refine wpQuiet_nil ?_
                            intro z2
                            have BZ : Hid (z2.val.heap[B3]? = some (.cells #[.int .i64 ux, .int .i64 uy] 34)) := (z2.ok.block _ hB3z).trans ((z1.ok.block _ hB3l).trans R3.out)
                            go_wp2
                            go_roundw
                            case rel =>
                              refine ⟨k + 1, ux, uy, by omega, by go_num, ?_, (z2.ok.block _ (by omega)).trans ((z1.ok.block _ (by omega)).trans R1.out), (z2.ok.block _ (by omega)).trans ((z1.ok.block _ (by omega)).trans R2.out), BZ.out, (RO.out.later z1).later z2, (RB.out.trans (z1.ok.mono (by have := RB.out.size; omega))).trans (z2.ok.mono (by have := RB.out.size; omega))⟩
                              rw [nxTo_step (ptsOf_get hkn), NX.out, TK.out]
                            case measure => simp [intOf]; omega
                    · obtain rfl : n = k := by omega
                      have HNX : Hid (nextOf (ptsOf n px py) (ax, ay) = (ux, uy)) := by
                        have := NX.out
                        unfold nxTo at this
                        rw [List.take_of_length_le (by rw [ptsOf_length]; omega)] at this
                        exact this
                      have hmod := HH.out.side i (ax, ay)
                      have e1 : wr.cell? ⟨B, 0, none⟩ = some (.int .i64 (px f)) := cell_of_box R1.out 0 _ rfl
                      have e2 : wr.cell? ⟨B, 1, none⟩ = some (.int .i64 (py f)) := cell_of_box R1.out 1 _ rfl
                      clear hPw
                      by_cases hlast : i + 1 = L.length
                      · have hv : (ux, uy) = (px f, py f) := by
                          have hs := hmod (px f, py f) HAT.out (by rw [hlast, Nat.mod_self]; exact HL0.out)
                          exact HNX.out.symm.trans (next_eq hs (HH.out.sub _ (List.mem_of_getElem? HL0.out)))
                        simp only [Prod.mk.injEq] at hv
                        obtain ⟨s1, s2⟩ := hv
                        have HLA := Lib.hid hlast
                        clear hmod hlast
                        subst s1 s2
                        go_wp2
                        go_ret2
                        refine ⟨_, rfl, ⟨wr, RB.out⟩, rfl, ?_⟩
                        have := RO.out.mono (base' := w.heap.size) (by omega)
                        rw [List.take_of_length_le (by rw [HLA.out]; exact Nat.le_refl _)] at this
                        exact this
                      · have hil2 : i + 1 < L.length := by omega
                        have HV : Hid (L[i + 1]? = some (ux, uy)) := by
                          have hg := List.getElem?_eq_getElem hil2
                          have hs := hmod L[i + 1] HAT.out (by rw [Nat.mod_eq_of_lt hil2]; exact hg)
                          have := HNX.out.symm.trans (next_eq hs (HH.out.sub _ (List.getElem_mem hil2)))
                          show _ = _
                          rw [hg, this]
                        have hne : ¬ (ux = px f ∧ uy = py f) := fun ⟨s1, s2⟩ => by
                          have a := HV.out
                          rw [s1, s2, ← HL0.out] at a
                          have := (List.getElem?_inj hil2 HH.out.nodup).1 a
                          omega
                        clear hmod hlast
                        by_cases hsx : ux = px f
                        · have hsy : ¬ uy = py f := fun e => hne ⟨hsx, e⟩
                          clear hne
                          have f1 := thaw_of_box R2.out 0
                          have f2 := thaw_of_box R2.out 1
                          go_wp2
                          go_roundw
                          case rel =>
                            have hb1 := (setCell_far (w := wr.setCell ⟨B2, 0, none⟩ (.int .i64 ux)) (g := B2) (j := 1) (v := .int .i64 uy) (b := B) (by omega)).trans ((setCell_far (g := B2) (j := 0) (v := .int .i64 ux) (b := B) (by omega)).trans R1.out)
                            rw [hsx] at hb1
                            have hts := two_set_any (u' := .int .i64 ux) (v' := .int .i64 uy) R2.out
                            have hof := own_far (x := .int .i64 ux) (y := .int .i64 uy) RO.out (fun g hg e => by have := own_lt HOW2.out g hg; omega : ∀ g', (Value.slice Av (i + 1) cv).ownBlock = some g' → g' ≠ B2)
                            have hbl := (RB.out.setCell (p := ⟨B2, 0, none⟩) (by omega) (.int .i64 ux)).setCell (p := ⟨B2, 1, none⟩) (by omega) (.int .i64 uy)
                            rw [hsx] at hts hof hbl
                            have hvv := HV.out
                            rw [hsx] at hvv
                            exact ⟨i + 1, px f, uy, hil2, hvv, hof, hb1, hts, hbl⟩
                          case measure => simp only; omega
                        · clear hne
                          have f1 := thaw_of_box R2.out 0
                          have f2 := thaw_of_box R2.out 1
                          go_wp2
                          go_roundw
                          case rel =>
                            have hb1 := (setCell_far (w := wr.setCell ⟨B2, 0, none⟩ (.int .i64 ux)) (g := B2) (j := 1) (v := .int .i64 uy) (b := B) (by omega)).trans ((setCell_far (g := B2) (j := 0) (v := .int .i64 ux) (b := B) (by omega)).trans R1.out)
                            exact ⟨i + 1, ux, uy, hil2, HV.out, own_far RO.out (fun g hg e => by have := own_lt HOW2.out g hg; omega), hb1, two_set_any R2.out, (RB.out.setCell (by omega) _).setCell (by omega) _⟩
                          case measure => simp only; omega
end Go.Proofs.YtamhhbkjgfhfoaaDoor
