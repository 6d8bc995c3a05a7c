/- bed.sums, with the two things that it adds up. -/
import Derived.Test.YtajfepogecakbaaDoorBedsC
import Derived.Test.YtajfepogecakbaaDoorGrow
import Derived.Test.YtajfepogecakbaaDoorRefNbrs
namespace Go.Proofs.YtajfepogecakbaaDoor
open Go.RowKit

set_option maxRecDepth 100000 in
theorem sizes1_any (i : Nat) (w : World) : Gives Tryd.prog 70 #[.int .i64 i] w (.int .i64 1) := by
  go_enter Tryd.func70, Tryd.ntmps70
  go_wp2
  go_ret
  exact ⟨rfl, later_of (by repeat (first | exact Below.refl _ _ | (with_reducible assumption) | apply below_later | apply below_alloc | apply below_drew | apply below_drewN))⟩
set_option maxRecDepth 100000 in
theorem sides1_any (W H b off n cap bm i : Nat) (f : Nat → Int) (w : World) (hW1 : 1 ≤ W) (hW : W ≤ 30) (hH : H ≤ 30) (hn : n = W * H) (hi : i < W * H) (p : Ints w b off n f)
    (c0 : w.cell? ⟨bm, 0, none⟩ = some (.int .i64 W)) (c1 : w.cell? ⟨bm, 1, none⟩ = some (.int .i64 H)) (c2 : w.cell? ⟨bm, 2, none⟩ = some (.slice (some ⟨b, off, none⟩) n cap)) :
    Gives Tryd.prog 71 #[.int .i64 i, .pointer (some ⟨bm, 0, none⟩)] w (.int .i64 (4 - (reedsN W H f i : Nat))) := by
  have lm := World.block_lt_of_cell? _ _ c0
  have lb := p.lt
  have rl := reedsN_le W H f i
  have RN : Hid (∀ w', Ints w' b off n f → Gives Tryd.prog 72 #[.agg #[.int .i64 W, .int .i64 H, .slice (some ⟨b, off, none⟩) n cap], .int .i64 i] w' (.int .i64 ((reedsN W H f i : Nat) : Int))) := fun w' h => reedNear_any W H i n cap b off f w' hW1 hW hH hn hi h
  have P := Lib.hid p
  obtain ⟨r, hr⟩ : ∃ r, reedsN W H f i = r := ⟨_, rfl⟩
  rw [hr] at rl RN ⊢
  have h4 : IntKind.i64.wrap (4 - (r : Int)) = 4 - (r : Int) := IntWalk.i64_in _ (by omega)
  clear p hr hn hi
  go_enter Tryd.func71, Tryd.ntmps71
  go_wp2_with (go_at_call 72; (first | (with_reducible show Calls _ _ _ (Later.val _) _; with_reducible refine Calls.mono (Later.call _ (RN.out _ (P.out.later ⟨_, by repeat (first | exact Below.refl _ _ | (with_reducible assumption) | apply below_later | apply below_alloc | apply below_drew | apply below_drewN)⟩))) ?_) | (with_reducible refine Calls.mono (Gives.calls (RN.out _ (P.out.later ⟨_, by repeat (first | exact Below.refl _ _ | (with_reducible assumption) | apply below_later | apply below_alloc | apply below_drew | apply below_drewN)⟩))) ?_)); rintro e w1 ⟨rfl, z, rfl⟩)
  go_ret
  exact ⟨rfl, later_of (by repeat (first | exact Below.refl _ _ | (with_reducible assumption) | apply below_later | apply below_alloc | apply below_drew | apply below_drewN))⟩

def sumTo (h : Nat → Int) : Nat → Int
  | 0 => 0
  | n + 1 => sumTo h n + h n
/-- What has been added up of number j. -/
def part (no g : Nat → Int) (k j : Nat) : Int := sumTo (fun i => if no i = (j : Int) then g i else 0) k
def parts (no g : Nat → Int) (tot k : Nat) : List Int := (List.range tot).map (part no g k)
theorem parts_length (no g : Nat → Int) (tot k : Nat) : (parts no g tot k).length = tot := by simp [parts]
theorem parts_zero (no g : Nat → Int) (tot : Nat) : parts no g tot 0 = List.replicate tot 0 := by
  apply List.ext_getElem <;> simp [parts, part, sumTo]
theorem parts_skip {no g : Nat → Int} {tot k : Nat} (h : no k = -1) : parts no g tot (k + 1) = parts no g tot k := by
  unfold parts
  apply List.map_congr_left
  intro j _
  show part no g k j + (if no k = (j : Int) then g k else 0) = part no g k j
  rw [if_neg (by omega), Int.add_zero]
theorem parts_step {no g : Nat → Int} {tot k j : Nat} (h : no k = (j : Int)) (hj : j < tot) : parts no g tot (k + 1) = (parts no g tot k).set j (part no g k j + g k) := by
  apply List.ext_getElem?
  intro i
  rw [List.getElem?_set]
  unfold parts
  rcases Nat.lt_or_ge i tot with hi | hi
  · rw [List.getElem?_map, List.getElem?_range hi]
    by_cases e : j = i
    · subst e
      rw [if_pos rfl, if_pos (by simpa using hj)]
      show some (part no g k j + (if no k = (j : Int) then g k else 0)) = _
      rw [if_pos h]
    · rw [if_neg e, List.getElem?_map, List.getElem?_range hi]
      show some (part no g k i + (if no k = (i : Int) then g k else 0)) = _
      rw [if_neg (by omega), Int.add_zero]
      rfl
  · rw [List.getElem?_eq_none (by simpa using hi), if_neg (by omega), List.getElem?_eq_none (by simpa using hi)]
theorem part_bd {no g : Nat → Int} {k j : Nat} (h : ∀ i, i < k → -9 ≤ g i ∧ g i ≤ 9) : -9 * (k : Int) ≤ part no g k j ∧ part no g k j ≤ 9 * k := by
  induction k with
  | zero => exact ⟨by show _ ≤ (0 : Int); omega, by show (0 : Int) ≤ _; omega⟩
  | succ k ih =>
    obtain ⟨a, b⟩ := ih fun i hi => h i (by omega)
    obtain ⟨c, d⟩ := h k (by omega)
    show _ ≤ part no g k j + (if no k = (j : Int) then g k else 0) ∧ part no g k j + (if no k = (j : Int) then g k else 0) ≤ _
    split <;> omega

theorem bedNo_cases {W H : Nat} {f : Nat → Int} {i : Nat} (hW : 1 ≤ W) (hi : i < W * H) : bedNo W H f i = -1 ∨ ∃ j : Nat, j < bedsN W H f ∧ bedNo W H f i = (j : Int) := by
  unfold bedNo bedsN grp
  by_cases hb : belBeds f i = true
  · rw [if_pos hb]
    have h1 := (net_beds (H := H) (f := f) hW).root hb rfl
    have h2 := (rootOf_spec (esBeds W H f) i).1
    exact .inr ⟨_, num_lt (show rootOf (esBeds W H f) i < W * H by omega) h1, rfl⟩
  · rw [if_neg hb]; exact .inl rfl

/-- What the loop of bed.sums keeps. -/
structure SU (M : Obj) (no g : Nat → Int) (n tot gv cv g0 k : Nat) (w V : World) : Prop where
  below : Below w.heap.size w V
  box : V.heap[w.heap.size]? = some M
  own : OwnI V (w.heap.size + 1) (.slice (some ⟨gv, 0, none⟩) n cv) ((List.range n).map no)
  out : OwnI V (w.heap.size + 1) (.slice (some ⟨g0, 0, none⟩) tot tot) (parts no g tot k)
section
variable {M : Obj} {no g : Nat → Int} {n tot gv cv g0 k : Nat} {w V : World}
theorem SU.later (h : SU M no g n tot gv cv g0 k w V) (x : Later V) : SU M no g n tot gv cv g0 k w x.val :=
  ⟨below_more h.below x.ok, (x.ok.block _ (lt_of_get h.box)).trans h.box, h.own.later x, h.out.later x⟩
theorem SU.skip (h : SU M no g n tot gv cv g0 k w V) (hk : no k = -1) : SU M no g n tot gv cv g0 (k + 1) w V :=
  ⟨h.below, h.box, h.own, by rw [parts_skip hk]; exact h.out⟩
theorem SU.put (h : SU M no g n tot gv cv g0 k w V) {j : Nat} (hk : no k = (j : Int)) (hj : j < tot) (hg : gv ≠ g0) : SU M no g n tot gv cv g0 (k + 1) w (V.setCell ⟨g0, j, none⟩ (.int .i64 (part no g k j + g k))) := by
  have := h.out.lt
  refine ⟨h.below.setCell (p := ⟨g0, j, none⟩) (by simp; omega) _, (Below.heap_setCell _ _ _ _ (by simp; omega)).trans h.box, h.own.far (fun g' hg' => ?_), ?_⟩
  · obtain rfl : gv = g' := by simpa [Value.ownBlock] using hg'
    exact fun e => hg e.symm
  · rw [parts_step hk hj]
    exact h.out.set (parts_length no g tot k) j _
end
theorem map_at {no : Nat → Int} {n k : Nat} (h : k < n) : ((List.range n).map no).getD k 0 = no k := by
  rw [List.getD_eq_getElem?_getD, List.getElem?_map, List.getElem?_range h]; rfl
theorem parts_at {no g : Nat → Int} {tot k j : Nat} (h : j < tot) : (parts no g tot k).getD j 0 = part no g k j := by
  unfold parts
  rw [List.getD_eq_getElem?_getD, List.getElem?_map, List.getElem?_range h]; rfl

set_option maxRecDepth 100000 in
set_option maxHeartbeats 3200000 in
theorem sums_Sizes (W H n cap b off : Nat) (f g : Nat → Int) (w : World) (hW : 1 ≤ W) (hW2 : W ≤ 30) (hH1 : 1 ≤ H) (hH : H ≤ 30) (hn : n = W * H) (p : Ints w b off n f)
    (wc : ∀ (V : World), Below w.heap.size w V → ∀ i, i < n → Gives Tryd.prog 70 #[.int .i64 i] V (.int .i64 (g i))) (gb : ∀ i, i < n → -9 ≤ g i ∧ g i ≤ 9) :
    GivesI 69 #[.agg #[.int .i64 W, .int .i64 H, .slice (some ⟨b, off, none⟩) n cap], .func (.func 70) #[] #[]] w (parts (bedNo W H f) g (bedsN W H f) n) := by
  have hn9 : n ≤ 900 := by rw [hn]; exact Nat.mul_le_mul hW2 hH
  have h0 : 0 < n := by rw [hn]; exact Nat.mul_le_mul hW hH1
  obtain ⟨tot, htot⟩ : ∃ tot, bedsN W H f = tot := ⟨_, rfl⟩
  have htl : tot ≤ n := by rw [← htot, hn]; exact num_le_n _ _
  have BS : Hid (∀ w', Ints w' b off n f → Calls Tryd.prog 67 #[.agg #[.int .i64 W, .int .i64 H, .slice (some ⟨b, off, none⟩) n cap]] w' fun e w1 => ∃ v, e = .returned (.tuple #[v, .int .i64 tot]) ∧ ∃ x : Later w', w1 = x.val ∧ OwnI w1 w'.heap.size v ((List.range n).map (bedNo W H f))) := fun w' h => by
    refine Calls.mono (beds_any W H n cap b off f w' hW hW2 hH1 hH hn h) ?_
    rintro e w1 ⟨v, nums, rfl, x, rfl, ho, hl, hnum⟩
    refine ⟨v, by rw [← htot]; unfold bedsN; rw [hn], x, rfl, ?_⟩
    have e : nums = (List.range n).map (bedNo W H f) := nums_eq hl hnum
    rw [← e]
    exact ho
  have NB : Hid (∀ i, i < n → bedNo W H f i = -1 ∨ ∃ j : Nat, j < tot ∧ bedNo W H f i = (j : Int)) := fun i hi => by
    rw [← htot]
    exact bedNo_cases hW (hn ▸ hi)
  have MK : ∀ w', (Instr.makeSlice 22 (.int .i64 (tot : Int)) (.int .i64 (tot : Int))).run Tryd.prog w' = .ok (.slice (some ⟨w'.heap.size, 0, none⟩) tot tot) (w'.alloc (.cells (madeCells #[Value.int .i64 0] tot) 3)) := fun w' => make_ints w' tot (by omega)
  have hmul : (W : Int) * (H : Int) = (n : Int) := by rw [hn, Int.natCast_mul]
  have hmb : (W : Int) * (H : Int) ≤ 900 := by omega
  have hm0 : 0 ≤ (W : Int) * (H : Int) := by omega
  have HM := Lib.hid hmul
  have P := Lib.hid p
  have WC := Lib.hid wc
  have GB := Lib.hid gb
  rw [htot]
  generalize bedNo W H f = no at *
  clear p htot hmul hn wc gb
  go_enter Tryd.func69, Tryd.ntmps69
  go_wp2_with (go_at_call 67; refine Calls.mono (BS.out _ (P.out.later ⟨_, by repeat (first | exact Below.refl _ _ | (with_reducible assumption) | apply below_later | apply below_alloc | apply below_drew | apply below_drewN)⟩)) ?_; rintro e w1 ⟨v, rfl, y, rfl, ho⟩; obtain ⟨gv, cv, rfl, hgv, hgL, hgc⟩ := ho.form (n := n) (by simp) h0; have HO := Lib.hid ho; clear ho)
  have ysz := y.size
  simp only [World.size_alloc] at ysz hgv
  have hby : Below w.heap.size w y.val := by repeat (first | exact Below.refl _ _ | (with_reducible assumption) | apply below_later | apply below_alloc | apply below_drew | apply below_drewN)
  have yb : y.val.heap[w.heap.size]? = some (.cells #[.int .i64 W, .int .i64 H, .slice (some ⟨b, off, none⟩) n cap] 24) := (y.ok.block _ (by simp)).trans (World.alloc_heap_new _ _)
  have su0 : SU (.cells #[.int .i64 W, .int .i64 H, .slice (some ⟨b, off, none⟩) n cap] 24) no g n tot gv cv y.val.heap.size 0 w (y.val.alloc (.cells (madeCells #[Value.int .i64 0] tot) 3)) := by
    refine ⟨hby.alloc (by omega) _, (Below.heap_alloc _ _ _ (lt_of_get yb)).trans yb, (HO.out.mono (by simp)).alloc _, ?_⟩
    rw [parts_zero]
    exact made_own y.val tot (w.heap.size + 1) (by omega) (by omega)
  have SU0 := Lib.hid su0
  clear su0 HO hby yb
  obtain ⟨V0, hV0⟩ : ∃ V0, y.val.alloc (.cells (madeCells #[Value.int .i64 0] tot) 3) = V0 := ⟨_, rfl⟩
  rw [hV0] at SU0 ⊢
  have hne : gv ≠ y.val.heap.size := by omega
  generalize y.val.heap.size = g0 at *
  clear hV0
  go_loopw [21] (fun u wr => ∃ k : Nat, k ≤ n ∧ u = .int .i64 k ∧ SU (.cells #[.int .i64 W, .int .i64 H, .slice (some ⟨b, off, none⟩) n cap] 24) no g n tot gv cv g0 k w wr) (fun v _ => n - (intOf v).toNat)
  case atStart => exact ⟨0, by omega, rfl, SU0.out⟩
  case round =>
    obtain ⟨k, hk, rfl, su⟩ := hrel
    by_cases hlt : k < n
    · have hlt' : (k : Int) < (W : Int) * (H : Int) := by rw [HM.out]; omega
      obtain ⟨cn, fn⟩ := su.own.cell (by simp) hlt
      rw [map_at hlt] at cn
      have lg := su.own.lt.2
      have hbw := su.below
      rcases NB.out k hlt with hm | ⟨j, hj, hm⟩
      · have SK1 := Lib.hid (su.skip hm)
        rw [hm] at cn
        clear su
        go_wp2
        go_roundw
        case rel => exact ⟨k + 1, by omega, by go_num, SK1.out⟩
        case measure => simp [intOf]; omega
      · rw [hm] at cn
        have HJ := Lib.hid hm
        obtain ⟨co, fo⟩ := su.out.cell (parts_length no g tot k) hj
        rw [parts_at hj] at co
        have fo1 := fo j
        have lo := su.out.lt.2
        have W1 : Hid (∀ V, Below w.heap.size w V → Gives Tryd.prog 70 #[.int .i64 k] V (.int .i64 (g k))) := fun V hV => WC.out V hV k hlt
        obtain ⟨pb0, pb1⟩ := part_bd (no := no) (g := g) (k := k) (j := j) fun i hi => GB.out i (by omega)
        obtain ⟨gb0, gb1⟩ := GB.out k hlt
        obtain ⟨q, hq⟩ : ∃ q, part no g k j = q := ⟨_, rfl⟩
        obtain ⟨r, hr⟩ : ∃ r, g k = r := ⟨_, rfl⟩
        have HQ := Lib.hid hq
        have HR := Lib.hid hr
        rw [hq] at co pb0 pb1
        rw [hr] at W1 gb0 gb1
        have SU1 := Lib.hid su
        have nj : ((j : Int) == -1) = false := by simp
        have nj2 : ((j : Int) != -1) = true := by simp
        clear su hm fo fn hq hr
        go_wp2_with fail
        refine wp_region_tail 0 11 (by kernel_rfl) (by kernel_rfl) ?_
        simp only [List.take_succ_cons, List.take_zero, List.drop_succ_cons, List.drop_zero]
        repeat (go_big_quiet_step ((go_at_call 70; (with_reducible refine Later.call _ (W1.out _ (below_more SU1.out.below (by repeat (first | exact Below.refl _ _ | (with_reducible assumption) | apply below_later | apply below_alloc | apply below_drew | apply below_drewN))))))))
        refine wpQuiet_nil ?_
        intro y2
        have f2 := (y2.frozen g0 j lo).trans fo1
        have lo2 := Nat.lt_of_lt_of_le lo y2.size
        have p2 := (SU1.out.later y2).put HJ.out hj hne
        rw [HQ.out, HR.out] at p2
        have P2 := Lib.hid p2
        clear p2
        go_wp2
        refine calm_normal ?_
        go_wp2
        go_roundw
        case rel => exact ⟨k + 1, by omega, by go_num, P2.out⟩
        case measure => simp [intOf]; omega
    · obtain rfl : k = n := by omega
      have hlt' : ¬ (k : Int) < (W : Int) * (H : Int) := by rw [HM.out]; omega
      have SU1 := Lib.hid su
      clear su
      go_wp2
      go_ret
      exact ⟨_, rfl, ⟨_, SU1.out.below⟩, rfl, SU1.out.out.mono (by omega)⟩
set_option maxRecDepth 100000 in
set_option maxHeartbeats 3200000 in
theorem sums_Sides (W H n cap b off bm : Nat) (f g : Nat → Int) (w : World) (hW : 1 ≤ W) (hW2 : W ≤ 30) (hH1 : 1 ≤ H) (hH : H ≤ 30) (hn : n = W * H) (p : Ints w b off n f)
    (wc : ∀ (V : World), Below w.heap.size w V → ∀ i, i < n → Gives Tryd.prog 71 #[.int .i64 i, .pointer (some ⟨bm, 0, none⟩)] V (.int .i64 (g i))) (gb : ∀ i, i < n → -9 ≤ g i ∧ g i ≤ 9) :
    GivesI 69 #[.agg #[.int .i64 W, .int .i64 H, .slice (some ⟨b, off, none⟩) n cap], .func (.func 71) #[] #[.pointer (some ⟨bm, 0, none⟩)]] w (parts (bedNo W H f) g (bedsN W H f) n) := by
  have hn9 : n ≤ 900 := by rw [hn]; exact Nat.mul_le_mul hW2 hH
  have h0 : 0 < n := by rw [hn]; exact Nat.mul_le_mul hW hH1
  obtain ⟨tot, htot⟩ : ∃ tot, bedsN W H f = tot := ⟨_, rfl⟩
  have htl : tot ≤ n := by rw [← htot, hn]; exact num_le_n _ _
  have BS : Hid (∀ w', Ints w' b off n f → Calls Tryd.prog 67 #[.agg #[.int .i64 W, .int .i64 H, .slice (some ⟨b, off, none⟩) n cap]] w' fun e w1 => ∃ v, e = .returned (.tuple #[v, .int .i64 tot]) ∧ ∃ x : Later w', w1 = x.val ∧ OwnI w1 w'.heap.size v ((List.range n).map (bedNo W H f))) := fun w' h => by
    refine Calls.mono (beds_any W H n cap b off f w' hW hW2 hH1 hH hn h) ?_
    rintro e w1 ⟨v, nums, rfl, x, rfl, ho, hl, hnum⟩
    refine ⟨v, by rw [← htot]; unfold bedsN; rw [hn], x, rfl, ?_⟩
    have e : nums = (List.range n).map (bedNo W H f) := nums_eq hl hnum
    rw [← e]
    exact ho
  have NB : Hid (∀ i, i < n → bedNo W H f i = -1 ∨ ∃ j : Nat, j < tot ∧ bedNo W H f i = (j : Int)) := fun i hi => by
    rw [← htot]
    exact bedNo_cases hW (hn ▸ hi)
  have MK : ∀ w', (Instr.makeSlice 22 (.int .i64 (tot : Int)) (.int .i64 (tot : Int))).run Tryd.prog w' = .ok (.slice (some ⟨w'.heap.size, 0, none⟩) tot tot) (w'.alloc (.cells (madeCells #[Value.int .i64 0] tot) 3)) := fun w' => make_ints w' tot (by omega)
  have hmul : (W : Int) * (H : Int) = (n : Int) := by rw [hn, Int.natCast_mul]
  have hmb : (W : Int) * (H : Int) ≤ 900 := by omega
  have hm0 : 0 ≤ (W : Int) * (H : Int) := by omega
  have HM := Lib.hid hmul
  have P := Lib.hid p
  have WC := Lib.hid wc
  have GB := Lib.hid gb
  rw [htot]
  generalize bedNo W H f = no at *
  clear p htot hmul hn wc gb
  go_enter Tryd.func69, Tryd.ntmps69
  go_wp2_with (go_at_call 67; refine Calls.mono (BS.out _ (P.out.later ⟨_, by repeat (first | exact Below.refl _ _ | (with_reducible assumption) | apply below_later | apply below_alloc | apply below_drew | apply below_drewN)⟩)) ?_; rintro e w1 ⟨v, rfl, y, rfl, ho⟩; obtain ⟨gv, cv, rfl, hgv, hgL, hgc⟩ := ho.form (n := n) (by simp) h0; have HO := Lib.hid ho; clear ho)
  have ysz := y.size
  simp only [World.size_alloc] at ysz hgv
  have hby : Below w.heap.size w y.val := by repeat (first | exact Below.refl _ _ | (with_reducible assumption) | apply below_later | apply below_alloc | apply below_drew | apply below_drewN)
  have yb : y.val.heap[w.heap.size]? = some (.cells #[.int .i64 W, .int .i64 H, .slice (some ⟨b, off, none⟩) n cap] 24) := (y.ok.block _ (by simp)).trans (World.alloc_heap_new _ _)
  have su0 : SU (.cells #[.int .i64 W, .int .i64 H, .slice (some ⟨b, off, none⟩) n cap] 24) no g n tot gv cv y.val.heap.size 0 w (y.val.alloc (.cells (madeCells #[Value.int .i64 0] tot) 3)) := by
    refine ⟨hby.alloc (by omega) _, (Below.heap_alloc _ _ _ (lt_of_get yb)).trans yb, (HO.out.mono (by simp)).alloc _, ?_⟩
    rw [parts_zero]
    exact made_own y.val tot (w.heap.size + 1) (by omega) (by omega)
  have SU0 := Lib.hid su0
  clear su0 HO hby yb
  obtain ⟨V0, hV0⟩ : ∃ V0, y.val.alloc (.cells (madeCells #[Value.int .i64 0] tot) 3) = V0 := ⟨_, rfl⟩
  rw [hV0] at SU0 ⊢
  have hne : gv ≠ y.val.heap.size := by omega
  generalize y.val.heap.size = g0 at *
  clear hV0
  go_loopw [21] (fun u wr => ∃ k : Nat, k ≤ n ∧ u = .int .i64 k ∧ SU (.cells #[.int .i64 W, .int .i64 H, .slice (some ⟨b, off, none⟩) n cap] 24) no g n tot gv cv g0 k w wr) (fun v _ => n - (intOf v).toNat)
  case atStart => exact ⟨0, by omega, rfl, SU0.out⟩
  case round =>
    obtain ⟨k, hk, rfl, su⟩ := hrel
    by_cases hlt : k < n
    · have hlt' : (k : Int) < (W : Int) * (H : Int) := by rw [HM.out]; omega
      obtain ⟨cn, fn⟩ := su.own.cell (by simp) hlt
      rw [map_at hlt] at cn
      have lg := su.own.lt.2
      have hbw := su.below
      rcases NB.out k hlt with hm | ⟨j, hj, hm⟩
      · have SK1 := Lib.hid (su.skip hm)
        rw [hm] at cn
        clear su
        go_wp2
        go_roundw
        case rel => exact ⟨k + 1, by omega, by go_num, SK1.out⟩
        case measure => simp [intOf]; omega
      · rw [hm] at cn
        have HJ := Lib.hid hm
        obtain ⟨co, fo⟩ := su.out.cell (parts_length no g tot k) hj
        rw [parts_at hj] at co
        have fo1 := fo j
        have lo := su.out.lt.2
        have W1 : Hid (∀ V, Below w.heap.size w V → Gives Tryd.prog 71 #[.int .i64 k, .pointer (some ⟨bm, 0, none⟩)] V (.int .i64 (g k))) := fun V hV => WC.out V hV k hlt
        obtain ⟨pb0, pb1⟩ := part_bd (no := no) (g := g) (k := k) (j := j) fun i hi => GB.out i (by omega)
        obtain ⟨gb0, gb1⟩ := GB.out k hlt
        obtain ⟨q, hq⟩ : ∃ q, part no g k j = q := ⟨_, rfl⟩
        obtain ⟨r, hr⟩ : ∃ r, g k = r := ⟨_, rfl⟩
        have HQ := Lib.hid hq
        have HR := Lib.hid hr
        rw [hq] at co pb0 pb1
        rw [hr] at W1 gb0 gb1
        have SU1 := Lib.hid su
        have nj : ((j : Int) == -1) = false := by simp
        have nj2 : ((j : Int) != -1) = true := by simp
        clear su hm fo fn hq hr
        go_wp2_with fail
        refine wp_region_tail 0 11 (by kernel_rfl) (by kernel_rfl) ?_
        simp only [List.take_succ_cons, List.take_zero, List.drop_succ_cons, List.drop_zero]
        repeat (go_big_quiet_step ((go_at_call 71; (with_reducible refine Later.call _ (W1.out _ (below_more SU1.out.below (by repeat (first | exact Below.refl _ _ | (with_reducible assumption) | apply below_later | apply below_alloc | apply below_drew | apply below_drewN))))))))
        refine wpQuiet_nil ?_
        intro y2
        have f2 := (y2.frozen g0 j lo).trans fo1
        have lo2 := Nat.lt_of_lt_of_le lo y2.size
        have p2 := (SU1.out.later y2).put HJ.out hj hne
        rw [HQ.out, HR.out] at p2
        have P2 := Lib.hid p2
        clear p2
        go_wp2
        refine calm_normal ?_
        go_wp2
        go_roundw
        case rel => exact ⟨k + 1, by omega, by go_num, P2.out⟩
        case measure => simp [intOf]; omega
    · obtain rfl : k = n := by omega
      have hlt' : ¬ (k : Int) < (W : Int) * (H : Int) := by rw [HM.out]; omega
      have SU1 := Lib.hid su
      clear su
      go_wp2
      go_ret
      exact ⟨_, rfl, ⟨_, SU1.out.below⟩, rfl, SU1.out.out.mono (by omega)⟩
end Go.Proofs.YtajfepogecakbaaDoor
