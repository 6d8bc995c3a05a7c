/- dole's envies and butForOne, the document's Envied: walked. -/
import Derived.Test.YtjmjafpjfhgfdaaDSum
namespace Go.Proofs.Ytjmjafpjfhgfdaa
open Go.RowKit

/-- Does one envy another one (in a table)? -/
def envT (R : Nat → Row) (c : Nat → Int) (m i j : Nat) : Bool := decide (wth (R i).f c i m < wth (R i).f c j m)
set_option maxRecDepth 100000 in
set_option maxHeartbeats 1600000 in
theorem envies_any (k cap n m cS i j : Nat) (A S : Option Addr) (R : Nat → Row) (c : Nat → Int) (w : World) (hi : i < k) (hmn : m ≤ n) (W : Vals k n R) (hp : IsTab w A k R) (hc : IsInts w S m c) :
    Gives Try.prog 57 #[.agg #[.slice A k cap, .slice S m cS], .int .i64 (i : Nat), .int .i64 (j : Nat)] w (.bool (envT R c m i j)) := by
  have hb : Below w.heap.size w (w.alloc (.cells #[.slice A k cap, .slice S m cS] 62)) := (Below.refl _ _).alloc (Nat.le_refl _) _
  obtain ⟨c0, c1, l0⟩ := box2 w (.slice A k cap) (.slice S m cS) 62
  have HB := Lib.hid hb
  have W1 := Lib.hid fun (V : World) (h : Below w.heap.size w V) => worth_any k cap n m cS i (j : Nat) A S R c V hi hmn W (hp.below h) (hc.below h)
  have W2 := Lib.hid fun (V : World) (h : Below w.heap.size w V) => worth_any k cap n m cS i (i : Nat) A S R c V hi hmn W (hp.below h) (hc.below h)
  have HR : Hid (envT R c m i j = decide (wth (R i).f c i m < wth (R i).f c j m)) := rfl
  generalize wth (R i).f c i m = x at *
  generalize wth (R i).f c j m = y at *
  generalize envT R c m i j = r at *
  clear hp hc hb W
  go_enter Try.func57, Try.ntmps57
  go_wp2_with fail
  obtain ⟨b8, hb8⟩ : ∃ b8, w.heap.size = b8 := ⟨_, rfl⟩
  rw [hb8] at c0 c1 l0 ⊢
  clear hb8
  generalize w.alloc (.cells #[.slice A k cap, .slice S m cS] 62) = Z at *
  refine wp_region_later (by kernel_rfl) (by kernel_rfl) ?_
  repeat (go_big_quiet_step ((first | (go_at_call 72; (with_reducible refine Later.call _ (W1.out _ (below_more HB.out (by repeat (first | exact Below.refl _ _ | (with_reducible assumption) | apply below_later | apply below_alloc | apply below_drew | apply below_drewN)))))) | (go_at_call 72; (with_reducible refine Later.call _ (W2.out _ (below_more HB.out (by repeat (first | exact Below.refl _ _ | (with_reducible assumption) | apply below_later | apply below_alloc | apply below_drew | apply below_drewN)))))))))
  refine wpQuiet_nil ?_
  intro z
  go_wp2
  go_ret
  exact ⟨ret_bool (by rw [HR.out]), later_of (below_more HB.out z.ok)⟩
set_option maxRecDepth 100000 in
set_option maxHeartbeats 1600000 in
theorem butForOne_any (k cap n m cS i j : Nat) (A S : Option Addr) (R : Nat → Row) (c : Nat → Int) (w : World) (hi : i < k) (hmn : m ≤ n) (W : Vals k n R) (hp : IsTab w A k R) (hc : IsInts w S m c) :
    Gives Try.prog 58 #[.agg #[.slice A k cap, .slice S m cS], .int .i64 (i : Nat), .int .i64 (j : Nat)] w (.bool (butB (R i).f c (j : Nat) (wth (R i).f c i m) (wth (R i).f c j m) m)) := by
  have hn12 := W.n12
  obtain ⟨b, off, rfl⟩ := hp.addr W.k1
  have hb : Below w.heap.size w (w.alloc (.cells #[.slice (some ⟨b, off, none⟩) k cap, .slice S m cS] 62)) := (Below.refl _ _).alloc (Nat.le_refl _) _
  obtain ⟨c0, c1, l0⟩ := box2 w (.slice (some ⟨b, off, none⟩) k cap) (.slice S m cS) 62
  have HB := Lib.hid hb
  have W1 := Lib.hid fun (V : World) (h : Below w.heap.size w V) => worth_any k cap n m cS i (j : Nat) (some ⟨b, off, none⟩) S R c V hi hmn W (hp.below h) (hc.below h)
  have W2 := Lib.hid fun (V : World) (h : Below w.heap.size w V) => worth_any k cap n m cS i (i : Nat) (some ⟨b, off, none⟩) S R c V hi hmn W (hp.below h) (hc.below h)
  have CE := Lib.hid fun (V : World) (hb : Below w.heap.size w V) (x : Nat) (hj : x < n) => tab_cell (hp.below hb) W hi hj
  have HC := Lib.hid fun (V : World) (h : Below w.heap.size w V) => hc.below h
  have HV := Lib.hid (W.val i hi)
  have BX := wth_bd (f := (R i).f) (c := c) (o := (i : Nat)) (m := m) fun q hq => W.val i hi q (by omega)
  have BY := wth_bd (f := (R i).f) (c := c) (o := (j : Nat)) (m := m) fun q hq => W.val i hi q (by omega)
  obtain ⟨x0, x1⟩ := BX
  obtain ⟨y0, y1⟩ := BY
  generalize wth (R i).f c i m = x at *
  generalize wth (R i).f c j m = y at *
  have HR : Hid (butB (R i).f c (j : Nat) x y m = !allB m fun q => !(decide (c q = (j : Nat)) && decide (y - (R i).f q ≤ x))) := rfl
  generalize butB (R i).f c (j : Nat) x y m = r at *
  clear hp hc hb W
  go_enter Try.func58, Try.ntmps58
  go_wp2_with fail
  obtain ⟨b8, hb8⟩ : ∃ b8, w.heap.size = b8 := ⟨_, rfl⟩
  rw [hb8] at c0 c1 l0 ⊢
  clear hb8
  generalize w.alloc (.cells #[.slice (some ⟨b, off, none⟩) k cap, .slice S m cS] 62) = Z at *
  refine wp_region_later (by kernel_rfl) (by kernel_rfl) ?_
  repeat (go_big_quiet_step ((first | (go_at_call 72; (with_reducible refine Later.call _ (W1.out _ (below_more HB.out (by repeat (first | exact Below.refl _ _ | (with_reducible assumption) | apply below_later | apply below_alloc | apply below_drew | apply below_drewN)))))) | (go_at_call 72; (with_reducible refine Later.call _ (W2.out _ (below_more HB.out (by repeat (first | exact Below.refl _ _ | (with_reducible assumption) | apply below_later | apply below_alloc | apply below_drew | apply below_drewN)))))))))
  refine wpQuiet_nil ?_
  intro z
  have d0 := (z.cell _ 0 l0).trans c0
  have d1 := (z.cell _ 1 l0).trans c1
  have d2 := z.lt _ l0
  have HBZ : Hid (Below w.heap.size w z.val) := below_more HB.out z.ok
  clear c0 c1 l0 HB W1 W2
  generalize z.val = Q at *
  go_wp2
  go_loopw [22] (fun u wr => ∃ q : Nat, u = .int .i64 (q : Nat) ∧ q ≤ m ∧ (∀ p, p < q → (!(decide (c p = (j : Nat)) && decide (y - (R i).f p ≤ x))) = true) ∧ ∃ z : Later Q, wr = z.val) (fun u _ => m - (intOf u).toNat)
  case atStart => exact ⟨0, rfl, by omega, by omega, later_of (by repeat (first | exact Below.refl _ _ | (with_reducible assumption) | apply below_later | apply below_alloc | apply below_drew | apply below_drewN))⟩
  case round =>
    obtain ⟨q, rfl, hq, hall, z, rfl⟩ := hrel
    have HALL := Lib.hid hall
    clear hall
    have e0 := (z.cell _ 0 d2).trans d0
    have e1 := (z.cell _ 1 d2).trans d1
    have e2 := z.lt _ d2
    by_cases hlt : q < m
    · have hbz : Below w.heap.size w z.val := below_more HBZ.out z.ok
      obtain ⟨bb, oo, hB, p⟩ := (HC.out z.val hbz).at_ (by omega)
      subst hB
      have cq := p.at_ q hlt
      have lq := p.lt
      obtain ⟨br, br', la, ca, lr, cr⟩ := CE.out z.val hbz q (by omega)
      obtain ⟨v0, v1⟩ := HV.out q (by omega)
      have FT : Hid ((!(decide (c q = (j : Nat)) && decide (y - (R i).f q ≤ x))) = true → ∀ p, p < q + 1 → (!(decide (c p = (j : Nat)) && decide (y - (R i).f p ≤ x))) = true) := fun h => all_step (p := fun p => !(decide (c p = (j : Nat)) && decide (y - (R i).f p ≤ x))) HALL.out h
      have FF : Hid ((!(decide (c q = (j : Nat)) && decide (y - (R i).f q ≤ x))) = false → r = true) := fun h => by rw [HR.out, allB_false (p := fun p => !(decide (c p = (j : Nat)) && decide (y - (R i).f p ≤ x))) hlt h]; rfl
      clear p hbz
      generalize (R i).f q = f at *
      generalize (R i).c = rc at *
      generalize c q = o at *
      by_cases h1 : o = (j : Nat)
      · have g1 : (o == ((j : Nat) : Int)) = true := by rw [h1]; simp
        by_cases h2 : y - f ≤ x
        · have HE := Lib.hid (FF.out (by simp [h1, h2]))
          clear h1
          go_wp2
          go_ret
          exact ⟨ret_bool HE.out.symm, later_of (below_more HBZ.out z.ok)⟩
        · have HE := Lib.hid (FT.out (by simp [h2]))
          clear h1
          go_wp2
          go_roundw
          case rel => exact ⟨q + 1, by go_num, by omega, HE.out, later_of (by repeat (first | exact Below.refl _ _ | (with_reducible assumption) | apply below_later | apply below_alloc | apply below_drew | apply below_drewN))⟩
          case measure => simp [intOf]; omega
      · have g1 : (o == ((j : Nat) : Int)) = false := by simp [h1]
        have HE := Lib.hid (FT.out (by simp [h1]))
        clear h1
        go_wp2
        go_roundw
        case rel => exact ⟨q + 1, by go_num, by omega, HE.out, later_of (by repeat (first | exact Below.refl _ _ | (with_reducible assumption) | apply below_later | apply below_alloc | apply below_drew | apply below_drewN))⟩
        case measure => simp [intOf]; omega
    · obtain rfl : q = m := by omega
      have HE : Hid (r = false) := by show _ = _; rw [HR.out, allB_true (p := fun p => !(decide (c p = (j : Nat)) && decide (y - (R i).f p ≤ x))) HALL.out]; rfl
      go_wp2
      go_ret
      exact ⟨ret_bool HE.out.symm, later_of (below_more HBZ.out z.ok)⟩
set_option maxRecDepth 100000 in
set_option maxHeartbeats 1600000 in
theorem renvied_any (k cap n m cS i j : Nat) (A S : Option Addr) (R : Nat → Row) (c : Nat → Int) (w : World) (hi : i < k) (hmn : m ≤ n) (W : Vals k n R) (hp : IsTab w A k R) (hc : IsInts w S m c) :
    Gives Try.prog 49 #[.slice A k cap, .slice S m cS, .int .i64 (i : Nat), .int .i64 (j : Nat)] w (.bool (envT R c m i j)) := by
  obtain ⟨b, off, rfl⟩ := hp.addr W.k1
  obtain ⟨B, la, ca, hI⟩ := tab_head hp W hi
  have W1 := Lib.hid fun (V : World) (h : Below w.heap.size w V) => rworth_any n m cS (R i).c (j : Nat) B S (R i).f c V hmn W.n12 (W.val i hi) (hI.below h) (hc.below h)
  have W2 := Lib.hid fun (V : World) (h : Below w.heap.size w V) => rworth_any n m cS (R i).c (i : Nat) B S (R i).f c V hmn W.n12 (W.val i hi) (hI.below h) (hc.below h)
  have HR : Hid (envT R c m i j = decide (wth (R i).f c i m < wth (R i).f c j m)) := rfl
  generalize wth (R i).f c i m = x at *
  generalize wth (R i).f c j m = y at *
  generalize envT R c m i j = r at *
  generalize (R i).c = rc at *
  clear hp hc hI W
  go_enter Try.func49, Try.ntmps49
  go_wp2_with fail
  refine wp_region_later (by kernel_rfl) (by kernel_rfl) ?_
  repeat (go_big_quiet_step ((first | (go_at_call 56; (with_reducible refine Later.call _ (W1.out _ (by repeat (first | exact Below.refl _ _ | (with_reducible assumption) | apply below_later | apply below_alloc | apply below_drew | apply below_drewN))))) | (go_at_call 56; (with_reducible refine Later.call _ (W2.out _ (by repeat (first | exact Below.refl _ _ | (with_reducible assumption) | apply below_later | apply below_alloc | apply below_drew | apply below_drewN))))))))
  refine wpQuiet_nil ?_
  intro z
  go_wp2
  go_ret
  exact ⟨ret_bool (by rw [HR.out]), later_of (by repeat (first | exact Below.refl _ _ | (with_reducible assumption) | apply below_later | apply below_alloc | apply below_drew | apply below_drewN))⟩
end Go.Proofs.Ytjmjafpjfhgfdaa
