/- Which coats are valid, their courses, and the layers over an inch: walked, of the program; the document's Valid and courses. -/
import Derived.Test.YtcjahpbbkdkbpaaTArea
namespace Go.Proofs.Ytcjahpbbkdkbpaa
open Go.RowKit

def coatV (s g r : Int) (A : Option Addr) (n c : Nat) : Value := .agg #[.int .i64 s, .int .i64 g, .int .i64 r, .slice A n c]
theorem coat_at {w V : World} {s g r : Int} {A : Option Addr} {n c : Nat} (hb : Below (w.alloc (.cells #[.int .i64 s, .int .i64 g, .int .i64 r, .slice A n c] 46)).heap.size (w.alloc (.cells #[.int .i64 s, .int .i64 g, .int .i64 r, .slice A n c] 46)) V) :
    (V.cell? ⟨w.heap.size, 0, none⟩ = some (.int .i64 s) ∧ V.cell? ⟨w.heap.size, 1, none⟩ = some (.int .i64 g) ∧ V.cell? ⟨w.heap.size, 2, none⟩ = some (.int .i64 r) ∧ V.cell? ⟨w.heap.size, 3, none⟩ = some (.slice A n c)) ∧ w.heap.size < V.heap.size :=
  ⟨⟨box_at hb 0 _ rfl, box_at hb 1 _ rfl, box_at hb 2 _ rfl, box_at hb 3 _ rfl⟩, get_lt (res_cell hb)⟩
/-- Are indexes of so many in strictly ascending order? -/
def ascQ (f : Nat → Int) (c : Int) (i : Nat) : Bool := inI 0 (f i) (c - 1) && !(decide (0 < i) && decide (f i ≤ f (i - 1)))
def ascB (n : Nat) (f : Nat → Int) (c : Int) : Bool := allB n (ascQ f c)
set_option maxRecDepth 100000 in
set_option maxHeartbeats 3200000 in
theorem ascend_any (A : Option Addr) (n cap : Nat) (f : Nat → Int) (c : Nat) (w : World) (hn : n ≤ 3000) (hc : c ≤ 1000000) (hp : IsInts w A n f) :
    Gives Try.prog 48 #[.slice A n cap, .int .i64 c] w (.bool (ascB n f c)) := by
  have HP := Lib.hid hp
  have BT := Lib.hid fun (x : Int) (V : World) => between_any 0 x ((c : Int) - 1) V
  have AQ : Hid (∀ i, ascQ f c i = (inI 0 (f i) ((c : Int) - 1) && !(decide (0 < i) && decide (f i ≤ f (i - 1))))) := fun _ => rfl
  have AF : Hid (∀ i, i < n → ascQ f c i = false → ascB n f c = false) := fun i hi h => allB_false hi h
  have AT : Hid ((∀ i, i < n → ascQ f c i = true) → ascB n f c = true) := fun h => allB_true h
  generalize ascB n f c = res at *
  generalize ascQ f c = Q at *
  clear hp
  go_enter Try.func48, Try.ntmps48
  go_wp2
  go_loopw [9] (fun v wr => ∃ i : Nat, v = .int .i64 (i : Nat) ∧ i ≤ n ∧ (∀ j, j < i → Q j = true) ∧ ∃ x : Later w, wr = x.val) (fun v _ => n - (intOf v).toNat)
  case atStart => exact ⟨0, rfl, by omega, by omega, later_of (by repeat (first | exact Below.refl _ _ | (with_reducible assumption) | apply below_later | apply below_alloc | apply below_drew | apply below_drewN))⟩
  case round =>
    obtain ⟨i, rfl, hi, hall, x, rfl⟩ := hrel
    have HALL := Lib.hid hall
    clear hall
    by_cases hlt : i < n
    · obtain ⟨bb, oo, hB, q⟩ := (HP.out.later x).at_ (by omega)
      subst hB
      have cj := q.at_ i hlt
      have lq := q.lt
      have AQi := Lib.hid (AQ.out i)
      have BTi := Lib.hid fun V => BT.out (f i) V
      have hprev : Hid (0 < i → ∀ V, Below x.val.heap.size x.val V → V.cell? ⟨bb, oo + (i - 1), none⟩ = some (.int .i64 (f (i - 1)))) := fun h0 V hb => (hb.cell (p := ⟨bb, oo + (i - 1), none⟩) q.lt).trans (q.at_ (i - 1) (by omega))
      clear q
      have AFi := Lib.hid (AF.out i hlt)
      have ATi : Hid (Q i = true → ∀ j, j < i + 1 → Q j = true) := fun h => all_step HALL.out h
      generalize f i = fi at *
      generalize f (i - 1) = fp at *
      generalize Q i = qi at *
      generalize inI 0 fi ((c : Int) - 1) = r1 at *
      cases r1
      · have HQ : Hid (res = false) := AFi.out (by rw [AQi.out]; rfl)
        go_wp2_with (go_at_call 37; with_reducible refine Calls.mono (Gives.calls (BTi.out _)) ?_; rintro e w1 ⟨rfl, z, rfl⟩)
        go_ret
        exact ⟨ret_bool HQ.out.symm, later_of (by repeat (first | exact Below.refl _ _ | (with_reducible assumption) | apply below_later | apply below_alloc | apply below_drew | apply below_drewN))⟩
      by_cases h0 : i = 0
      · subst h0
        rw [Nat.add_zero] at cj
        have HQ : Hid (∀ j, j < 0 + 1 → Q j = true) := ATi.out (by rw [AQi.out]; rfl)
        go_wp2_with (go_at_call 37; with_reducible refine Calls.mono (Gives.calls (BTi.out _)) ?_; rintro e w1 ⟨rfl, z, rfl⟩)
        first
          | (go_roundw
             case rel => exact ⟨1, by go_num, by omega, HQ.out, later_of (by repeat (first | exact Below.refl _ _ | (with_reducible assumption) | apply below_later | apply below_alloc | apply below_drew | apply below_drewN))⟩
             case measure => simp [intOf]; omega)
          | (refine ⟨⟨1, by go_num, by omega, HQ.out, later_of (by repeat (first | exact Below.refl _ _ | (with_reducible assumption) | apply below_later | apply below_alloc | apply below_drew | apply below_drewN))⟩, ?_⟩; simp [intOf]; omega)
      · have hg : decide ((i : Int) > 0) = true := by simp; omega
        have hg2 : decide ((0 : Int) < (i : Int)) = true := by simp; omega
        have hsub : (i : Int) - 1 = ((i - 1 : Nat) : Int) := by omega
        have hw : IntKind.i64.wrap ((i : Int) - 1) = ((i - 1 : Nat) : Int) := by rw [hsub]; exact i64_nat (by omega)
        have hlp : i - 1 < n := by omega
        have hP := Lib.hid (hprev.out (by omega))
        clear hsub
        by_cases hle : fi ≤ fp
        · have HQ : Hid (res = false) := AFi.out (by rw [AQi.out, decide_eq_true hle, decide_eq_true (by omega : 0 < i)]; rfl)
          go_wp2_with ((go_at_call 37; with_reducible refine Calls.mono (Gives.calls (BTi.out _)) ?_; rintro e w1 ⟨rfl, z, rfl⟩); have cp := hP.out z.val (by repeat (first | exact Below.refl _ _ | (with_reducible assumption) | apply below_later | apply below_alloc | apply below_drew | apply below_drewN)))
          go_ret
          exact ⟨ret_bool HQ.out.symm, later_of (by repeat (first | exact Below.refl _ _ | (with_reducible assumption) | apply below_later | apply below_alloc | apply below_drew | apply below_drewN))⟩
        · have HQ : Hid (∀ j, j < i + 1 → Q j = true) := ATi.out (by rw [AQi.out, decide_eq_false hle]; simp)
          go_wp2_with ((go_at_call 37; with_reducible refine Calls.mono (Gives.calls (BTi.out _)) ?_; rintro e w1 ⟨rfl, z, rfl⟩); have cp := hP.out z.val (by repeat (first | exact Below.refl _ _ | (with_reducible assumption) | apply below_later | apply below_alloc | apply below_drew | apply below_drewN)))
          first
            | (go_roundw
               case rel => exact ⟨i + 1, by go_num, by omega, HQ.out, later_of (by repeat (first | exact Below.refl _ _ | (with_reducible assumption) | apply below_later | apply below_alloc | apply below_drew | apply below_drewN))⟩
               case measure => simp [intOf]; omega)
            | (refine ⟨⟨i + 1, by go_num, by omega, HQ.out, later_of (by repeat (first | exact Below.refl _ _ | (with_reducible assumption) | apply below_later | apply below_alloc | apply below_drew | apply below_drewN))⟩, ?_⟩; simp [intOf]; omega)
    · obtain rfl : i = n := by omega
      have HQ := Lib.hid (AT.out HALL.out)
      go_wp2
      go_ret
      exact ⟨ret_bool HQ.out.symm, later_of (by repeat (first | exact Below.refl _ _ | (with_reducible assumption) | apply below_later | apply below_alloc | apply below_drew | apply below_drewN))⟩
set_option maxRecDepth 100000 in
theorem courses_any (S G : Nat) (r : Int) (A : Option Addr) (n cap : Nat) (w : World) (hS : S ≤ 5000) (hG : 1 ≤ G ∧ G ≤ 100) :
    Gives Try.prog 41 #[coatV S G r A n cap] w (.int .i64 (upN S G : Nat)) := by
  have RU := Lib.hid fun V => roundedUp_any S G V (by omega) hG.1 (by omega)
  generalize upN S G = q at *
  unfold coatV
  go_enter Try.func41, Try.ntmps41
  go_wp2_with (go_at_call 35; with_reducible refine Calls.mono (Gives.calls (RU.out _)) ?_; rintro e w1 ⟨rfl, z, rfl⟩)
  go_ret
  exact ⟨rfl, later_of (by repeat (first | exact Below.refl _ _ | (with_reducible assumption) | apply below_later | apply below_alloc | apply below_drew | apply below_drewN))⟩
set_option maxRecDepth 100000 in
theorem rcourses_any (S G : Nat) (r : Int) (A : Option Addr) (n cap : Nat) (w : World) (hS : S ≤ 5000) (hG : 1 ≤ G ∧ G ≤ 100) :
    Gives Try.prog 38 #[coatV S G r A n cap] w (.int .i64 (upN S G : Nat)) := by
  have RU := Lib.hid fun V => rup_any S G V (by omega) hG.1 (by omega)
  generalize upN S G = q at *
  unfold coatV
  go_enter Try.func38, Try.ntmps38
  go_wp2_with (go_at_call 36; with_reducible refine Calls.mono (Gives.calls (RU.out _)) ?_; rintro e w1 ⟨rfl, z, rfl⟩)
  go_ret
  exact ⟨rfl, later_of (by repeat (first | exact Below.refl _ _ | (with_reducible assumption) | apply below_later | apply below_alloc | apply below_drew | apply below_drewN))⟩
/-- Is a coat as described? -/
def okCoat (s g r : Int) (n : Nat) (f : Nat → Int) : Bool := ((inI 1 s 5000 && inI 1 g 100) && inI 1 r 200) && (decide (n ≤ 100) && ascB n f (upN s.toNat g.toNat : Nat))
set_option maxRecDepth 100000 in
set_option maxHeartbeats 3200000 in
theorem ValidCoat_any (s g r : Int) (A : Option Addr) (n cap : Nat) (f : Nat → Int) (w : World) (hp : n ≤ 100 → IsInts w A n f) :
    Gives Try.prog 39 #[coatV s g r A n cap] w (.bool (okCoat s g r n f)) := by
  have B1 := Lib.hid fun V => between_any 1 s 5000 V
  have B2 := Lib.hid fun V => between_any 1 g 100 V
  have B3 := Lib.hid fun V => between_any 1 r 200 V
  have HE : Hid (okCoat s g r n f = (((inI 1 s 5000 && inI 1 g 100) && inI 1 r 200) && (decide (n ≤ 100) && ascB n f (upN s.toNat g.toNat : Nat)))) := rfl
  have HS : Hid (inI 1 s 5000 = true → 1 ≤ s ∧ s ≤ 5000) := fun h => inI_iff.1 h
  have HG : Hid (inI 1 g 100 = true → 1 ≤ g ∧ g ≤ 100) := fun h => inI_iff.1 h
  have HP := Lib.hid hp
  clear hp
  unfold coatV
  generalize okCoat s g r n f = res at *
  generalize inI 1 s 5000 = r1 at *
  generalize inI 1 g 100 = r2 at *
  generalize inI 1 r 200 = r3 at *
  cases r1
  · go_enter Try.func39, Try.ntmps39
    go_wp2_with (first | (go_at_call 37; with_reducible refine Calls.mono (Gives.calls (B1.out _)) ?_; rintro e w1 ⟨rfl, z1, rfl⟩) | (go_at_call 37; with_reducible refine Calls.mono (Gives.calls (B2.out _)) ?_; rintro e w1 ⟨rfl, z2, rfl⟩) | (go_at_call 37; with_reducible refine Calls.mono (Gives.calls (B3.out _)) ?_; rintro e w1 ⟨rfl, z3, rfl⟩))
    go_ret
    exact ⟨ret_bool (by rw [HE.out]; rfl), later_of (by repeat (first | exact Below.refl _ _ | (with_reducible assumption) | apply below_later | apply below_alloc | apply below_drew | apply below_drewN))⟩
  cases r2
  · go_enter Try.func39, Try.ntmps39
    go_wp2_with (first | (go_at_call 37; with_reducible refine Calls.mono (Gives.calls (B1.out _)) ?_; rintro e w1 ⟨rfl, z1, rfl⟩) | (go_at_call 37; with_reducible refine Calls.mono (Gives.calls (B2.out _)) ?_; rintro e w1 ⟨rfl, z2, rfl⟩) | (go_at_call 37; with_reducible refine Calls.mono (Gives.calls (B3.out _)) ?_; rintro e w1 ⟨rfl, z3, rfl⟩))
    go_ret
    exact ⟨ret_bool (by rw [HE.out]; rfl), later_of (by repeat (first | exact Below.refl _ _ | (with_reducible assumption) | apply below_later | apply below_alloc | apply below_drew | apply below_drewN))⟩
  cases r3
  · go_enter Try.func39, Try.ntmps39
    go_wp2_with (first | (go_at_call 37; with_reducible refine Calls.mono (Gives.calls (B1.out _)) ?_; rintro e w1 ⟨rfl, z1, rfl⟩) | (go_at_call 37; with_reducible refine Calls.mono (Gives.calls (B2.out _)) ?_; rintro e w1 ⟨rfl, z2, rfl⟩) | (go_at_call 37; with_reducible refine Calls.mono (Gives.calls (B3.out _)) ?_; rintro e w1 ⟨rfl, z3, rfl⟩))
    go_ret
    exact ⟨ret_bool (by rw [HE.out]; rfl), later_of (by repeat (first | exact Below.refl _ _ | (with_reducible assumption) | apply below_later | apply below_alloc | apply below_drew | apply below_drewN))⟩
  obtain ⟨s0, s1⟩ := HS.out rfl
  obtain ⟨g0, g1⟩ := HG.out rfl
  obtain ⟨S, rfl⟩ : ∃ S : Nat, s = S := ⟨s.toNat, by omega⟩
  obtain ⟨G, rfl⟩ : ∃ G : Nat, g = G := ⟨g.toNat, by omega⟩
  rw [Int.toNat_natCast, Int.toNat_natCast] at HE
  have hq : upN S G ≤ 6000 := Nat.le_trans (Nat.div_le_self _ _) (by omega)
  have CO := Lib.hid fun V => courses_any S G r A n cap V (by omega) (by omega)
  unfold coatV at CO
  by_cases hn : n ≤ 100
  · have hd : decide ((n : Int) ≤ 100) = true := by simp; omega
    have AS := Lib.hid fun (V : World) (hb : Below w.heap.size w V) => ascend_any A n cap f (upN S G) V (by omega) (by omega) ((HP.out hn).below hb)
    have HD : Hid (res = ascB n f (upN S G : Nat)) := by show _ = _; rw [HE.out, decide_eq_true hn]; rfl
    generalize ascB n f (upN S G : Nat) = rr at *
    generalize upN S G = q at *
    go_enter Try.func39, Try.ntmps39
    go_wp2_with (first | (go_at_call 37; with_reducible refine Calls.mono (Gives.calls (B1.out _)) ?_; rintro e w1 ⟨rfl, z1, rfl⟩) | (go_at_call 37; with_reducible refine Calls.mono (Gives.calls (B2.out _)) ?_; rintro e w1 ⟨rfl, z2, rfl⟩) | ((go_at_call 37; with_reducible refine Calls.mono (Gives.calls (B3.out _)) ?_; rintro e w1 ⟨rfl, z3, rfl⟩); obtain ⟨⟨x0, x1, x2, x3⟩, lx⟩ := coat_at (w := w) (V := z3.val) (s := (S : Int)) (g := (G : Int)) (r := r) (A := A) (n := n) (c := cap) (by repeat (first | exact Below.refl _ _ | (with_reducible assumption) | apply below_later | apply below_alloc | apply below_drew | apply below_drewN))))
    have HBZ : Hid (Below w.heap.size w z3.val) := by show Below _ _ _; repeat (first | exact Below.refl _ _ | (with_reducible assumption) | apply below_later | apply below_alloc | apply below_drew | apply below_drewN)
    generalize z3.val = Z at *
    refine wp_region_later (by kernel_rfl) (by kernel_rfl) ?_
    repeat (go_big_quiet_step ((first | (go_at_call 41; (with_reducible refine Later.call _ (CO.out _))) | (go_at_call 48; (with_reducible refine Later.call _ (AS.out _ (below_more HBZ.out (by repeat (first | exact Below.refl _ _ | (with_reducible assumption) | apply below_later | apply below_alloc | apply below_drew | apply below_drewN)))))))))
    refine wpQuiet_nil ?_
    intro y
    go_wp2
    go_ret
    exact ⟨ret_bool HD.out.symm, later_of (below_more HBZ.out y.ok)⟩
  · have hd : decide ((n : Int) ≤ 100) = false := by simp; omega
    have HD : Hid (res = false) := by show _ = _; rw [HE.out, decide_eq_false hn]; rfl
    go_enter Try.func39, Try.ntmps39
    go_wp2_with (first | (go_at_call 37; with_reducible refine Calls.mono (Gives.calls (B1.out _)) ?_; rintro e w1 ⟨rfl, z1, rfl⟩) | (go_at_call 37; with_reducible refine Calls.mono (Gives.calls (B2.out _)) ?_; rintro e w1 ⟨rfl, z2, rfl⟩) | ((go_at_call 37; with_reducible refine Calls.mono (Gives.calls (B3.out _)) ?_; rintro e w1 ⟨rfl, z3, rfl⟩); obtain ⟨⟨x0, x1, x2, x3⟩, lx⟩ := coat_at (w := w) (V := z3.val) (s := (S : Int)) (g := (G : Int)) (r := r) (A := A) (n := n) (c := cap) (by repeat (first | exact Below.refl _ _ | (with_reducible assumption) | apply below_later | apply below_alloc | apply below_drew | apply below_drewN))))
    have HBZ : Hid (Below w.heap.size w z3.val) := by show Below _ _ _; repeat (first | exact Below.refl _ _ | (with_reducible assumption) | apply below_later | apply below_alloc | apply below_drew | apply below_drewN)
    generalize z3.val = Z at *
    refine wp_region_later (by kernel_rfl) (by kernel_rfl) ?_
    repeat (go_big_quiet_step ((first | (go_at_call 41; (with_reducible refine Later.call _ (CO.out _))))))
    refine wpQuiet_nil ?_
    intro y
    go_wp2
    go_ret
    exact ⟨ret_bool HD.out.symm, later_of (below_more HBZ.out y.ok)⟩
end Go.Proofs.Ytcjahpbbkdkbpaa
