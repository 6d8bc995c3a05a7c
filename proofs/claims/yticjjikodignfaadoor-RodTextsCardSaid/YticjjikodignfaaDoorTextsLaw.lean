/- The law RodTexts: walked. -/
import Derived.Test.YticjjikodignfaaDoorParsesLaw
import Derived.IntWalk
namespace Go.Proofs.YticjjikodignfaaDoor
open Go.RowKit

theorem cut_len (x : List UInt8) (i : Nat) (h : i < x.length) : (x.take i ++ x.drop (i + 1)).length + 1 = x.length := by
  simp
  omega
/-- A text without one of its bytes is read as another number, or not at all. -/
theorem parse_without {la lb lc : UInt8} {s0 s1 : Int} (h0 : 1 ≤ s0) (h1 : 1 ≤ s1) {n : Int} {i : Nat} (hi : i < (textL ⟨#[la]⟩ ⟨#[lb]⟩ ⟨#[lc]⟩ s0 s1 n).length) :
    ∃ m e : Int, parseV la lb lc s0 s1 ((textL ⟨#[la]⟩ ⟨#[lb]⟩ ⟨#[lc]⟩ s0 s1 n).take i ++ (textL ⟨#[la]⟩ ⟨#[lb]⟩ ⟨#[lc]⟩ s0 s1 n).drop (i + 1)) = .tuple #[.int .i64 m, .int .i64 e] ∧ (e = 3 ∨ e = 0 ∧ m ≠ n) := by
  rcases parse_cases (la := la) (lb := lb) (lc := lc) h0 h1 ((textL ⟨#[la]⟩ ⟨#[lb]⟩ ⟨#[lc]⟩ s0 s1 n).take i ++ (textL ⟨#[la]⟩ ⟨#[lb]⟩ ⟨#[lc]⟩ s0 s1 n).drop (i + 1)) with ⟨m, a, b, ht, hp⟩ | hp
  · refine ⟨m, 0, hp, .inr ⟨rfl, fun e => ?_⟩⟩
    have := cut_len _ i hi
    rw [← ht, e] at this
    omega
  · exact ⟨0, 3, hp, .inl rfl⟩
theorem text_some {la lb lc : UInt8} {s0 s1 n : Int} (h0 : 1 ≤ s0) (h1 : 1 ≤ s1) (hn : 0 ≤ n) : 1 ≤ (textL ⟨#[la]⟩ ⟨#[lb]⟩ ⟨#[lc]⟩ s0 s1 n).length := by
  unfold textL
  split
  · simp
  · rename_i hz
    have h2 : wordsTo ⟨#[la]⟩ ⟨#[lb]⟩ ⟨#[lc]⟩ s0 s1 n 3 ≠ [] := fun h => hz ((words_none h0 h1 hn).1 h)
    have h3 : Lib.join (wordsTo ⟨#[la]⟩ ⟨#[lb]⟩ ⟨#[lc]⟩ s0 s1 n 3) [32] ≠ [] := fun h => h2 ((join_empty (words_some _ _ _ _ _ _ _)).1 h)
    have := List.length_pos_iff.2 h3
    omega

set_option maxRecDepth 100000 in
set_option maxHeartbeats 6400000 in
theorem rodTexts_any (v at_ : Int) (v0 : 0 ≤ v) (v1 : v ≤ 4294967295) (a0 : 0 ≤ at_) (a1 : at_ ≤ 255) (w : World) (he : Errs w) (hu : Units w) (hl : w.var? Tryd.prog "sedge/rod.lengthUnits" = some lengthCells) :
    Gives Tryd.prog 12 #[.int .u32 v, .int .u8 at_] w (.bool true) := by
  have Hu := Lib.hid hu
  have He := Lib.hid he
  have Hl := Lib.hid hl
  clear hu hl he
  have n0 : 0 ≤ v % 1000000001 := Int.emod_nonneg _ (by omega)
  have n1 : v % 1000000001 ≤ 1000000000 := by omega
  have hF : formatT aB rB pB 160 40 (v % 1000000001) = textL ⟨#[97]⟩ ⟨#[114]⟩ ⟨#[112]⟩ 160 40 (v % 1000000001) := by unfold formatT; rw [if_pos ⟨n0, n1⟩]; rfl
  have hG : formatT fB cB lB 1000 100 (v % 1000000001) = textL ⟨#[102]⟩ ⟨#[99]⟩ ⟨#[108]⟩ 1000 100 (v % 1000000001) := by unfold formatT; rw [if_pos ⟨n0, n1⟩]; rfl
  have hE : formatE (v % 1000000001) = 0 := by unfold formatE; rw [if_pos ⟨n0, n1⟩]
  have C1 : Hid (∀ w', Below w.heap.size w w' → Gives Tryd.prog 16 #[.int .i64 (v % 1000000001)] w' (.tuple #[.string ⟨(textL ⟨#[97]⟩ ⟨#[114]⟩ ⟨#[112]⟩ 160 40 (v % 1000000001)).toArray⟩, .int .i64 0])) := fun w' hb => by
    have := formatArea_any (v % 1000000001) w' (Hu.out.below hb).tab (Hu.out.below hb).area
    rw [hF, hE] at this
    exact this
  have C2 : Hid (∀ w', Below w.heap.size w w' → Gives Tryd.prog 18 #[.int .i64 (v % 1000000001)] w' (.tuple #[.string ⟨(textL ⟨#[102]⟩ ⟨#[99]⟩ ⟨#[108]⟩ 1000 100 (v % 1000000001)).toArray⟩, .int .i64 0])) := fun w' hb => by
    have := formatLength_any (v % 1000000001) w' (Hu.out.below hb).tab (length_below Hl.out hb)
    rw [hG, hE] at this
    exact this
  have PA : Hid (∀ x : List UInt8, x.length ≤ 1000000 → ∀ w', Below w.heap.size w w' → Gives Tryd.prog 21 #[.string ⟨x.toArray⟩] w' (parseV 97 114 112 160 40 x)) := fun x hx w' hb => parseArea_any x w' hx (He.out.below hb) (Hu.out.below hb)
  have PL : Hid (∀ x : List UInt8, x.length ≤ 1000000 → ∀ w', Below w.heap.size w w' → Gives Tryd.prog 23 #[.string ⟨x.toArray⟩] w' (parseV 102 99 108 1000 100 x)) := fun x hx w' hb => parseLength_any x w' hx (He.out.below hb) (Hu.out.below hb) (length_below Hl.out hb)
  have t1 := parse_text (s0 := 160) (s1 := 40) lets_area (by omega) (by omega) n0 n1
  have t2 := parse_text (s0 := 1000) (s1 := 100) lets_length (by omega) (by omega) n0 n1
  have s1 := text_some (la := 97) (lb := 114) (lc := 112) (s0 := 160) (s1 := 40) (by omega) (by omega) n0
  have s2 := text_some (la := 102) (lb := 99) (lc := 108) (s0 := 1000) (s1 := 100) (by omega) (by omega) n0
  have l1 := text_short (la := 97) (lb := 114) (lc := 112) (s0 := 160) (s1 := 40) (by omega) (by omega) n0 n1
  have l2 := text_short (la := 102) (lb := 99) (lc := 108) (s0 := 1000) (s1 := 100) (by omega) (by omega) n0 n1
  have hw1 : ∀ i : Nat, i < (textL ⟨#[97]⟩ ⟨#[114]⟩ ⟨#[112]⟩ 160 40 (v % 1000000001)).length → _ := fun i hi => parse_without (la := 97) (lb := 114) (lc := 112) (s0 := 160) (s1 := 40) (by omega) (by omega) (n := v % 1000000001) (i := i) hi
  have hw2 : ∀ i : Nat, i < (textL ⟨#[102]⟩ ⟨#[99]⟩ ⟨#[108]⟩ 1000 100 (v % 1000000001)).length → _ := fun i hi => parse_without (la := 102) (lb := 99) (lc := 108) (s0 := 1000) (s1 := 100) (by omega) (by omega) (n := v % 1000000001) (i := i) hi
  generalize textL ⟨#[97]⟩ ⟨#[114]⟩ ⟨#[112]⟩ 160 40 (v % 1000000001) = x1 at *
  generalize textL ⟨#[102]⟩ ⟨#[99]⟩ ⟨#[108]⟩ 1000 100 (v % 1000000001) = x2 at *
  have D1 : Hid (∀ w', Below w.heap.size w w' → Gives Tryd.prog 21 #[.string ⟨x1.toArray⟩] w' (.tuple #[.int .i64 (v % 1000000001), .int .i64 0])) := fun w' hb => t1 ▸ PA.out x1 (by omega) w' hb
  have D2 : Hid (∀ w', Below w.heap.size w w' → Gives Tryd.prog 23 #[.string ⟨x2.toArray⟩] w' (.tuple #[.int .i64 (v % 1000000001), .int .i64 0])) := fun w' hb => t2 ▸ PL.out x2 (by omega) w' hb
  obtain ⟨i, hi⟩ : ∃ i : Nat, at_ % (x1.length : Int) = i := ⟨(at_ % (x1.length : Int)).toNat, by have := Int.emod_nonneg at_ (show (x1.length : Int) ≠ 0 by omega); omega⟩
  obtain ⟨k, hk⟩ : ∃ i : Nat, at_ % (x2.length : Int) = i := ⟨(at_ % (x2.length : Int)).toNat, by have := Int.emod_nonneg at_ (show (x2.length : Int) ≠ 0 by omega); omega⟩
  have hi2 : i < x1.length := by have := Int.emod_lt_of_pos at_ (show (0 : Int) < x1.length by omega); omega
  have hk2 : k < x2.length := by have := Int.emod_lt_of_pos at_ (show (0 : Int) < x2.length by omega); omega
  obtain ⟨m1, f1, p1, q1⟩ := hw1 i hi2
  obtain ⟨m2, f2, p2, q2⟩ := hw2 k hk2
  have E1 : Hid (∀ w', Below w.heap.size w w' → Gives Tryd.prog 21 #[.string ⟨(x1.take i ++ x1.drop (i + 1)).toArray⟩] w' (.tuple #[.int .i64 m1, .int .i64 f1])) := fun w' hb => p1 ▸ PA.out _ (by simp; omega) w' hb
  have E2 : Hid (∀ w', Below w.heap.size w w' → Gives Tryd.prog 23 #[.string ⟨(x2.take k ++ x2.drop (k + 1)).toArray⟩] w' (.tuple #[.int .i64 m2, .int .i64 f2])) := fun w' hb => p2 ▸ PL.out _ (by simp; omega) w' hb
  have u1 := bytes_take x1 i
  have u2 := bytes_drop x1 (i + 1) (by omega)
  have u3 := bytes_take x2 k
  have u4 := bytes_drop x2 (k + 1) (by omega)
  have u5 := cat_two (x1.take i) (x1.drop (i + 1))
  have u6 := cat_two (x2.take k) (x2.drop (k + 1))
  clear hw1 hw2 t1 t2 PA PL hF hG hE p1 p2
  generalize hX1 : x1.take i ++ x1.drop (i + 1) = y1 at *
  generalize hX2 : x2.take k ++ x2.drop (k + 1) = y2 at *
  clear hX1 hX2
  obtain ⟨n, hN⟩ : ∃ n : Int, v % 1000000001 = n := ⟨_, rfl⟩
  rw [hN] at C1 C2 D1 D2 q1 q2 n0 n1
  have e1 : at_.tmod (x1.length : Int) = (i : Int) := by rw [Int.tmod_eq_emod_of_nonneg a0]; exact hi
  have e2 : at_.tmod (x2.length : Int) = (k : Int) := by rw [Int.tmod_eq_emod_of_nonneg a0]; exact hk
  have w1 : IntKind.i64.wrap ((i : Int) + 1) = (i : Int) + 1 := IntWalk.i64_in _ (by omega)
  have w2 : IntKind.i64.wrap ((k : Int) + 1) = (k : Int) + 1 := IntWalk.i64_in _ (by omega)
  have z1 : ((x1.length : Int) == 0) = false := beq_eq_false_iff_ne.2 (by omega)
  have z2 : ((x2.length : Int) == 0) = false := beq_eq_false_iff_ne.2 (by omega)
  have z3 : x1 ≠ [] := fun e => by rw [e] at s1; simp at s1
  have z4 : x2 ≠ [] := fun e => by rw [e] at s2; simp at s2
  have HW1 := Lib.hid w1
  have HW2 := Lib.hid w2
  have HE1 := Lib.hid e1
  have HE2 := Lib.hid e2
  have U1 := Lib.hid u1
  have U2 := Lib.hid u2
  have U3 := Lib.hid u3
  have U4 := Lib.hid u4
  have U5 := Lib.hid u5
  have U6 := Lib.hid u6
  have Q1 := Lib.hid q1
  have Q2 := Lib.hid q2
  clear w1 w2 e1 e2 hi hk u1 u2 u3 u4 u5 u6 q1 q2
  go_enter Tryd.func12, Tryd.ntmps12
  go_wp2_with (first | (go_at_call 16; refine Calls.mono (C1.out _ (by repeat (first | exact Below.refl _ _ | (with_reducible assumption) | apply below_later | apply below_alloc | apply below_drew | apply below_drewN))).calls ?_; rintro e w1 ⟨rfl, y1, rfl⟩) | (go_at_call 18; refine Calls.mono (C2.out _ (by repeat (first | exact Below.refl _ _ | (with_reducible assumption) | apply below_later | apply below_alloc | apply below_drew | apply below_drewN))).calls ?_; rintro e w1 ⟨rfl, y2, rfl⟩) | (go_at_call 21; refine Calls.mono (D1.out _ (by repeat (first | exact Below.refl _ _ | (with_reducible assumption) | apply below_later | apply below_alloc | apply below_drew | apply below_drewN))).calls ?_; rintro e w1 ⟨rfl, y3, rfl⟩) | (go_at_call 23; refine Calls.mono (D2.out _ (by repeat (first | exact Below.refl _ _ | (with_reducible assumption) | apply below_later | apply below_alloc | apply below_drew | apply below_drewN))).calls ?_; rintro e w1 ⟨rfl, y4, rfl⟩))
  have e1 := HE1.out
  have e2 := HE2.out
  first | (with_reducible show Code.wp _ _ _ _ (Later.val _); refine wp_region_later_at _ (by kernel_rfl) (by kernel_rfl) ?_) | refine wp_region_later (by kernel_rfl) (by kernel_rfl) ?_
  repeat (go_big_quiet_step ((fail)))
  refine wpQuiet_nil ?_
  intro y5
  clear e1 e2
  have w1 := HW1.out
  have w2 := HW2.out
  have u1 := U1.out
  have u2 := U2.out
  have u3 := U3.out
  have u4 := U4.out
  have u5 := U5.out
  have u6 := U6.out
  go_wp2
  first | (with_reducible show Code.wp _ _ _ _ (Later.val _); refine wp_region_later_at _ (by kernel_rfl) (by kernel_rfl) ?_) | refine wp_region_later (by kernel_rfl) (by kernel_rfl) ?_
  repeat (go_big_quiet_step ((first | ((go_at_call 21; (with_reducible refine Later.call _ (E1.out _ (by repeat (first | exact Below.refl _ _ | (with_reducible assumption) | apply below_later | apply below_alloc | apply below_drew | apply below_drewN)))))))))
  refine wpQuiet_nil ?_
  intro y6
  go_wp2
  first | (with_reducible show Code.wp _ _ _ _ (Later.val _); refine wp_region_later_at _ (by kernel_rfl) (by kernel_rfl) ?_) | refine wp_region_later (by kernel_rfl) (by kernel_rfl) ?_
  repeat (go_big_quiet_step ((first | ((go_at_call 23; (with_reducible refine Later.call _ (E2.out _ (by repeat (first | exact Below.refl _ _ | (with_reducible assumption) | apply below_later | apply below_alloc | apply below_drew | apply below_drewN)))))))))
  refine wpQuiet_nil ?_
  intro y7
  have F : Hid (∀ w', Below w.heap.size w w' → Gives Tryd.prog 20 #[] w' (.bool true)) := fun w' hb => first_any _ (Hu.out.below hb)
  clear w1 w2 u1 u2 u3 u4 u5 u6
  rcases Q1.out with h1 | ⟨h1, g1⟩
  all_goals
    subst h1
    rcases Q2.out with h2 | ⟨h2, g2⟩
    all_goals
      subst h2
      first
        | (have r1 : (m1 != n) = true := bne_iff_ne.2 g1; have r2 : (m2 != n) = true := bne_iff_ne.2 g2; clear g1 g2)
        | (have r1 : (m1 != n) = true := bne_iff_ne.2 g1; clear g1)
        | (have r2 : (m2 != n) = true := bne_iff_ne.2 g2; clear g2)
        | skip
      go_wp2_with (go_at_call 20; refine Calls.mono (F.out _ (by repeat (first | exact Below.refl _ _ | (with_reducible assumption) | apply below_later | apply below_alloc | apply below_drew | apply below_drewN))).calls ?_; rintro e w1 ⟨rfl, y8, rfl⟩)
      go_ret
      exact ⟨rfl, later_of (by repeat (first | exact Below.refl _ _ | (with_reducible assumption) | apply below_later | apply below_alloc | apply below_drew | apply below_drewN))⟩
end Go.Proofs.YticjjikodignfaaDoor
