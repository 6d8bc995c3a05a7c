/- The document's own text of a number in three units is the joined one. -/
import Derived.Test.YticjjikodignfaaDoorText
namespace Go.Proofs.YticjjikodignfaaDoor
open Go.RowKit

theorem text_next {la lb lc : UInt8} {s0 s1 n : Int} {k : Nat} {l : UInt8} {s : Int} (e : wordsTo (bA la) (bA lb) (bA lc) s0 s1 n (k + 1) = wordsTo (bA la) (bA lb) (bA lc) s0 s1 n k ++ word (bA l) s (restOf s0 s1 n k)) :
    (¬ s ≤ restOf s0 s1 n k → soFar la lb lc s0 s1 n (k + 1) = soFar la lb lc s0 s1 n k) ∧
    (s ≤ restOf s0 s1 n k → soFar la lb lc s0 s1 n (k + 1) = if soFar la lb lc s0 s1 n k = [] then Lib.itoa (restOf s0 s1 n k / s) ++ [l] else soFar la lb lc s0 s1 n k ++ [32] ++ (Lib.itoa (restOf s0 s1 n k / s) ++ [l])) := by
  constructor
  · intro h
    unfold soFar
    rw [e, word, if_neg h, List.append_nil]
  · intro h
    have ej : soFar la lb lc s0 s1 n (k + 1) = Lib.join (wordsTo (bA la) (bA lb) (bA lc) s0 s1 n k ++ [Lib.itoa (restOf s0 s1 n k / s) ++ [l]]) [32] := by
      unfold soFar
      rw [e, word, if_pos h]
      rfl
    rw [ej, join_snoc]
    by_cases hn : wordsTo (bA la) (bA lb) (bA lc) s0 s1 n k = []
    · rw [if_pos hn, if_pos (soFar_nil.2 hn)]
    · rw [if_neg hn, if_neg (fun h => hn (soFar_nil.1 h))]
      rfl
theorem soFar_len (la lb lc : UInt8) (s0 s1 n : Int) (h0 : 1 ≤ s0) (h1 : 1 ≤ s1) (g0 : s0 ≤ 100000) (g1 : s1 ≤ 100000) (hn : 0 ≤ n) (gn : n ≤ 1000000000) : ∀ k, k ≤ 3 → (soFar la lb lc s0 s1 n k).length ≤ 24 * k
  | 0, _ => by simp [soFar, wordsTo, Lib.join_nil]
  | k + 1, hk => by
    have ih := soFar_len la lb lc s0 s1 n h0 h1 g0 g1 hn gn k (by omega)
    obtain ⟨l, s, h1', h2', _, _, _, ew⟩ := text_at la lb lc s0 s1 n h0 h1 g0 g1 k (by omega)
    obtain ⟨t1, t2⟩ := text_next ew
    have hr := rest_bd (s0 := s0) (s1 := s1) (n := n) h0 h1 hn gn k
    by_cases hs : s ≤ restOf s0 s1 n k
    · have d1 : 0 ≤ restOf s0 s1 n k / s := Int.ediv_nonneg (by omega) (by omega)
      have d2 : restOf s0 s1 n k / s ≤ restOf s0 s1 n k := Int.ediv_le_self _ (by omega)
      have d3 := Lib.itoa_length_le (restOf s0 s1 n k / s) (by omega) (by omega)
      rw [t2 hs]
      split
      · simp; omega
      · simp; omega
    · rw [t1 hs]
      omega
theorem cat_one (a : List UInt8) (b : UInt8) : (⟨a.toArray⟩ ++ ⟨#[b]⟩ : ByteArray) = ⟨(a ++ [b]).toArray⟩ := by
  apply ByteArray.ext
  simp [ByteArray.data_append]
theorem cat_two (a b : List UInt8) : (⟨a.toArray⟩ ++ ⟨b.toArray⟩ : ByteArray) = ⟨(a ++ b).toArray⟩ := by
  apply ByteArray.ext
  simp [ByteArray.data_append]

set_option maxRecDepth 100000 in
set_option maxHeartbeats 1600000 in
theorem text_any (la lb lc : UInt8) (s0 s1 n : Int) (w : World) (h0 : 1 ≤ s0) (h1 : 1 ≤ s1) (g0 : s0 ≤ 100000) (g1 : s1 ≤ 100000) (hn : 0 ≤ n) (gn : n ≤ 1000000000) :
    Gives Tryd.prog 89 #[.int .i64 n, .int .i64 s0, .int .i64 s1, .string ⟨#[la, lb, lc]⟩] w (strV (textL (bA la) (bA lb) (bA lc) s0 s1 n)) := by
  have Hu := Lib.hid (fun k hk => text_at la lb lc s0 s1 n h0 h1 g0 g1 k hk)
  have Hr := Lib.hid (rest_bd (s0 := s0) (s1 := s1) (n := n) h0 h1 hn gn)
  have Hl := Lib.hid (soFar_len la lb lc s0 s1 n h0 h1 g0 g1 hn gn)
  have Hz := Lib.hid (words_none (la := bA la) (lb := bA lb) (lc := bA lc) h0 h1 hn)
  go_enter Tryd.func89, Tryd.ntmps89
  go_wp2
  go_loopw [0, 10, 11] (fun m v i wr => ∃ k : Nat, k ≤ 3 ∧ i = .int .i64 k ∧ m = .int .i64 (restOf s0 s1 n k) ∧ v = .string ⟨(soFar la lb lc s0 s1 n k).toArray⟩ ∧ ∃ x : Later (w.alloc (.cells #[.int .i64 s0, .int .i64 s1, .int .i64 1] 3)), wr = x.val) (fun _ _ i _ => 3 - (intOf i).toNat)
  case atStart => exact ⟨0, by omega, rfl, rfl, rfl, later_of (by repeat (first | exact Below.refl _ _ | (with_reducible assumption) | apply below_later | apply below_alloc | apply below_drew | apply below_drewN))⟩
  case round =>
    obtain ⟨k, hk, rfl, rfl, rfl, x, rfl⟩ := hrel
    have hL := Hl.out k hk
    by_cases hlt : k < 3
    · obtain ⟨l, s, q1, q2, hc, hx, er, ew⟩ := Hu.out k hlt
      have hc1 : x.val.cell? ⟨w.heap.size, k, none⟩ = some (.int .i64 s) := by rw [x.cell _ _ (by simp)]; exact hc w
      obtain ⟨r1, r2⟩ := Hr.out k
      obtain ⟨t1, t2⟩ := text_next ew
      have T1 := Lib.hid t1
      have T2 := Lib.hid t2
      have Er := Lib.hid er
      have Hx := Lib.hid hx
      clear t1 t2 er ew hc hx
      generalize hq : restOf s0 s1 n k = q at *
      generalize hS : soFar la lb lc s0 s1 n k = S at *
      have Hq := Lib.hid hq
      have HS := Lib.hid hS
      clear hq hS
      have d1 : 0 ≤ q / s := Int.ediv_nonneg (by omega) (by omega)
      have d2 : q / s ≤ q := Int.ediv_le_self _ (by omega)
      have d3 : q / s * s ≤ q := Int.ediv_mul_le _ (by omega)
      have d4 : 0 ≤ q / s * s := Int.mul_nonneg d1 (by omega)
      have d5 : q - q / s * s = q % s := by rw [Int.emod_def, Int.mul_comm]
      have D5 := Lib.hid d5
      clear d5
      by_cases hs : s ≤ q
      · have d6 : 1 ≤ q / s := by
          have := Int.ediv_le_ediv (by omega : 0 < s) hs
          rw [Int.ediv_self (by omega)] at this
          exact this
        have D6 : ((q / s) == 0) = false := by simp; omega
        have Ed := Lib.hid (dec_itoa d1)
        have CD : Hid (∀ w, Gives Tryd.prog 106 #[.int .i64 (q / s)] w (.string ⟨(Lib.itoa (q / s)).toArray⟩)) := fun w => by
          have h := dec_any (q / s).toNat (q / s).toNat w (Nat.le_refl _) (by omega)
          rw [show ((q / s).toNat : Int) = q / s by omega, Ed.out] at h
          exact h
        have hI := Lib.itoa_length_le (q / s) (by omega) (by omega)
        have T := Lib.hid (T2.out hs)
        have hx := Hx.out
        clear d6 T1 T2 Hx
        generalize Lib.itoa (q / s) = I at *
        rcases S with _ | ⟨c, S⟩
        · go_wp2
          first | (with_reducible show Code.wp _ _ _ _ (Later.val _); refine wp_region_later_at _ (by kernel_rfl) (by kernel_rfl) ?_) | refine wp_region_later (by kernel_rfl) (by kernel_rfl) ?_
          repeat (go_big_quiet_step ((first | ((go_at_call 106; (with_reducible refine Later.call _ (CD.out _)))))))
          refine wpQuiet_nil ?_
          intro y
          go_wp2
          go_roundw
          case rel => exact ⟨k + 1, by omega, by go_num, congrArg (Value.int .i64) (D5.out.trans Er.out.symm), by rw [T.out, if_pos (by trivial)]; show Value.string (⟨[].toArray⟩ ++ (⟨I.toArray⟩ ++ ⟨#[l]⟩)) = _; rw [cat_one, cat_two]; rfl, later_of (by repeat (first | exact Below.refl _ _ | (with_reducible assumption) | apply below_later | apply below_alloc | apply below_drew | apply below_drewN))⟩
          case measure => simp [intOf]; omega
        · have E1 : (⟨(c :: S).toArray⟩ ++ ⟨#[32]⟩ : ByteArray) = ⟨(c :: (S ++ [32])).toArray⟩ := cat_one _ _
          have E2 : (⟨I.toArray⟩ ++ ⟨#[l]⟩ : ByteArray) = ⟨(I ++ [l]).toArray⟩ := cat_one _ _
          simp only [List.length_cons] at hL
          go_wp2
          first | (with_reducible show Code.wp _ _ _ _ (Later.val _); refine wp_region_later_at _ (by kernel_rfl) (by kernel_rfl) ?_) | refine wp_region_later (by kernel_rfl) (by kernel_rfl) ?_
          repeat (go_big_quiet_step ((first | ((go_at_call 106; (with_reducible refine Later.call _ (CD.out _)))))))
          refine wpQuiet_nil ?_
          intro y
          go_wp2
          go_roundw
          case rel => exact ⟨k + 1, by omega, by go_num, congrArg (Value.int .i64) (D5.out.trans Er.out.symm), by rw [T.out, if_neg (by simp)]; show Value.string (⟨(c :: (S ++ [32])).toArray⟩ ++ ⟨(I ++ [l]).toArray⟩) = _; rw [cat_two]; rfl, later_of (by repeat (first | exact Below.refl _ _ | (with_reducible assumption) | apply below_later | apply below_alloc | apply below_drew | apply below_drewN))⟩
          case measure => simp [intOf]; omega
      · have d6 : q / s = 0 := Int.ediv_eq_zero_of_lt (by omega) (by omega)
        have D6 : ((q / s) == 0) = true := by simp [d6]
        have T := Lib.hid (T1.out hs)
        clear d6 T1 T2
        go_wp2
        go_roundw
        case rel => exact ⟨k + 1, by omega, by go_num, congrArg (Value.int .i64) (D5.out.trans Er.out.symm), by rw [T.out], later_of (by repeat (first | exact Below.refl _ _ | (with_reducible assumption) | apply below_later | apply below_alloc | apply below_drew | apply below_drewN))⟩
        case measure => simp [intOf]; omega
    · obtain rfl : k = 3 := by omega
      have hz := Lib.hid (soFar_nil (la := la) (lb := lb) (lc := lc) (s0 := s0) (s1 := s1) (n := n) (k := 3))
      have ht : Hid (textL (bA la) (bA lb) (bA lc) s0 s1 n = if n = 0 then [48, lc] else soFar la lb lc s0 s1 n 3) := rfl
      generalize hS : soFar la lb lc s0 s1 n 3 = S at *
      have HS := Lib.hid hS
      clear hS
      have ex : (⟨#[la, lb, lc]⟩ : ByteArray).extract 2 3 = ⟨#[lc]⟩ := by apply ByteArray.ext; rw [ByteArray.data_extract]; simp
      rcases S with _ | ⟨c, S⟩
      · have e0 := Lib.hid (Hz.out.1 (hz.out.1 rfl))
        go_wp2
        go_ret
        exact ⟨by rw [ht.out, if_pos e0.out]; rfl, later_of (by repeat (first | exact Below.refl _ _ | (with_reducible assumption) | apply below_later | apply below_alloc | apply below_drew | apply below_drewN))⟩
      · have e0 : Hid (¬ n = 0) := fun h => by have := hz.out.2 (Hz.out.2 h); cases this
        go_wp2
        go_ret
        exact ⟨by rw [ht.out, if_neg e0.out]; rfl, later_of (by repeat (first | exact Below.refl _ _ | (with_reducible assumption) | apply below_later | apply below_alloc | apply below_drew | apply below_drewN))⟩
end Go.Proofs.YticjjikodignfaaDoor
