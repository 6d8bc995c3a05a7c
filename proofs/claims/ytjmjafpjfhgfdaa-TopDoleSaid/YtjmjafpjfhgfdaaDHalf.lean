/- dole's side, parts, halve: walked. -/
import Derived.Test.YtjmjafpjfhgfdaaDSum
import Derived.Laws.BitsLemmas
namespace Go.Proofs.Ytjmjafpjfhgfdaa
open Go.RowKit

theorem and_one (x : Nat) (hx : x ≤ 4096) : bits .and .i64 (x : Int) 1 = ((x % 2 : Nat) : Int) := by
  have h := (bits_nat .i64 62 (by decide) (fun n h0 h1 => IntWalk.i64_in n ⟨by omega, by omega⟩) x 1 (by omega) (by decide)).1
  rw [Nat.and_one_is_mod] at h
  simpa using h
theorem shr_cast (s e : Nat) : (s : Int) / 2 ^ e = ((s / 2 ^ e : Nat) : Int) := by
  rw [Int.natCast_ediv, Int.natCast_pow]
  rfl
theorem side_eq (n s j : Nat) (hs : s ≤ 4096) : bits .and .i64 ((s : Int) / 2 ^ (n - 1 - j)) 1 = (bitN n s j : Nat) := by
  rw [shr_cast, and_one _ (Nat.le_trans (Nat.div_le_self _ _) hs)]
  rfl
set_option maxRecDepth 100000 in
theorem side_any (s j n : Nat) (w : World) (hn : n ≤ 12) (hj : j < n) (hs : s ≤ 4096) : Gives Try.prog 67 #[.int .i64 (s : Nat), .int .i64 (j : Nat), .int .i64 (n : Nat)] w (.int .i64 (bitN n s j : Nat)) := by
  have w1 : IntKind.i64.wrap ((n : Int) - 1) = ((n - 1 : Nat) : Int) := by
    rw [show ((n : Int) - 1) = ((n - 1 : Nat) : Int) by omega]
    exact IntWalk.i64_in _ ⟨by omega, by omega⟩
  have w2 : IntKind.i64.wrap (((n - 1 : Nat) : Int) - (j : Int)) = ((n - 1 - j : Nat) : Int) := by
    rw [show (((n - 1 : Nat) : Int) - (j : Int)) = ((n - 1 - j : Nat) : Int) by omega]
    exact IntWalk.i64_in _ ⟨by omega, by omega⟩
  go_enter Try.func67, Try.ntmps67
  go_wp2
  go_ret
  exact ⟨ret_int (side_eq n s j hs), later_of (by repeat (first | exact Below.refl _ _ | (with_reducible assumption) | apply below_later | apply below_alloc | apply below_drew | apply below_drewN))⟩
theorem box_put {w : World} {b j : Nat} {cs : Array Value} {t : TypeId} {v : Value} (h : w.heap[b]? = some (.cells cs t (0, 0))) : (w.setCell ⟨b, j, none⟩ v).heap[b]? = some (.cells (cs.setIfInBounds j v) t (0, 0)) := by
  simp [World.setCell, Array.getElem?_modify, h]
theorem box_two {w : World} {b : Nat} {u v : Value} {t : TypeId} (h : w.heap[b]? = some (.cells #[u, v] t (0, 0))) : w.cell? ⟨b, 0, none⟩ = some u ∧ w.cell? ⟨b, 1, none⟩ = some v ∧ w.frozen? ⟨b, 0, none⟩ = false ∧ w.frozen? ⟨b, 1, none⟩ = false ∧ b < w.heap.size :=
  ⟨cell_of_heap h 0 _ rfl, cell_of_heap h 1 _ rfl, by simp [World.frozen?, h], by simp [World.frozen?, h], get_lt h⟩
/-- The boxes of parts: the result's, and the sums. -/
structure PB (w V : World) (b4 b5 : Nat) (p0 p1 : Int) : Prop where
  below : Below w.heap.size w V
  x4 : V.heap[b4]? = some (.cells #[.int .i64 0, .int .i64 0] 44 (0, 0))
  x5 : V.heap[b5]? = some (.cells #[.int .i64 p0, .int .i64 p1] 44 (0, 0))
  n45 : b4 < b5
  n4 : w.heap.size ≤ b4
theorem PB.later {w V V' : World} {b4 b5 : Nat} {p0 p1 : Int} (h : PB w V b4 b5 p0 p1) (hb : Below V.heap.size V V') : PB w V' b4 b5 p0 p1 :=
  ⟨below_more h.below hb, (hb.block _ (get_lt h.x4)).trans h.x4, (hb.block _ (get_lt h.x5)).trans h.x5, h.n45, h.n4⟩
theorem PB.put0 {w V : World} {b4 b5 : Nat} {p0 p1 x : Int} (h : PB w V b4 b5 p0 p1) : PB w (V.setCell ⟨b5, 0, none⟩ (.int .i64 x)) b4 b5 x p1 :=
  ⟨h.below.setCell (p := ⟨b5, 0, none⟩) (by have := h.n45; have := h.n4; show _ ≤ b5; omega) _, box_far h.x4 (by have := h.n45; show b5 ≠ b4; omega), box_put h.x5, h.n45, h.n4⟩
theorem PB.put1 {w V : World} {b4 b5 : Nat} {p0 p1 x : Int} (h : PB w V b4 b5 p0 p1) : PB w (V.setCell ⟨b5, 1, none⟩ (.int .i64 x)) b4 b5 p0 x :=
  ⟨h.below.setCell (p := ⟨b5, 1, none⟩) (by have := h.n45; have := h.n4; show _ ≤ b5; omega) _, box_far h.x4 (by have := h.n45; show b5 ≠ b4; omega), box_put h.x5, h.n45, h.n4⟩
theorem ptN_succ (f : Nat → Int) (b : Nat → Nat) (x j : Nat) : ptN f b x (j + 1) = if b j = x then ptN f b x j + f j else ptN f b x j := rfl
set_option maxRecDepth 100000 in
set_option maxHeartbeats 1600000 in
theorem parts_any (n cap s : Nat) (B : Option Addr) (f : Nat → Int) (w : World) (hn : n ≤ 12) (hs : s ≤ 4096) (hv : ∀ j, j < n → 0 ≤ f j ∧ f j ≤ 1000) (hp : IsInts w B n f) :
    Gives Try.prog 68 #[.slice B n cap, .int .i64 (s : Nat)] w (.agg #[.int .i64 (ptN f (bitN n s) 0 n), .int .i64 (ptN f (bitN n s) 1 n)]) := by
  have HP := Lib.hid hp
  have HV := Lib.hid hv
  have SD := Lib.hid fun (j : Nat) (V : World) (hj : j < n) => side_any s j n V hn hj hs
  have BT := Lib.hid fun j => bit_lt n s j
  have S0 := Lib.hid fun j => ptN_succ f (bitN n s) 0 j
  have S1 := Lib.hid fun j => ptN_succ f (bitN n s) 1 j
  have Z0 : Hid (ptN f (bitN n s) 0 0 = 0 ∧ ptN f (bitN n s) 1 0 = 0) := ⟨rfl, rfl⟩
  have B0 := Lib.hid fun j (h : j ≤ n) => ptN_bd (f := f) (b := bitN n s) (x := 0) (m := j) fun i hi => hv i (by omega)
  have B1 := Lib.hid fun j (h : j ≤ n) => ptN_bd (f := f) (b := bitN n s) (x := 1) (m := j) fun i hi => hv i (by omega)
  generalize ptN f (bitN n s) 0 = T0 at *
  generalize ptN f (bitN n s) 1 = T1 at *
  generalize bitN n s = b at *
  clear hp hv
  go_enter Try.func68, Try.ntmps68
  go_wp2
  have PB0 : Hid (PB w ((w.alloc (.cells #[.int .i64 0, .int .i64 0] 44)).alloc (.cells #[.int .i64 0, .int .i64 0] 44)) w.heap.size (w.heap.size + 1) (T0 0) (T1 0)) := by
    refine ⟨below_alloc (below_alloc (Below.refl _ _)), ?_, ?_, by omega, Nat.le_refl _⟩
    · exact (Below.heap_alloc _ _ _ (by simp)).trans (World.alloc_heap_new _ _)
    · have h := World.alloc_heap_new (w.alloc (.cells #[.int .i64 0, .int .i64 0] 44)) (.cells #[.int .i64 0, .int .i64 0] 44)
      rw [World.size_alloc] at h
      rw [Z0.out.1, Z0.out.2]
      exact h
  obtain ⟨b4, hb4⟩ : ∃ b4, w.heap.size = b4 := ⟨_, rfl⟩
  obtain ⟨b5, hb5⟩ : ∃ b5, b4 + 1 = b5 := ⟨_, rfl⟩
  rw [hb4, hb5] at PB0 ⊢
  clear hb4 hb5
  generalize (w.alloc (.cells #[.int .i64 0, .int .i64 0] 44)).alloc (.cells #[.int .i64 0, .int .i64 0] 44) = Z at *
  go_loopw [10] (fun v wr => ∃ j : Nat, v = .int .i64 (j : Nat) ∧ j ≤ n ∧ PB w wr b4 b5 (T0 j) (T1 j)) (fun v _ => n - (intOf v).toNat)
  case atStart => exact ⟨0, rfl, by omega, PB0.out⟩
  case round =>
    obtain ⟨j, rfl, hj, pb⟩ := hrel
    have PBJ := Lib.hid pb
    clear PB0 pb
    by_cases hlt : j < n
    · obtain ⟨bb, oo, hB, q⟩ := (HP.out.below PBJ.out.below).at_ (by omega)
      subst hB
      have cj := q.at_ j hlt
      have lq := q.lt
      have SD1 := Lib.hid fun V => SD.out j V hlt
      obtain ⟨b0, b1⟩ := B0.out j (by omega)
      obtain ⟨b2, b3⟩ := B1.out j (by omega)
      obtain ⟨v0, v1⟩ := HV.out j hlt
      have PBV : Hid (∀ z : Later wr, PB w z.val b4 b5 (T0 j) (T1 j)) := fun z => PBJ.out.later z.ok
      have S0j := Lib.hid (S0.out j)
      have S1j := Lib.hid (S1.out j)
      clear q
      rcases BT.out j with hb | hb
      · rw [hb] at SD1
        have H0 : Hid (T0 (j + 1) = T0 j + f j) := by show _ = _; rw [S0j.out, if_pos hb]
        have H1 : Hid (T1 (j + 1) = T1 j) := by show _ = _; rw [S1j.out, if_neg (by omega)]
        clear hb S0j S1j
        generalize T0 j = t0 at *
        generalize T1 j = t1 at *
        generalize f j = y at *
        go_wp2_with ((go_at_call 67; with_reducible refine Calls.mono (Gives.calls (SD1.out _)) ?_; rintro e w1 ⟨rfl, z, rfl⟩); obtain ⟨q0, q1, q2, q3, q4⟩ := box_two (PBV.out z).x5)
        go_roundw
        case rel => exact ⟨j + 1, by go_num, by omega, by rw [H0.out, H1.out]; exact (PBV.out z).put0⟩
        case measure => simp [intOf]; omega
      · rw [hb] at SD1
        have H0 : Hid (T0 (j + 1) = T0 j) := by show _ = _; rw [S0j.out, if_neg (by omega)]
        have H1 : Hid (T1 (j + 1) = T1 j + f j) := by show _ = _; rw [S1j.out, if_pos hb]
        clear hb S0j S1j
        generalize T0 j = t0 at *
        generalize T1 j = t1 at *
        generalize f j = y at *
        go_wp2_with ((go_at_call 67; with_reducible refine Calls.mono (Gives.calls (SD1.out _)) ?_; rintro e w1 ⟨rfl, z, rfl⟩); obtain ⟨q0, q1, q2, q3, q4⟩ := box_two (PBV.out z).x5)
        go_roundw
        case rel => exact ⟨j + 1, by go_num, by omega, by rw [H0.out, H1.out]; exact (PBV.out z).put1⟩
        case measure => simp [intOf]; omega
    · obtain rfl : j = n := by omega
      obtain ⟨q0, q1, q2, q3, q4⟩ := box_two PBJ.out.x5
      obtain ⟨r0, r1, r2, r3, r4⟩ := box_two PBJ.out.x4
      go_wp2
      refine bodyPost_ret (v := .agg #[.int .i64 (T0 j), .int .i64 (T1 j)]) (by simp [results, Try.results68, go_sem, r0, r1]) rfl ?_
      have hb4 : w.heap.size ≤ b4 := PBJ.out.n4
      exact ⟨rfl, later_of ((PBJ.out.below.setCell (p := ⟨b4, 0, none⟩) hb4 _).setCell (p := ⟨b4, 1, none⟩) hb4 _)⟩
theorem halfP_succ (g : Nat → Int) (s : Nat) : halfP g (s + 1) = if (halfP g s).2 < g s then (s, g s) else halfP g s := rfl
theorem pow_le {n : Nat} (h : n ≤ 12) : 1 ≤ 2 ^ n ∧ 2 ^ n ≤ 4096 := ⟨Nat.one_le_two_pow, Nat.pow_le_pow_right (n := 2) (by decide) h⟩
set_option maxRecDepth 100000 in
set_option maxHeartbeats 1600000 in
theorem halve_any (n cap : Nat) (B : Option Addr) (f : Nat → Int) (w : World) (hn : n ≤ 12) (hv : ∀ j, j < n → 0 ≤ f j ∧ f j ≤ 1000) (hp : IsInts w B n f) :
    Gives Try.prog 66 #[.slice B n cap] w (.tuple #[.int .i64 ((halfP (lesserN f n) (2 ^ n)).1 : Nat), .int .i64 (halfP (lesserN f n) (2 ^ n)).2]) := by
  have PA := Lib.hid fun (s : Nat) (V : World) (hs : s ≤ 4096) (hb : Below w.heap.size w V) => parts_any n cap s B f V hn hs hv (hp.below hb)
  have LE : Hid (∀ s, lesserN f n s = min (ptN f (bitN n s) 0 n) (ptN f (bitN n s) 1 n)) := fun _ => rfl
  have HB := Lib.hid fun s => halfP_bd (g := lesserN f n) (M := 12000) (by decide) (fun s => by have := lesser_bd (s := s) hv; omega) s
  have HS := Lib.hid (halfP_succ (lesserN f n))
  have H0 : Hid (halfP (lesserN f n) 0 = (0, 0)) := rfl
  have hsh : IntKind.i64.wrap (2 ^ n) = ((2 ^ n : Nat) : Int) := by
    have h := pow_le hn
    have e : ((2 : Int) ^ n) = ((2 ^ n : Nat) : Int) := by rw [Int.natCast_pow]; rfl
    rw [e]
    exact IntWalk.i64_in _ ⟨by omega, by omega⟩
  obtain ⟨hM1, hM⟩ := pow_le hn
  generalize hP : halfP (lesserN f n) = P at *
  generalize hL : lesserN f n = L at *
  clear hp hv hP hL
  have hsh2 := hsh
  generalize 2 ^ n = M at *
  go_enter Try.func66, Try.ntmps66
  go_wp2
  go_loopw [2, 3, 10] (fun u2 u3 v wr => ∃ s : Nat, u2 = .int .i64 ((P s).1 : Nat) ∧ u3 = .int .i64 (P s).2 ∧ v = .int .i64 (s : Nat) ∧ s ≤ M ∧ ∃ x : Later w, wr = x.val) (fun _ _ v _ => M - (intOf v).toNat)
  case atStart => exact ⟨0, by rw [H0.out]; rfl, by rw [H0.out], rfl, by omega, later_of (by repeat (first | exact Below.refl _ _ | (with_reducible assumption) | apply below_later | apply below_alloc | apply below_drew | apply below_drewN))⟩
  case round =>
    obtain ⟨s, rfl, rfl, rfl, hs, x, rfl⟩ := hrel
    by_cases hlt : s < M
    · have PA1 := Lib.hid fun V h => PA.out s V (by omega) h
      have HS1 := Lib.hid (HS.out s)
      rw [LE.out s] at HS1
      obtain ⟨b0, b1⟩ := HB.out s
      generalize ptN f (bitN n s) 0 n = p0 at *
      generalize ptN f (bitN n s) 1 n = p1 at *
      generalize P s = ps at *
      have hg : decide ((s : Int) < (M : Int)) = true := by simp; omega
      by_cases h1 : ps.2 < min p0 p1
      · have HN : Hid (P (s + 1) = (s, min p0 p1)) := by show _ = _; rw [HS1.out, if_pos h1]
        go_wp2_with (go_at_call 68; with_reducible refine Calls.mono (Gives.calls (PA1.out _ (by repeat (first | exact Below.refl _ _ | (with_reducible assumption) | apply below_later | apply below_alloc | apply below_drew | apply below_drewN)))) ?_; rintro e w1 ⟨rfl, z, rfl⟩)
        all_goals
          first
            | (go_roundw
               case rel => exact ⟨s + 1, by rw [HN.out], by rw [HN.out]; first | rfl | (congr 1; dsimp only; split <;> omega), by go_num, by omega, later_of (by repeat (first | exact Below.refl _ _ | (with_reducible assumption) | apply below_later | apply below_alloc | apply below_drew | apply below_drewN))⟩
               case measure => simp [intOf]; omega)
            | (refine ⟨⟨s + 1, by rw [HN.out], by rw [HN.out]; first | rfl | (congr 1; dsimp only; split <;> omega), by go_num, by omega, later_of (by repeat (first | exact Below.refl _ _ | (with_reducible assumption) | apply below_later | apply below_alloc | apply below_drew | apply below_drewN))⟩, ?_⟩; simp [intOf]; omega)
      · have HN : Hid (P (s + 1) = ps) := by show _ = _; rw [HS1.out, if_neg h1]
        go_wp2_with (go_at_call 68; with_reducible refine Calls.mono (Gives.calls (PA1.out _ (by repeat (first | exact Below.refl _ _ | (with_reducible assumption) | apply below_later | apply below_alloc | apply below_drew | apply below_drewN)))) ?_; rintro e w1 ⟨rfl, z, rfl⟩)
        all_goals
          first
            | (go_roundw
               case rel => exact ⟨s + 1, by rw [HN.out], by rw [HN.out], by go_num, by omega, later_of (by repeat (first | exact Below.refl _ _ | (with_reducible assumption) | apply below_later | apply below_alloc | apply below_drew | apply below_drewN))⟩
               case measure => simp [intOf]; omega)
            | (refine ⟨⟨s + 1, by rw [HN.out], by rw [HN.out], by go_num, by omega, later_of (by repeat (first | exact Below.refl _ _ | (with_reducible assumption) | apply below_later | apply below_alloc | apply below_drew | apply below_drewN))⟩, ?_⟩; simp [intOf]; omega)
    · obtain rfl : s = M := by omega
      go_wp2
      go_ret2
      exact ⟨rfl, later_of (by repeat (first | exact Below.refl _ _ | (with_reducible assumption) | apply below_later | apply below_alloc | apply below_drew | apply below_drewN))⟩
end Go.Proofs.Ytjmjafpjfhgfdaa
