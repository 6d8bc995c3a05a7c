/- rod.join: the text of a number in three units. -/
import Derived.Test.YtamhhbkjgfhfoaaDoorTail
import Derived.Test.YtamhhbkjgfhfoaaDoorShelf
import Derived.Lib.ItoaLen
namespace Go.Proofs.YtamhhbkjgfhfoaaDoor
open Go.RowKit

/-- The units as they lie in the variables: two sizes and the least one, 1. -/
def unitsV (la lb lc : ByteArray) (s0 s1 : Int) : Value := .agg #[.string la, .int .i64 s0, .string lb, .int .i64 s1, .string lc, .int .i64 1]

theorem infoString : (Tryd.prog.info? 9).map (fun i => (i.zero, i.size, i.bytes)) = some (some (.string ⟨#[]⟩), 1, 16) := by kernel_rfl

/-- The word of a unit, if there is one. -/
def word (l : ByteArray) (s n : Int) : List (List UInt8) := if s ≤ n then [Lib.itoa (n / s) ++ l.data.toList] else []
def restOf (s0 s1 n : Int) : Nat → Int
  | 0 => n
  | 1 => n % s0
  | 2 => n % s0 % s1
  | _ => 0
def wordsTo (la lb lc : ByteArray) (s0 s1 n : Int) : Nat → List (List UInt8)
  | 0 => []
  | 1 => word la s0 n
  | 2 => word la s0 n ++ word lb s1 (n % s0)
  | _ => word la s0 n ++ word lb s1 (n % s0) ++ word lc 1 (n % s0 % s1)
def strV (l : List UInt8) : Value := .string ⟨l.toArray⟩

theorem tab_later {w : World} (h : Lib.TabIs Tryd.prog w "internal/strconv.uint64pow10" .u64 Lib.pow10Tab) (x : Later w) : Lib.TabIs Tryd.prog x.val "internal/strconv.uint64pow10" .u64 Lib.pow10Tab := later_var h x

theorem tab_below {w w' : World} (h : Lib.TabIs Tryd.prog w "internal/strconv.uint64pow10" .u64 Lib.pow10Tab) (hb : Below w.heap.size w w') : Lib.TabIs Tryd.prog w' "internal/strconv.uint64pow10" .u64 Lib.pow10Tab := later_var h ⟨w', hb⟩

theorem itoa_any (n : Int) (w : World) (h0 : -9223372036854775808 ≤ n) (h1 : n ≤ 9223372036854775807) (htab : Lib.TabIs Tryd.prog w "internal/strconv.uint64pow10" .u64 Lib.pow10Tab) :
    Gives Tryd.prog 63 #[.int .i64 n] w (.string ⟨(Lib.itoa n).toArray⟩) :=
  Calls.mono (Tryd.strconv_Itoa n h0 h1 w htab) fun e w' ⟨he, k, os, hw⟩ => ⟨he, ⟨w', by
    subst hw
    refine ⟨rfl, rfl, rfl, ?_, ?_⟩
    · simp [Sort.grow, World.drewN]
    · intro i hi
      simp [Sort.grow, World.drewN, Array.getElem?_append, hi]⟩, rfl⟩

theorem emod_le {a b : Int} (ha : 0 ≤ a) (hb : 1 ≤ b) : a % b ≤ a := by
  have h1 : 0 ≤ a / b := Int.ediv_nonneg ha (by omega)
  have h2 : 0 ≤ b * (a / b) := Int.mul_nonneg (by omega) h1
  have h3 := Int.mul_ediv_add_emod a b
  omega
theorem rest_bd {s0 s1 n : Int} (h0 : 1 ≤ s0) (h1 : 1 ≤ s1) (hn : 0 ≤ n) (gn : n ≤ 1000000000) (k : Nat) : 0 ≤ restOf s0 s1 n k ∧ restOf s0 s1 n k ≤ 1000000000 := by
  have a1 : 0 ≤ n % s0 := Int.emod_nonneg _ (by omega)
  have a2 : n % s0 ≤ n := emod_le hn h0
  have a3 : 0 ≤ n % s0 % s1 := Int.emod_nonneg _ (by omega)
  have a4 : n % s0 % s1 ≤ n % s0 := emod_le a1 h1
  match k with
  | 0 => exact ⟨hn, gn⟩
  | 1 => exact ⟨a1, by show n % s0 ≤ _; omega⟩
  | 2 => exact ⟨a3, by show n % s0 % s1 ≤ _; omega⟩
  | _ + 3 => exact ⟨Int.le_refl _, by simp [restOf]⟩
theorem word_len (l : ByteArray) (s n : Int) : (word l s n).length ≤ 1 := by unfold word; split <;> simp
theorem words_len (la lb lc : ByteArray) (s0 s1 n : Int) (k : Nat) : (wordsTo la lb lc s0 s1 n k).length ≤ 3 := by
  have a1 := word_len la s0 n
  have a2 := word_len lb s1 (n % s0)
  have a3 := word_len lc 1 (n % s0 % s1)
  match k with
  | 0 => simp [wordsTo]
  | 1 => simp only [wordsTo]; omega
  | 2 => simp only [wordsTo, List.length_append]; omega
  | _ + 3 => simp only [wordsTo, List.length_append]; omega
theorem unit_at (la lb lc : ByteArray) (s0 s1 n : Int) (ga : la.size ≤ 100) (gb : lb.size ≤ 100) (gc : lc.size ≤ 100) (h0 : 1 ≤ s0) (h1 : 1 ≤ s1) (k : Nat) (hk : k < 3) :
    ∃ (l : ByteArray) (s : Int), 1 ≤ s ∧ l.size ≤ 100 ∧
      (∀ W, (Instr.index 51 (.agg #[.string la, .int .i64 s0, .string lb, .int .i64 s1, .string lc, .int .i64 1]) (.int .i64 k)).run Tryd.prog W = .ok (.agg #[.string l, .int .i64 s]) W) ∧
      restOf s0 s1 n (k + 1) = restOf s0 s1 n k % s ∧ wordsTo la lb lc s0 s1 n (k + 1) = wordsTo la lb lc s0 s1 n k ++ word l s (restOf s0 s1 n k) := by
  have hk' : k = 0 ∨ k = 1 ∨ k = 2 := by omega
  rcases hk' with rfl | rfl | rfl
  · exact ⟨la, s0, h0, ga, fun W => by kernel_rfl, rfl, by simp [wordsTo, restOf]⟩
  · exact ⟨lb, s1, h1, gb, fun W => by kernel_rfl, rfl, by simp [wordsTo, restOf]⟩
  · exact ⟨lc, 1, by omega, gc, fun W => by kernel_rfl, by simp [restOf], by simp [wordsTo, restOf]⟩

theorem join_own {base : Nat} (v : Value) (ws : List (List UInt8)) (sep : ByteArray) (w : World) (hown : w.ownsRow base 9 1 v ws.length (ws.map strV)) (hlen : ws.length ≤ 1000 ∧ (Lib.join ws sep.data.toList).length ≤ 140737488355328) :
    Gives Tryd.prog 64 #[v, .string sep] w (strV (Lib.join ws sep.data.toList)) := by
  have hcells : ∀ g, v.ownBlock = some g → ∀ j u, (ws.map strV)[j]? = some u → w.cell? ((⟨g, 0, none⟩ : Addr).add j) = some u := fun g hg => hown.cells hg
  rcases hown.2 with ⟨rfl, h0⟩ | ⟨g, cap, cur, rfl, _, hh, hn, _⟩
  · obtain rfl : ws = [] := List.eq_nil_of_length_eq_zero h0
    exact Calls.mono (Tryd.strings_Join_none none 0 sep w) fun e w' ⟨he, hw⟩ => ⟨he, ⟨w', by rw [hw]; exact Below.refl _ _⟩, rfl⟩
  · have hx : (ws.map fun l => (⟨l.toArray⟩ : ByteArray)).map (·.data.toList) = ws := by
      rw [List.map_map]
      have : ((fun x : ByteArray => x.data.toList) ∘ fun l : List UInt8 => (⟨l.toArray⟩ : ByteArray)) = id := by funext l; simp
      rw [this, List.map_id]
    have := Tryd.strings_Join g 0 cap (ws.map fun l => (⟨l.toArray⟩ : ByteArray)) sep w (fun j x hj => by
      rw [List.getElem?_map] at hj
      obtain ⟨l, hl, rfl⟩ := Option.map_eq_some_iff.1 hj
      have h1 := hcells g rfl j (strV l) (by rw [List.getElem?_map, hl]; rfl)
      by_cases hj0 : j = 0 <;> simpa [Addr.add, strV, hj0] using h1) (Array.getElem?_eq_some_iff.1 hh).1 (by rw [List.length_map]; omega) (by rw [List.length_map]; omega) (by rw [hx]; exact hlen.2)
    rw [List.length_map, hx] at this
    exact Calls.mono this fun e w' ⟨he, hb⟩ => ⟨he, ⟨w', hb⟩, rfl⟩

theorem word_size {l : ByteArray} {s n : Int} (hl : l.size ≤ 100) (hs : 1 ≤ s) (hn : 0 ≤ n) (gn : n ≤ 1000000000) : ∀ x ∈ word l s n, x.length ≤ 200 := by
  intro x hx
  unfold word at hx
  split at hx
  · have d1 : 0 ≤ n / s := Int.ediv_nonneg (by omega) (by omega)
    have d2 : n / s ≤ n := Int.ediv_le_self _ (by omega)
    have d3 := Lib.itoa_length_le (n / s) (by omega) (by omega)
    obtain rfl : x = Lib.itoa (n / s) ++ l.data.toList := by simpa using hx
    have : l.data.toList.length = l.size := rfl
    rw [List.length_append, this]
    omega
  · cases hx
theorem join3_len (ws : List (List UInt8)) (h : ∀ x ∈ ws, x.length ≤ 200) (hl : ws.length ≤ 3) : (Lib.join ws [32]).length ≤ 140737488355328 := by
  match ws, hl with
  | [], _ => simp [Lib.join_nil]
  | [a], _ => rw [Lib.join_one]; have := h a (by simp); omega
  | [a, b], _ => rw [Lib.join_cons]; have := h a (by simp); have := h b (by simp); simp [Lib.joinTail]; omega
  | [a, b, c], _ => rw [Lib.join_cons]; have := h a (by simp); have := h b (by simp); have := h c (by simp); simp [Lib.joinTail]; omega
theorem words_join_len (la lb lc : ByteArray) (s0 s1 n : Int) (ga : la.size ≤ 100) (gb : lb.size ≤ 100) (gc : lc.size ≤ 100) (h0 : 1 ≤ s0) (h1 : 1 ≤ s1) (hn : 0 ≤ n) (gn : n ≤ 1000000000) :
    (wordsTo la lb lc s0 s1 n 3).length ≤ 1000 ∧ (Lib.join (wordsTo la lb lc s0 s1 n 3) [32]).length ≤ 140737488355328 := by
  have hl := words_len la lb lc s0 s1 n 3
  refine ⟨by omega, join3_len _ (fun x hx => ?_) hl⟩
  have r1 := rest_bd (s0 := s0) (s1 := s1) (n := n) h0 h1 hn gn 1
  have r2 := rest_bd (s0 := s0) (s1 := s1) (n := n) h0 h1 hn gn 2
  simp only [restOf] at r1 r2
  simp only [wordsTo, List.mem_append] at hx
  rcases hx with (hx | hx) | hx
  · exact word_size ga h0 hn gn x hx
  · exact word_size gb h1 r1.1 r1.2 x hx
  · exact word_size gc (by omega) r2.1 r2.2 x hx

set_option maxRecDepth 100000 in
set_option maxHeartbeats 1600000 in
theorem join_any (la lb lc : ByteArray) (s0 s1 n : Int) (w : World) (ga : la.size ≤ 100) (gb : lb.size ≤ 100) (gc : lc.size ≤ 100) (h0 : 1 ≤ s0) (h1 : 1 ≤ s1) (hn : 1 ≤ n) (gn : n ≤ 1000000000) (htab : Lib.TabIs Tryd.prog w "internal/strconv.uint64pow10" .u64 Lib.pow10Tab) :
    Gives Tryd.prog 47 #[.agg #[.string la, .int .i64 s0, .string lb, .int .i64 s1, .string lc, .int .i64 1], .int .i64 n] w (strV (Lib.join (wordsTo la lb lc s0 s1 n 3) [32])) := by
  have hne : (n == 0) = false := by simp; omega
  have Hu := Lib.hid (unit_at la lb lc s0 s1 n ga gb gc h0 h1)
  have Hr := Lib.hid (rest_bd (s0 := s0) (s1 := s1) (n := n) h0 h1 (by omega) gn)
  go_enter Tryd.func47, Tryd.ntmps47
  go_wp2
  go_loopw [1, 5, 15] (fun m v i wr => ∃ k : Nat, k ≤ 3 ∧ i = .int .i64 k ∧ m = .int .i64 (restOf s0 s1 n k) ∧ wr.ownsRow w.heap.size 9 1 v (wordsTo la lb lc s0 s1 n k).length ((wordsTo la lb lc s0 s1 n k).map strV) ∧ ∃ x : Later w, wr = x.val) (fun _ _ i _ => 3 - (intOf i).toNat)
  case atStart => exact ⟨0, by omega, rfl, rfl, World.ownsRow_nil _ _ _ _, later_of (by repeat (first | exact Below.refl _ _ | (with_reducible assumption) | apply below_later | apply below_alloc | apply below_drew | apply below_drewN))⟩
  case round =>
    obtain ⟨k, hk, rfl, rfl, hown, x, rfl⟩ := hrel
    have hwl := words_len la lb lc s0 s1 n k
    by_cases hlt : k < 3
    · obtain ⟨l, s, g1, g2, xk, er, ew⟩ := Hu.out k hlt
      obtain ⟨r1, r2⟩ := Hr.out k
      have Er := Lib.hid er
      have Ew := Lib.hid ew
      clear er ew
      generalize hq : restOf s0 s1 n k = q at *
      generalize hws : wordsTo la lb lc s0 s1 n k = ws at *
      have Hq := Lib.hid hq
      have Hws := Lib.hid hws
      clear hq hws
      have d1 : 0 ≤ q / s := Int.ediv_nonneg (by omega) (by omega)
      have d2 : q / s ≤ q := Int.ediv_le_self _ (by omega)
      have d3 := Lib.itoa_length_le (q / s) (by omega) (by omega)
      by_cases hs : s ≤ q
      · go_wp2
        first | (with_reducible show Code.wp _ _ _ _ (Later.val _); refine wp_region_tail_at _ 1 9 (by kernel_rfl) (by kernel_rfl) ?_) | refine wp_region_tail 1 9 (by kernel_rfl) (by kernel_rfl) ?_
        simp only [List.take_succ_cons, List.take_zero, List.drop_succ_cons, List.drop_zero]
        repeat (go_big_quiet_step ((first | (go_at_call 63; refine Later.call _ (itoa_any _ _ (by omega) (by omega) (tab_below htab (by repeat (first | exact Below.refl _ _ | (with_reducible assumption) | apply below_later | apply below_alloc | apply below_drew | apply below_drewN))))))))
        refine wpQuiet_nil ?_
        intro y
        have hown1 := own_later (hown.alloc (.cells #[.string l, .int .i64 s] 50)) y
        have hsz := x.size
        have hsz2 := y.size
        simp only [World.size_alloc] at hsz2
        obtain ⟨i0, hi, hz0, hz1, hz2⟩ := info_parts infoString
        go_wp2_with (at_builtin; refine wpList_append_own _ rfl _ _ 80 rfl w.heap.size 9 i0 (.string ⟨#[]⟩) 1 16 Tryd.underlying80 hi hz0 hz1 hz2 rfl (by decide) _ _ _ rfl (hown1.alloc _) ⟨y.val.heap.size, 0, none⟩ 1 1 [.string (⟨(Lib.itoa (q / s)).toArray⟩ ++ l)] rfl rfl ?c1 ?c2 ?c3 ?c4 ?c5 ?_)
        case c1 => exact cell_one_new _ _ _
        case c2 => simp [Value.oneCell']
        case c3 => simp only [maxLen]; omega
        case c4 => omega
        case c5 => simp only [World.size_alloc]; omega
        intro v' w1 hown2 hg1 _
        have hb1 : Below w.heap.size w w1 := below_own (by repeat (first | exact Below.refl _ _ | (with_reducible assumption) | apply below_later | apply below_alloc | apply below_drew | apply below_drewN)) (hown1.alloc _) (Nat.le_refl _) hg1
        have e0 := grown_cell hg1 hown (k := x.val.heap.size) 0 (Nat.le_refl _) (by simp only [World.size_alloc]; omega)
        have e1 := grown_cell hg1 hown (k := x.val.heap.size) 1 (Nat.le_refl _) (by simp only [World.size_alloc]; omega)
        rw [World.cell?_alloc_lt _ _ _ (by show x.val.heap.size < _; omega), y.cell _ _ (by simp)] at e0 e1
        simp at e0 e1
        go_wp2
        refine calm_normal ?_
        go_wp2
        go_roundw
        case rel =>
          refine ⟨k + 1, by omega, by go_num, by rw [Er.out], ?_, later_of hb1⟩
          rw [Ew.out]
          have : word l s q = [Lib.itoa (q / s) ++ l.data.toList] := by simp [word, hs]
          rw [this, List.length_append, List.map_append]
          exact hown2
        case measure => simp [intOf]; omega
      · go_wp2
        go_roundw
        case rel =>
          refine ⟨k + 1, by omega, by go_num, by rw [Er.out], ?_, later_of (by repeat (first | exact Below.refl _ _ | (with_reducible assumption) | apply below_later | apply below_alloc | apply below_drew | apply below_drewN))⟩
          rw [Ew.out]
          have : word l s q = [] := by simp [word, hs]
          rw [this, List.append_nil]
          exact hown.alloc _
        case measure => simp [intOf]; omega
    · obtain rfl : k = 3 := by omega
      go_wp2_with (go_at_call 64; refine Calls.mono (join_own _ _ _ _ hown (words_join_len la lb lc s0 s1 n ga gb gc h0 h1 (by omega) gn)).calls ?_; rintro e w1 ⟨rfl, y, rfl⟩)
      go_ret
      exact ⟨rfl, later_of (by repeat (first | exact Below.refl _ _ | (with_reducible assumption) | apply below_later | apply below_alloc | apply below_drew | apply below_drewN))⟩
end Go.Proofs.YtamhhbkjgfhfoaaDoor
