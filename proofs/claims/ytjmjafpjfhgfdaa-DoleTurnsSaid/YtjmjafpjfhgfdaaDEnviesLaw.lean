/- The law of envies: walked. -/
import Derived.Test.YtjmjafpjfhgfdaaDFair
import Derived.Test.YtjmjafpjfhgfdaaDRef
import Derived.Test.YtjmjafpjfhgfdaaDFirst
import Derived.ChangeKeysEq
namespace Go.Proofs.Ytjmjafpjfhgfdaa
open Go.RowKit

/-- Pairs in memory. -/
structure IsPairs (w : World) (A : Option Addr) (n : Nat) (l : List Pt) : Prop where
  at_ : 0 < n → ∃ g, A = some ⟨g, 0, none⟩ ∧ g < w.heap.size ∧ ∀ i, i < n → w.cell? ⟨g, i * 2, none⟩ = some (.int .i64 (hx l i)) ∧ w.cell? ⟨g, i * 2 + 1, none⟩ = some (.int .i64 (hy l i))
theorem IsPairs.below {w V : World} {A : Option Addr} {n : Nat} {l : List Pt} (h : IsPairs w A n l) (hb : Below w.heap.size w V) : IsPairs V A n l :=
  ⟨fun h0 => let ⟨g, e, hg, hp⟩ := h.at_ h0; ⟨g, e, Nat.lt_of_lt_of_le hg hb.size, fun i hi => ⟨(hb.cell (p := ⟨g, i * 2, none⟩) hg).trans (hp i hi).1, (hb.cell (p := ⟨g, i * 2 + 1, none⟩) hg).trans (hp i hi).2⟩⟩⟩
theorem OwnQ.pairs {w : World} {base n c : Nat} {A : Option Addr} {l : List Pt} (h : OwnQ w base (.slice A n c) l) (hn : l.length = n) : IsPairs w A n l := by
  refine ⟨fun h0 => ?_⟩
  obtain ⟨g, cap, e, _, hlt, _⟩ := h.form hn h0
  simp only [Value.slice.injEq, true_and] at e
  obtain ⟨rfl, rfl⟩ := e
  exact ⟨g, rfl, hlt, fun i hi => by
    obtain ⟨a, b, _⟩ := h.cell hn hi
    exact ⟨a, b⟩⟩
theorem guard_pair : Try.prog.eqGuardType Try.prog.depth 44 = false := by kernel_rfl
theorem plain_int : Try.prog.plainKey 3 = true := by kernel_rfl
theorem cells_int : Try.prog.cellsOf 3 = 1 := by kernel_rfl
theorem eq_pair (w : World) (a b x y : Int) : (Op.equalIn 10000 44 (.agg #[.int .i64 a, .int .i64 b]) (.agg #[.int .i64 x, .int .i64 y])).run Try.prog w = .ok ((a == x) && (b == y)) w := by
  obtain ⟨i, hi, _⟩ := info_int
  rw [run_equalIn_array w 9999 _ _ Try.underlying44 hi, cells_int]
  have p0 : ∀ (w : World) (u v : Value), (part 3 #[u, v] 0).run Try.prog w = .ok u w := fun w u v => run_part_plain w plain_int rfl
  have p1 : ∀ (w : World) (u v : Value), (part 3 #[u, v] 1).run Try.prog w = .ok v w := fun w u v => run_part_plain w plain_int rfl
  have q : ∀ (w : World) (u v : Int), (Op.equalIn 9999 3 (.int .i64 u) (.int .i64 v)).run Try.prog w = .ok (u == v) w := fun w u v => run_equalIn_int w 9998 _ _ _ u v Try.underlying3
  simp only [List.range_succ, List.range_zero, List.nil_append, List.cons_append, Op.eqItems, Nat.zero_mul, Nat.one_mul, Sem.run_bind, p0, p1, q, Result.andThen_ok]
  by_cases h1 : a = x <;> by_cases h2 : b = y <;> simp [h1, h2, p0, p1, q]
attribute [local go_sem] guard_pair eq_pair
set_option maxRecDepth 100000 in
set_option maxHeartbeats 6400000 in
theorem envies_law (A S : Option Addr) (k cap m cS : Nat) (R : Nat → Row) (c : Nat → Int) (w : World) (hp : IsTab w A k R) (hc : IsInts w S m c) :
    Gives Try.prog 4 #[.slice A k cap, .slice S m cS] w (.bool true) := by
  have FL := Lib.hid first_law
  have LG := Lib.hid fun (V : World) (h : Below w.heap.size w V) => Long_any k cap A R V (hp.below h)
  cases hl : longB k R
  case true =>
    rw [hl] at LG
    clear hp hc hl
    go_enter Try.func4, Try.ntmps4
    go_wp2_with (first | (go_at_call 13; with_reducible refine Calls.mono (Gives.calls (LG.out _ (by repeat (first | exact Below.refl _ _ | (with_reducible assumption) | apply below_later | apply below_alloc | apply below_drew | apply below_drewN)))) ?_; rintro e w1 ⟨rfl, z, rfl⟩) | (go_at_call 14; with_reducible refine Calls.mono (Gives.calls (FL.out _)) ?_; rintro e w1 ⟨rfl, z2, rfl⟩))
    go_ret
    exact ⟨rfl, later_of (by repeat (first | exact Below.refl _ _ | (with_reducible assumption) | apply below_later | apply below_alloc | apply below_drew | apply below_drewN))⟩
  case false =>
    rw [hl] at LG
    obtain ⟨hk, hr⟩ := long_facts hl
    clear hl
    by_cases hm : 30 < m
    · have e1 : decide ((30 : Int) < (m : Int)) = true := by simp; omega
      clear hp hc hr
      go_enter Try.func4, Try.ntmps4
      go_wp2_with (first | (go_at_call 13; with_reducible refine Calls.mono (Gives.calls (LG.out _ (by repeat (first | exact Below.refl _ _ | (with_reducible assumption) | apply below_later | apply below_alloc | apply below_drew | apply below_drewN)))) ?_; rintro e w1 ⟨rfl, z, rfl⟩) | (go_at_call 14; with_reducible refine Calls.mono (Gives.calls (FL.out _)) ?_; rintro e w1 ⟨rfl, z2, rfl⟩))
      go_ret
      exact ⟨rfl, later_of (by repeat (first | exact Below.refl _ _ | (with_reducible assumption) | apply below_later | apply below_alloc | apply below_drew | apply below_drewN))⟩
    · have e1 : decide ((30 : Int) < (m : Int)) = false := by simp; omega
      have WH := Lib.hid fun (V : World) (h : Below w.heap.size w V) => why_any k cap m cS A S R c V (fun i hi => by have := hr i hi; omega) (by omega) (hp.below h) (hc.below h)
      by_cases hE : errE k R m c = 0
      · obtain ⟨W, hmn, hin⟩ := errE_ok hE
        have EN : Hid (∀ V, Below w.heap.size w V → Calls Try.prog 26 #[.slice A k cap, .slice S m cS] V fun e w' => ∃ v, e = .returned (.tuple #[v, .int .i64 0]) ∧ ∃ x : Later V, w' = x.val ∧ OwnQ w' V.heap.size v (prsT (envT R c m) k k)) := fun V h => Envies_ok k cap m cS A S R c V (hp.below h) (hc.below h) hE
        have RE : Hid (∀ V, Below w.heap.size w V → Calls Try.prog 28 #[.slice A k cap, .slice S m cS] V fun e w' => ∃ v, e = .returned v ∧ ∃ x : Later V, w' = x.val ∧ OwnQ w' V.heap.size v (prsT (envT R c m) k k)) := fun V h => rEnvies_any k cap (R 0).n m cS A S R c V (by omega) W (hp.below h) (hc.below h)
        have FA := Lib.hid fun (V : World) (h : Below w.heap.size w V) => Fair_ok k cap m cS A S R c V (hp.below h) (hc.below h) hE
        have RF := Lib.hid fun (V : World) (h : Below w.heap.size w V) => rFair_any k cap (R 0).n m cS A S R c V (by omega) W (hp.below h) (hc.below h)
        rw [hE] at WH
        have PL : (prsT (envT R c m) k k).length ≤ 36 := by
          have h1 := prsT_le (envT R c m) k k
          have h2 : k * k ≤ 6 * 6 := Nat.mul_le_mul W.k6 W.k6
          omega
        generalize prsT (envT R c m) k k = P at *
        generalize fairT R c m k = fr at *
        obtain ⟨L, hL⟩ : ∃ L, P.length = L := ⟨_, rfl⟩
        have HL := Lib.hid hL
        rw [hL] at PL
        clear hp hc hr hE W hmn hin hL
        have q0 : ((L : Int) != (L : Int)) = false := by simp
        have q1 : (fr != fr) = false := by simp
        go_enter Try.func4, Try.ntmps4
        go_wp2_with (first
          | (go_at_call 13; with_reducible refine Calls.mono (Gives.calls (LG.out _ (by repeat (first | exact Below.refl _ _ | (with_reducible assumption) | apply below_later | apply below_alloc | apply below_drew | apply below_drewN)))) ?_; rintro e w1 ⟨rfl, z, rfl⟩)
          | (go_at_call 26; with_reducible refine Calls.mono (EN.out _ (by repeat (first | exact Below.refl _ _ | (with_reducible assumption) | apply below_later | apply below_alloc | apply below_drew | apply below_drewN))) ?_; rintro e w1 ⟨v, rfl, z1, rfl, ho⟩; obtain ⟨O, cO, rfl⟩ := ho.shape_n HL.out; have IP := Lib.hid (ho.pairs HL.out); clear ho)
          | (go_at_call 27; with_reducible refine Calls.mono (Gives.calls (FA.out _ (by repeat (first | exact Below.refl _ _ | (with_reducible assumption) | apply below_later | apply below_alloc | apply below_drew | apply below_drewN)))) ?_; rintro e w1 ⟨rfl, z2, rfl⟩)
          | (go_at_call 19; with_reducible refine Calls.mono (Gives.calls (WH.out _ (by repeat (first | exact Below.refl _ _ | (with_reducible assumption) | apply below_later | apply below_alloc | apply below_drew | apply below_drewN)))) ?_; rintro e w1 ⟨rfl, z3, rfl⟩)
          | (go_at_call 28; with_reducible refine Calls.mono (RE.out _ (by repeat (first | exact Below.refl _ _ | (with_reducible assumption) | apply below_later | apply below_alloc | apply below_drew | apply below_drewN))) ?_; rintro e w1 ⟨v2, rfl, z4, rfl, ho2⟩; obtain ⟨O2, cO2, rfl⟩ := ho2.shape_n HL.out; have IP2 := Lib.hid (ho2.pairs HL.out); clear ho2)
          | (go_at_call 29; with_reducible refine Calls.mono (Gives.calls (RF.out _ (by repeat (first | exact Below.refl _ _ | (with_reducible assumption) | apply below_later | apply below_alloc | apply below_drew | apply below_drewN)))) ?_; rintro e w1 ⟨rfl, z5, rfl⟩))
        have HBZ : Hid (Below w.heap.size w z5.val) := by show Below _ _ _; repeat (first | exact Below.refl _ _ | (with_reducible assumption) | apply below_later | apply below_alloc | apply below_drew | apply below_drewN)
        have JP : Hid (IsPairs z5.val O L P) := IP.out.below (by repeat (first | exact Below.refl _ _ | (with_reducible assumption) | apply below_later | apply below_alloc | apply below_drew | apply below_drewN))
        have JP2 : Hid (IsPairs z5.val O2 L P) := IP2.out.below (by repeat (first | exact Below.refl _ _ | (with_reducible assumption) | apply below_later | apply below_alloc | apply below_drew | apply below_drewN))
        clear IP IP2 EN RE FA RF WH LG
        generalize z5.val = Z at *
        go_loopw [11] (fun u wr => ∃ i : Nat, u = .int .i64 (i : Nat) ∧ i ≤ L ∧ ∃ x : Later Z, wr = x.val) (fun u _ => L - (intOf u).toNat)
        case atStart => exact ⟨0, rfl, by omega, later_of (by repeat (first | exact Below.refl _ _ | (with_reducible assumption) | apply below_later | apply below_alloc | apply below_drew | apply below_drewN))⟩
        case round =>
          obtain ⟨i, rfl, hi, x, rfl⟩ := hrel
          by_cases hlt : i < L
          · obtain ⟨g1, e1, l1, p1⟩ := (JP.out.below x.ok).at_ (by omega)
            obtain ⟨g2, e2, l2, p2⟩ := (JP2.out.below x.ok).at_ (by omega)
            obtain ⟨a1, a2⟩ := p1 i hlt
            obtain ⟨b1, b2⟩ := p2 i hlt
            have H1 := Lib.hid e1
            have H2 := Lib.hid e2
            rw [e1, e2]
            clear p1 p2 e1 e2
            generalize hx P i = px at *
            generalize hy P i = py at *
            go_wp2_with fail
            refine wp_region_later (by kernel_rfl) (by kernel_rfl) ?_
            repeat (go_big_quiet_step ((fail)))
            refine wpQuiet_nil ?_
            intro y
            go_wp2_with fail
            try rw [← H1.out]
            try rw [← H2.out]
            first
              | (go_roundw
                 case rel => exact ⟨i + 1, by go_num, by omega, later_of (by repeat (first | exact Below.refl _ _ | (with_reducible assumption) | apply below_later | apply below_alloc | apply below_drew | apply below_drewN))⟩
                 case measure => simp [intOf]; omega)
              | (refine ⟨⟨i + 1, by go_num, by omega, later_of (by repeat (first | exact Below.refl _ _ | (with_reducible assumption) | apply below_later | apply below_alloc | apply below_drew | apply below_drewN))⟩, ?_⟩; simp [intOf]; omega)
          · obtain rfl : i = L := by omega
            go_wp2_with (go_at_call 14; with_reducible refine Calls.mono (Gives.calls (FL.out _)) ?_; rintro e w1 ⟨rfl, z9, rfl⟩)
            go_ret
            exact ⟨rfl, later_of (below_more HBZ.out (by repeat (first | exact Below.refl _ _ | (with_reducible assumption) | apply below_later | apply below_alloc | apply below_drew | apply below_drewN)))⟩
      · have EN := Lib.hid fun (V : World) (h : Below w.heap.size w V) => Envies_bad k cap m cS A S R c V (hp.below h) (hc.below h) hE
        have FA := Lib.hid fun (V : World) (h : Below w.heap.size w V) => Fair_bad k cap m cS A S R c V (hp.below h) (hc.below h) hE
        generalize errE k R m c = E at *
        have e2 : (E != 0) = true := by simpa using hE
        clear hp hc hr hE
        go_enter Try.func4, Try.ntmps4
        go_wp2_with (first
          | (go_at_call 13; with_reducible refine Calls.mono (Gives.calls (LG.out _ (by repeat (first | exact Below.refl _ _ | (with_reducible assumption) | apply below_later | apply below_alloc | apply below_drew | apply below_drewN)))) ?_; rintro e w1 ⟨rfl, z, rfl⟩)
          | (go_at_call 26; with_reducible refine Calls.mono (Gives.calls (EN.out _ (by repeat (first | exact Below.refl _ _ | (with_reducible assumption) | apply below_later | apply below_alloc | apply below_drew | apply below_drewN)))) ?_; rintro e w1 ⟨rfl, z1, rfl⟩)
          | (go_at_call 27; with_reducible refine Calls.mono (Gives.calls (FA.out _ (by repeat (first | exact Below.refl _ _ | (with_reducible assumption) | apply below_later | apply below_alloc | apply below_drew | apply below_drewN)))) ?_; rintro e w1 ⟨rfl, z2, rfl⟩)
          | (go_at_call 19; with_reducible refine Calls.mono (Gives.calls (WH.out _ (by repeat (first | exact Below.refl _ _ | (with_reducible assumption) | apply below_later | apply below_alloc | apply below_drew | apply below_drewN)))) ?_; rintro e w1 ⟨rfl, z3, rfl⟩)
          | (go_at_call 14; with_reducible refine Calls.mono (Gives.calls (FL.out _)) ?_; rintro e w1 ⟨rfl, z9, rfl⟩))
        go_ret
        exact ⟨rfl, later_of (by repeat (first | exact Below.refl _ _ | (with_reducible assumption) | apply below_later | apply below_alloc | apply below_drew | apply below_drewN))⟩
end Go.Proofs.Ytjmjafpjfhgfdaa
