/- Lists of lists that come in: in memory, opened; Many: walked. -/
import Derived.Test.YtlljjaafejjeeaaKOpen
import Derived.Test.YtlljjaafejjeeaaKBirds
import Derived.Test.YtlljjaafejjeeaaKLeadsLaw
namespace Go.Proofs.Ytlljjaafejjeeaa
open Go.ChangeShapes Go.WideShapes Go.ChangeAt Go.RowKit Go.Deep

/-- What a list of lists holds: of each its address, length, room and numbers. -/
structure Row where
  a : Option Addr
  n : Nat
  c : Nat
  f : Nat → Int
instance : Inhabited Row := ⟨⟨none, 0, 0, fun _ => 0⟩⟩
def Row.val (r : Row) : Value := .slice r.a r.n r.c
structure IsTab (w : World) (A : Option Addr) (k : Nat) (R : Nat → Row) : Prop where
  small : k ≤ 9223372036854775807
  at_ : 0 < k → ∃ b off, A = some ⟨b, off, none⟩ ∧ b < w.heap.size ∧ ∀ i, i < k → w.cell? ⟨b, off + i, none⟩ = some (R i).val
  row : ∀ i, i < k → IsInts w (R i).a (R i).n (R i).f ∧ (R i).n ≤ (R i).c
theorem IsTab.later {w : World} {A : Option Addr} {k : Nat} {R : Nat → Row} (h : IsTab w A k R) (x : Later w) : IsTab x.val A k R :=
  ⟨h.small, fun h0 => let ⟨b, off, e, hl, hp⟩ := h.at_ h0; ⟨b, off, e, Nat.lt_of_lt_of_le hl x.size, fun i hi => (x.cell _ _ hl).trans (hp i hi)⟩, fun i hi => ⟨(h.row i hi).1.later x, (h.row i hi).2⟩⟩
theorem IsTab.below {w V : World} {A : Option Addr} {k : Nat} {R : Nat → Row} (h : IsTab w A k R) (hb : Below w.heap.size w V) : IsTab V A k R := h.later ⟨V, hb⟩
/-- A list of lists of one's own, read. -/
theorem OwnT.tab {V : World} {base : Nat} {v : Value} {rows : List (List Int)} (h : OwnT V base v rows) (hk : rows.length ≤ 9223372036854775807) (hr : ∀ i, i < rows.length → (rows.getD i []).length ≤ 9223372036854775807) :
    ∃ A c R, v = .slice A rows.length c ∧ IsTab V A rows.length R ∧ ∀ i, i < rows.length → (R i).n = (rows.getD i []).length ∧ ∀ j, (R i).f j = (rows.getD i []).getD j 0 := by
  obtain ⟨A, c, rfl⟩ := h.shape
  have each : ∀ i, i < rows.length → ∃ r : Row, (∃ g, A = some ⟨g, 0, none⟩ ∧ g < V.heap.size ∧ V.cell? ⟨g, i, none⟩ = some r.val) ∧ (IsInts V r.a r.n r.f ∧ r.n ≤ r.c) ∧ r.n = (rows.getD i []).length ∧ ∀ j, r.f j = (rows.getD i []).getD j 0 := fun i hi => by
    obtain ⟨g, B, c', e, hg, hcell, ho⟩ := h.cell hi
    have hcap : (rows.getD i []).length ≤ c' := by
      rcases ho.2 with ⟨e1, h0⟩ | ⟨g', cap, cur, e1, _, _, hn, _⟩
      · simp only [Value.slice.injEq] at e1; omega
      · simp only [Value.slice.injEq] at e1; obtain ⟨_, _, rfl⟩ := e1; exact hn
    exact ⟨⟨B, (rows.getD i []).length, c', fun j => (rows.getD i []).getD j 0⟩, ⟨g, e, hg, hcell⟩, ⟨(ho.ints (hr i hi)).2, hcap⟩, rfl, fun _ => rfl⟩
  obtain ⟨R, hR⟩ := pick_lt each
  refine ⟨A, c, R, rfl, ⟨hk, fun h0 => ?_, fun i hi => (hR i hi).2.1⟩, fun i hi => (hR i hi).2.2⟩
  obtain ⟨⟨g, e, hg, _⟩, _⟩ := hR 0 h0
  refine ⟨g, 0, e, hg, fun i hi => ?_⟩
  obtain ⟨⟨g', e', _, hc⟩, _⟩ := hR i hi
  rw [e] at e'
  simp only [Option.some.injEq, Addr.mk.injEq, and_true] at e'
  rw [Nat.zero_add, e']
  exact hc
set_option maxRecDepth 100000 in
theorem open_lists {H : Type} {enc : TypeId × Value → H} {W : World} {r : Reach} {base : Nat} {v : Value} {d : DataW H} {p : List MemPlace} (hb : ∀ b ∈ p, b.block < W.heap.size)
    (hval : Value.okWide Try.prog W r base 23 v) (h : DataW.Trod enc Try.prog W 0 (fun _ => true) true 23 v d p) :
    ∃ (A : Option Addr) (n cap : Nat) (R : Nat → Row), v = .slice A n cap ∧ n ≤ cap ∧ cap ≤ maxLen ∧ IsTab W A n R := by
  have hc : Try.prog.cellsOf 24 = 1 := by kernel_rfl
  obtain ⟨A, n, cap, rfl⟩ := okWide_slice Try.underlying23 hval
  obtain ⟨fuel, hf⟩ := h
  rcases open_slice Try.underlying23 hf with ⟨h1, _⟩ | ⟨a, len, cap', m, k, D, Pl, h1, _, hl, hm, h5, h6, h7⟩
  · have e' : [Value.slice A n cap] = [.slice none 0 0] := h1
    simp only [List.cons.injEq, Value.slice.injEq, and_true] at e'
    obtain ⟨rfl, rfl, rfl⟩ := e'
    exact ⟨none, 0, 0, default, rfl, by omega, by omega, by omega, fun h => absurd h (by omega), fun i hi => absurd hi (by omega)⟩
  · rw [if_pos rfl] at h5
    subst h5
    have e' : [Value.slice A n cap] = [.slice (some a) len m] := h1
    simp only [List.cons.injEq, Value.slice.injEq, and_true] at e'
    obtain ⟨rfl, rfl, rfl⟩ := e'
    have h6' : p = _ := congrArg Prod.snd h6
    have each : ∀ i, i < cap → ∃ r : Row, W.cell? (a.add i) = some r.val ∧ IsInts W r.a r.n r.f ∧ r.n ≤ r.c := fun i hi => by
      obtain ⟨cs', q1, q2⟩ := h7 i hi
      rw [hc, Nat.mul_one] at q1
      obtain ⟨_, hlen, hcell⟩ := World.cells?_some q1
      obtain ⟨B, n', c', f, rfl, hn', hm', hi', _⟩ := ints_of (fun b hb' => hb b (by rw [h6']; exact List.mem_append_right _ (List.mem_flatMap.2 ⟨i, List.mem_range.2 hi, hb'⟩))) q2
      have hs : n' ≤ 9223372036854775807 := by unfold maxLen at hm'; omega
      refine ⟨⟨B, n', c', f⟩, ?_, hi' hs, hn'⟩
      have h0 := hcell 0 (by omega)
      have e0 : (a.add i).add 0 = a.add i := by simp [Addr.add]
      rw [e0] at h0
      exact h0
    obtain ⟨R, hR⟩ := pick_lt each
    have hsm : n ≤ 9223372036854775807 := by unfold maxLen at hm; omega
    refine ⟨some a, n, cap, R, rfl, by omega, by omega, hsm, fun h0 => ?_, fun i hi => (hR i (by omega)).2⟩
    have hs : a.spot = none := by
      have hc0 := (hR 0 (by omega)).1
      have e : a.add 0 = a := by simp [Addr.add]
      rw [e] at hc0
      cases hsp : a.spot with
      | none => rfl
      | some s =>
        exfalso
        unfold World.cell? at hc0
        split at hc0
        · simp [hsp] at hc0
        · cases hc0
    obtain ⟨b, off, spot⟩ := a
    obtain rfl : spot = none := hs
    have hrow : MemPlace.cell b off ∈ p := by
      rw [h6']
      refine List.mem_append_left _ ?_
      unfold MemPlace.row
      rw [hc]
      exact List.mem_map.2 ⟨0, List.mem_range.2 (by omega), rfl⟩
    refine ⟨b, off, rfl, hb _ hrow, fun i hi => ?_⟩
    have := (hR i (by omega)).1
    rw [add_plain] at this
    exact this
/-- Are there more sightings, or lists, than these statements look at? -/
def manyB (n k : Nat) (R : Nat → Row) : Bool := !(decide (n ≤ 40) && (decide (k ≤ 50) && allB k fun i => decide ((R i).n ≤ 50)))
set_option maxRecDepth 100000 in
set_option maxHeartbeats 1600000 in
theorem Many_any (A B : Option Addr) (n cap k c1 : Nat) (R : Nat → Row) (w : World) (hp : IsTab w B k R) : Gives Try.prog 5 #[.slice A n cap, .slice B k c1] w (.bool (manyB n k R)) := by
  have HR : Hid (manyB n k R = !(decide (n ≤ 40) && (decide (k ≤ 50) && allB k fun i => decide ((R i).n ≤ 50)))) := rfl
  have HP := Lib.hid hp
  generalize manyB n k R = res at *
  clear hp
  by_cases h1 : n ≤ 40
  · have d1 : ¬ (40 < n) := by omega
    by_cases h2 : k ≤ 50
    · have d2 : ¬ (50 < k) := by omega
      rw [decide_eq_true h1, decide_eq_true h2, Bool.true_and, Bool.true_and] at HR
      go_enter Try.func5, Try.ntmps5
      go_wp2
      go_loopw [5] (fun u wr => ∃ j : Nat, u = .int .i64 (j : Nat) ∧ j ≤ k ∧ (∀ i, i < j → decide ((R i).n ≤ 50) = true) ∧ ∃ x : Later w, wr = x.val) (fun u _ => k - (intOf u).toNat)
      case atStart => exact ⟨0, rfl, by omega, by omega, later_of (by repeat (first | exact Below.refl _ _ | (with_reducible assumption) | apply below_later | apply below_alloc | apply below_drew | apply below_drewN))⟩
      case round =>
        obtain ⟨j, rfl, hj, hall, x, rfl⟩ := hrel
        have HALL := Lib.hid hall
        clear hall
        by_cases hlt : j < k
        · obtain ⟨b, off, hB, hb, hc⟩ := (HP.out.later x).at_ (by omega)
          subst hB
          have cj := hc j hlt
          unfold Row.val at cj
          have FB : Hid (decide ((R j).n ≤ 50) = false → res = true) := fun h => by rw [HR.out, allB_false (p := fun i => decide ((R i).n ≤ 50)) hlt h]; rfl
          have FT : Hid (decide ((R j).n ≤ 50) = true → ∀ i, i < j + 1 → decide ((R i).n ≤ 50) = true) := fun h => all_step (p := fun i => decide ((R i).n ≤ 50)) HALL.out h
          clear hc
          by_cases h3 : (R j).n ≤ 50
          · have d3 : ¬ (50 < (R j).n) := by omega
            have HE := Lib.hid (FT.out (decide_eq_true h3))
            generalize R j = rj at *
            go_wp2
            go_roundw
            case rel => exact ⟨j + 1, by go_num, by omega, HE.out, later_of (by repeat (first | exact Below.refl _ _ | (with_reducible assumption) | apply below_later | apply below_alloc | apply below_drew | apply below_drewN))⟩
            case measure => simp [intOf]; omega
          · have d3 : 50 < (R j).n := by omega
            have HE := Lib.hid (FB.out (decide_eq_false h3))
            generalize R j = rj at *
            go_wp2
            go_ret
            exact ⟨ret_bool HE.out.symm, later_of (by repeat (first | exact Below.refl _ _ | (with_reducible assumption) | apply below_later | apply below_alloc | apply below_drew | apply below_drewN))⟩
        · obtain rfl : j = k := by omega
          have HT : Hid (res = false) := by show _ = _; rw [HR.out, allB_true (p := fun i => decide ((R i).n ≤ 50)) HALL.out]; rfl
          go_wp2
          go_ret
          exact ⟨ret_bool HT.out.symm, later_of (by repeat (first | exact Below.refl _ _ | (with_reducible assumption) | apply below_later | apply below_alloc | apply below_drew | apply below_drewN))⟩
    · have d2 : 50 < k := by omega
      have HT : Hid (res = true) := by show _ = _; rw [HR.out, decide_eq_false h2]; simp
      go_enter Try.func5, Try.ntmps5
      go_wp2
      go_ret
      exact ⟨ret_bool (by first | rfl | exact HT.out.symm | rw [HT.out]), later_of (by repeat (first | exact Below.refl _ _ | (with_reducible assumption) | apply below_later | apply below_alloc | apply below_drew | apply below_drewN))⟩
  · have d1 : 40 < n := by omega
    have HT : Hid (res = true) := by show _ = _; rw [HR.out, decide_eq_false h1]; rfl
    go_enter Try.func5, Try.ntmps5
    go_wp2
    go_ret
    exact ⟨ret_bool (by first | rfl | exact HT.out.symm | rw [HT.out]), later_of (by repeat (first | exact Below.refl _ _ | (with_reducible assumption) | apply below_later | apply below_alloc | apply below_drew | apply below_drewN))⟩
theorem many_facts {n k : Nat} {R : Nat → Row} (h : manyB n k R = false) : n ≤ 40 ∧ k ≤ 50 ∧ ∀ i, i < k → (R i).n ≤ 50 := by
  unfold manyB at h
  simp only [Bool.not_eq_false', Bool.and_eq_true, decide_eq_true_eq] at h
  exact ⟨h.1, h.2.1, fun i hi => of_decide_eq_true (allB_iff.1 h.2.2 i hi)⟩
end Go.Proofs.Ytlljjaafejjeeaa
