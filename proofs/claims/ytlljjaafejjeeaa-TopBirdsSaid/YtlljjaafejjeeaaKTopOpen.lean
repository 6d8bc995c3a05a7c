/- The law of birds and rounds: what comes in, opened; isBird. -/
import Derived.Test.YtlljjaafejjeeaaKTopMath
namespace Go.Proofs.Ytlljjaafejjeeaa
open Go.ChangeShapes Go.WideShapes Go.ChangeAt Go.RowKit Go.Deep

set_option maxRecDepth 100000 in
theorem lists_of {H : Type} {enc : TypeId × Value → H} {W : World} {fuel : Nat} {cs : List Value} {x : DataW H × List MemPlace} (hb : ∀ b ∈ x.2, b.block < W.heap.size)
    (hf : DataW.trod enc Try.prog W 0 (fun _ => true) true fuel 23 cs = some x) :
    ∃ (A : Option Addr) (n cap : Nat) (R : Nat → Row), cs = [.slice A n cap] ∧ n ≤ cap ∧ cap ≤ maxLen ∧ IsTab W A n R := by
  have hc : Try.prog.cellsOf 24 = 1 := by kernel_rfl
  rcases open_slice Try.underlying23 hf with ⟨h1, _⟩ | ⟨a, len, cap', m, k, D, Pl, h1, _, hl, hm, h5, h6, h7⟩
  · exact ⟨none, 0, 0, default, h1, by omega, by omega, by omega, fun h => absurd h (by omega), fun i hi => absurd hi (by omega)⟩
  · rw [if_pos rfl] at h5
    subst h5
    have h6' : x.2 = _ := congrArg Prod.snd h6
    have each : ∀ i, i < m → ∃ r : Row, W.cell? (a.add i) = some r.val ∧ IsInts W r.a r.n r.f ∧ r.n ≤ r.c := fun i hi => by
      obtain ⟨cs', q1, q2⟩ := h7 i hi
      rw [hc, Nat.mul_one] at q1
      obtain ⟨_, hlen, hcell⟩ := World.cells?_some q1
      obtain ⟨B, n', c', f, rfl, hn', hm', hi', _⟩ := ints_of (fun b hb' => hb b (by rw [h6']; exact List.mem_append_right _ (List.mem_flatMap.2 ⟨i, List.mem_range.2 hi, hb'⟩))) q2
      have hs : n' ≤ 9223372036854775807 := by unfold maxLen at hm'; omega
      refine ⟨⟨B, n', c', f⟩, ?_, hi' hs, hn'⟩
      have h0 := hcell 0 (by omega)
      have e0 : (a.add i).add 0 = a.add i := by simp [Addr.add]
      rw [e0] at h0
      exact h0
    obtain ⟨R, hR⟩ := pick_lt each
    have hsm : len ≤ 9223372036854775807 := by unfold maxLen at hm; omega
    refine ⟨some a, len, m, R, h1, by omega, by omega, hsm, fun h0 => ?_, fun i hi => (hR i (by omega)).2⟩
    have hs : a.spot = none := by
      have hc0 := (hR 0 (by omega)).1
      have e : a.add 0 = a := by simp [Addr.add]
      rw [e] at hc0
      cases hsp : a.spot with
      | none => rfl
      | some s =>
        exfalso
        unfold World.cell? at hc0
        split at hc0
        · simp [hsp] at hc0
        · cases hc0
    obtain ⟨b, off, spot⟩ := a
    obtain rfl : spot = none := hs
    have hrow : MemPlace.cell b off ∈ x.2 := by
      rw [h6']
      refine List.mem_append_left _ ?_
      unfold MemPlace.row
      rw [hc]
      exact List.mem_map.2 ⟨0, List.mem_range.2 (by omega), rfl⟩
    refine ⟨b, off, rfl, hb _ hrow, fun i hi => ?_⟩
    have := (hR i (by omega)).1
    rw [add_plain] at this
    exact this
set_option maxRecDepth 100000 in
theorem open_count {H : Type} {enc : TypeId × Value → H} {W : World} {r : Reach} {base : Nat} {v : Value} {d : DataW H} {p : List MemPlace} (hb : ∀ b ∈ p, b.block < W.heap.size)
    (hval : Value.okWide Try.prog W r base 26 v) (h : DataW.Trod enc Try.prog W 0 (fun _ => true) true 26 v d p) :
    ∃ (B1 : Option Addr) (k1 c1 : Nat) (R1 : Nat → Row) (B2 : Option Addr) (k2 c2 : Nat) (R2 : Nat → Row) (A : Option Addr) (n cap : Nat) (f : Nat → Int), v = .agg #[.slice B1 k1 c1, .slice B2 k2 c2, .slice A n cap] ∧ IsTab W B1 k1 R1 ∧ IsTab W B2 k2 R2 ∧ n ≤ cap ∧ (n ≤ 9223372036854775807 → IsInts W A n f) := by
  have hu : Try.prog.underlying 26 = some (.struct #[_, _, _]) := Try.underlying26
  simp only [Value.okWide, hu] at hval
  obtain ⟨cs, rfl, hsz, _⟩ := hval
  obtain ⟨fuel, hf⟩ := h
  obtain ⟨xs, k, rfl, hx, hl, hn, hfd⟩ := DataW.trod_struct hu hf
  have hp : p = xs.flatMap (·.2) := (Prod.mk.inj hx).2
  have hc : Try.prog.cellsOf 26 = 3 := by kernel_rfl
  have c3 : Try.prog.cellsOf 23 = 1 := by kernel_rfl
  have c4 : Try.prog.cellsOf 24 = 1 := by kernel_rfl
  rw [hc] at hsz
  obtain ⟨cl⟩ := cs
  obtain ⟨v0, v1, v2, rfl⟩ := list_three hsz
  obtain ⟨x0, x1, x2, rfl⟩ := list_three hn
  have h0 := hfd 0 _ rfl
  have h1 := hfd 1 _ rfl
  have h2 := hfd 2 _ rfl
  have h0' : DataW.trod enc Try.prog W 0 (fun _ => true) true k 23 (([v0, v1, v2].drop 0).take (Try.prog.cellsOf 23)) = some x0 := h0
  have h1' : DataW.trod enc Try.prog W 0 (fun _ => true) true k 23 (([v0, v1, v2].drop 1).take (Try.prog.cellsOf 23)) = some x1 := h1
  have h2' : DataW.trod enc Try.prog W 0 (fun _ => true) true k 24 (([v0, v1, v2].drop 2).take (Try.prog.cellsOf 24)) = some x2 := h2
  rw [c3] at h0' h1'
  rw [c4] at h2'
  obtain ⟨B1, k1, cc1, R1, e0, q1, q2, q3⟩ := lists_of (fun y hy => hb y (by rw [hp]; exact List.mem_flatMap.2 ⟨x0, by simp, hy⟩)) h0'
  obtain ⟨B2, k2, cc2, R2, e1, r1, r2, r3⟩ := lists_of (fun y hy => hb y (by rw [hp]; exact List.mem_flatMap.2 ⟨x1, by simp, hy⟩)) h1'
  obtain ⟨A, n, cap, f, e2, s1, s2, s3, s4⟩ := ints_of (fun y hy => hb y (by rw [hp]; exact List.mem_flatMap.2 ⟨x2, by simp, hy⟩)) h2'
  have e0' : [v0] = [Value.slice B1 k1 cc1] := e0
  have e1' : [v1] = [Value.slice B2 k2 cc2] := e1
  have e2' : [v2] = [Value.slice A n cap] := e2
  simp only [List.cons.injEq, and_true] at e0' e1' e2'
  subst e0' e1' e2'
  exact ⟨B1, k1, cc1, R1, B2, k2, cc2, R2, A, n, cap, f, rfl, q3, r3, s1, s3⟩
set_option maxRecDepth 100000 in
theorem sights_all {H : Type} {enc : TypeId × Value → H} {W : World} {fuel : Nat} {cs : List Value} {x : DataW H × List MemPlace} (hb : ∀ b ∈ x.2, b.block < W.heap.size)
    (h : DataW.trod enc Try.prog W 0 (fun _ => true) true fuel 22 cs = some x) :
    ∃ A n cap F T V, cs = [.slice A n cap] ∧ n ≤ cap ∧ cap ≤ maxLen ∧ (n ≤ 9223372036854775807 → IsChs W A n F T V) ∧ ∀ i, i < n → (Lit.int .i64 (F i)).wf = true ∧ (Lit.int .i64 (T i)).wf = true ∧ (Lit.int .i64 (V i)).wf = true := by
  have hc : Try.prog.cellsOf 44 = 3 := by kernel_rfl
  rcases open_slice Try.underlying22 h with ⟨h1, _⟩ | ⟨a, len, cap, m, k, D, Pl, h1, _, hl, hm, h5, h6, h7⟩
  · exact ⟨none, 0, 0, fun _ => 0, fun _ => 0, fun _ => 0, h1, by omega, by omega, fun _ => ⟨by omega, fun h => absurd h (by omega)⟩, fun i hi => absurd hi (by omega)⟩
  · rw [if_pos rfl] at h5
    subst h5
    have each : ∀ i, i < m → ∃ r : Int × Int × Int, (∀ j (v : Value), [Value.int .i64 r.1, .int .i64 r.2.1, .int .i64 r.2.2][j]? = some v → W.cell? ((a.add (i * 3)).add j) = some v) ∧ (Lit.int .i64 r.1).wf = true ∧ (Lit.int .i64 r.2.1).wf = true ∧ (Lit.int .i64 r.2.2).wf = true := fun i hi => by
      obtain ⟨cs', q1, q2⟩ := h7 i hi
      exact sight_cells q1 q2
    obtain ⟨r, hr⟩ := pick_lt each
    refine ⟨some a, len, m, fun i => (r i).1, fun i => (r i).2.1, fun i => (r i).2.2, h1, by omega, by omega, fun h60 => ⟨by omega, fun h0 => ?_⟩, fun i hi => (hr i (by omega)).2⟩
    have hs : a.spot = none := by
      have hc0 := (hr 0 (by omega)).1 0 _ rfl
      have e : (a.add (0 * 3)).add 0 = a := by simp [Addr.add]
      rw [e] at hc0
      cases hsp : a.spot with
      | none => rfl
      | some s =>
        exfalso
        unfold World.cell? at hc0
        split at hc0
        · simp [hsp] at hc0
        · cases hc0
    obtain ⟨b, off, spot⟩ := a
    obtain rfl : spot = none := hs
    have hrow : MemPlace.cell b off ∈ x.2 := by
      rw [h6]
      refine List.mem_append_left _ ?_
      unfold MemPlace.row
      rw [hc]
      exact List.mem_map.2 ⟨0, List.mem_range.2 (by omega), rfl⟩
    refine ⟨b, off, rfl, hb _ hrow, fun i hi => ?_, fun i hi => ?_, fun i hi => ?_⟩
    · have := (hr i (by omega)).1 0 _ rfl
      rw [add_plain, add_plain] at this
      exact this
    · have := (hr i (by omega)).1 1 _ rfl
      rw [add_plain, add_plain] at this
      exact this
    · have := (hr i (by omega)).1 2 _ rfl
      rw [add_plain, add_plain] at this
      exact this
set_option maxRecDepth 100000 in
theorem open_sights_all {H : Type} {enc : TypeId × Value → H} {W : World} {r : Reach} {base : Nat} {v : Value} {d : DataW H} {p : List MemPlace} (hb : ∀ b ∈ p, b.block < W.heap.size)
    (hval : Value.okWide Try.prog W r base 22 v) (h : DataW.Trod enc Try.prog W 0 (fun _ => true) true 22 v d p) :
    ∃ (A : Option Addr) (n cap : Nat) (X Y T : Nat → Int), v = .slice A n cap ∧ n ≤ cap ∧ cap ≤ maxLen ∧ (n ≤ 9223372036854775807 → IsChs W A n X Y T) ∧ ∀ i, i < n → (Lit.int .i64 (X i)).wf = true ∧ (Lit.int .i64 (Y i)).wf = true ∧ (Lit.int .i64 (T i)).wf = true := by
  obtain ⟨A, n, cap, rfl⟩ := okWide_slice Try.underlying22 hval
  obtain ⟨fuel, hf⟩ := h
  obtain ⟨A', n', cap', F, T, V, e, h1⟩ := sights_all hb hf
  have e' : [Value.slice A n cap] = [.slice A' n' cap'] := e
  simp only [List.cons.injEq, Value.slice.injEq, and_true] at e'
  obtain ⟨rfl, rfl, rfl⟩ := e'
  exact ⟨A, n, cap, F, T, V, rfl, h1⟩
set_option maxRecDepth 100000 in
set_option maxHeartbeats 3200000 in
theorem krvalid_all (s : Int) (A : Option Addr) (m cap : Nat) (X Y T : Nat → Int) (w : World) (hm : m ≤ 9223372036854775807) (hp : IsChs w A m X Y T) :
    Gives Try.prog 4 #[.slice A m cap, .int .i64 s] w (.bool (validW m s X Y T)) := by
  have HP := Lib.hid hp
  have FR := Lib.hid fun w' => rfrom_any 0 s 100 w'
  have HR : Hid (validW m s X Y T = ((decide (0 ≤ s) && decide (s ≤ 100)) && (decide (m ≤ 30) && allB m fun i => okS (X i) (Y i) (T i)))) := rfl
  clear hp
  generalize (decide (0 ≤ s) && decide (s ≤ 100)) = r1 at *
  generalize validW m s X Y T = r at *
  go_enter Try.func4, Try.ntmps4
  go_wp2
  go_loopw [5] (fun u wr => ∃ k : Nat, k ≤ m ∧ u = .int .i64 k ∧ (∀ j, j < k → okS (X j) (Y j) (T j) = true) ∧ ∃ x : Later w, wr = x.val) (fun u _ => m - (intOf u).toNat)
  case atStart => exact ⟨0, by omega, rfl, by omega, later_of (by repeat (first | exact Below.refl _ _ | (with_reducible assumption) | apply below_later | apply below_alloc | apply below_drew | apply below_drewN))⟩
  case round =>
    obtain ⟨k, hk, rfl, hall, x, rfl⟩ := hrel
    have HALL := Lib.hid hall
    clear hall
    by_cases hlt : k < m
    · obtain ⟨b, off, hB, p⟩ := (HP.out.later x).at_ (by omega)
      subst hB
      have cf := p.f k hlt
      have ct := p.t k hlt
      have cv := p.v k hlt
      have lb := p.lt
      clear p
      have P1 := Lib.hid fun w' => rplace_any (X k) (Y k) w'
      have P2 := Lib.hid fun w' => rday_any (T k) w'
      have HO : Hid (okS (X k) (Y k) (T k) = (((decide (-1000 ≤ X k) && decide (X k ≤ 1000)) && (decide (-1000 ≤ Y k) && decide (Y k ≤ 1000))) && (decide (0 ≤ T k) && decide (T k ≤ 10000)))) := rfl
      generalize ((decide (-1000 ≤ X k) && decide (X k ≤ 1000)) && (decide (-1000 ≤ Y k) && decide (Y k ≤ 1000))) = r2 at *
      generalize (decide (0 ≤ T k) && decide (T k ≤ 10000)) = r3 at *
      rcases r2 with _ | _
      · have F0 : Hid (okS (X k) (Y k) (T k) = false) := by show _ = _; rw [HO.out]; rfl
        clear HO
        go_wp2_with fail
        refine wp_region_later (by kernel_rfl) (by kernel_rfl) ?_
        repeat (go_big_quiet_step ((first | (go_at_call 16; (with_reducible refine Later.call _ (P1.out _))) | (go_at_call 17; (with_reducible refine Later.call _ (P2.out _))))))
        refine wpQuiet_nil ?_
        intro y
        go_wp2_with fail
        go_ret
        exact ⟨ret_bool (by rw [HR.out, allB_false hlt F0.out]; simp), later_of (by repeat (first | exact Below.refl _ _ | (with_reducible assumption) | apply below_later | apply below_alloc | apply below_drew | apply below_drewN))⟩
      · rcases r3 with _ | _
        · have F0 : Hid (okS (X k) (Y k) (T k) = false) := by show _ = _; rw [HO.out]; rfl
          clear HO
          go_wp2_with fail
          refine wp_region_later (by kernel_rfl) (by kernel_rfl) ?_
          repeat (go_big_quiet_step ((first | (go_at_call 16; (with_reducible refine Later.call _ (P1.out _))) | (go_at_call 17; (with_reducible refine Later.call _ (P2.out _))))))
          refine wpQuiet_nil ?_
          intro y
          go_wp2_with fail
          go_ret
          exact ⟨ret_bool (by rw [HR.out, allB_false hlt F0.out]; simp), later_of (by repeat (first | exact Below.refl _ _ | (with_reducible assumption) | apply below_later | apply below_alloc | apply below_drew | apply below_drewN))⟩
        · have F0 : Hid (okS (X k) (Y k) (T k) = true) := by show _ = _; rw [HO.out]; rfl
          clear HO
          go_wp2_with fail
          refine wp_region_later (by kernel_rfl) (by kernel_rfl) ?_
          repeat (go_big_quiet_step ((first | (go_at_call 16; (with_reducible refine Later.call _ (P1.out _))) | (go_at_call 17; (with_reducible refine Later.call _ (P2.out _))))))
          refine wpQuiet_nil ?_
          intro y
          go_wp2_with fail
          go_roundw
          case rel => exact ⟨k + 1, by omega, by go_num, all_step HALL.out F0.out, later_of (by repeat (first | exact Below.refl _ _ | (with_reducible assumption) | apply below_later | apply below_alloc | apply below_drew | apply below_drewN))⟩
          case measure => simp [intOf]; omega
    · obtain rfl : k = m := by omega
      have HA : Hid (allB k (fun i => okS (X i) (Y i) (T i)) = true) := allB_true (p := fun i => okS (X i) (Y i) (T i)) HALL.out
      by_cases h3 : k ≤ 30
      · go_wp2_with ((go_at_call 18; with_reducible refine Calls.mono (Gives.calls (FR.out _)) ?_; rintro e w1 ⟨rfl, z, rfl⟩))
        go_ret
        exact ⟨ret_bool (by rw [HR.out, HA.out]; simp [h3]), later_of (by repeat (first | exact Below.refl _ _ | (with_reducible assumption) | apply below_later | apply below_alloc | apply below_drew | apply below_drewN))⟩
      · go_wp2_with ((go_at_call 18; with_reducible refine Calls.mono (Gives.calls (FR.out _)) ?_; rintro e w1 ⟨rfl, z, rfl⟩))
        go_ret
        exact ⟨ret_bool (by rw [HR.out]; simp [h3]), later_of (by repeat (first | exact Below.refl _ _ | (with_reducible assumption) | apply below_later | apply below_alloc | apply below_drew | apply below_drewN))⟩
set_option maxRecDepth 100000 in
theorem topBird_any (A O : Option Addr) (n cap m c1 : Nat) (s : Int) (X Y T : Nat → Int) (c : Nat → Int) (V : World) (W : Watch n s X Y T) (hm : m ≤ 1000) (hp : IsChs V A n X Y T) (hc : IsInts V O m c) :
    Gives Try.prog 15 #[.slice A n cap, .int .i64 s, .slice O m c1] V (.bool (birdB (leadsR s X Y T) n c m)) := by
  have IB := Lib.hid fun (U : World) (h : Below V.heap.size V U) => IsBird_ok A O n cap m c1 s X Y T c U W hm (hp.below h) (hc.below h)
  generalize birdB (leadsR s X Y T) n c m = r at *
  clear hp hc W
  go_enter Try.func15, Try.ntmps15
  go_wp2_with (go_at_call 32; with_reducible refine Calls.mono (Gives.calls (IB.out _ (by repeat (first | exact Below.refl _ _ | (with_reducible assumption) | apply below_later | apply below_alloc | apply below_drew | apply below_drewN)))) ?_; rintro e w1 ⟨rfl, z, rfl⟩)
  go_ret
  exact ⟨rfl, later_of (by repeat (first | exact Below.refl _ _ | (with_reducible assumption) | apply below_later | apply below_alloc | apply below_drew | apply below_drewN))⟩
end Go.Proofs.Ytlljjaafejjeeaa
