/- slices.Compact over posts of one's own. -/
import Derived.Test.YtamhhbkjgfhfoaaDoorSort
import Derived.Test.YtamhhbkjgfhfoaaDoorAround
import Derived.Lib.SliceRun
namespace Go.Proofs.YtamhhbkjgfhfoaaDoor
open Go.RowKit

/-- The first j of a list, without those that are as the one ahead. -/
def ddN (l : List Pt) : Nat → List Pt
  | 0 => []
  | j + 1 => if 0 < j ∧ l[j]? = l[j - 1]? then ddN l j else ddN l j ++ (l[j]?).toList
theorem ddN_len (l : List Pt) : ∀ j, (ddN l j).length ≤ j
  | 0 => by simp [ddN]
  | j + 1 => by
    have := ddN_len l j
    unfold ddN
    split
    · omega
    · cases l[j]? <;> simp <;> omega
theorem ddN_plain {l : List Pt} : ∀ {k : Nat}, (∀ i, 0 < i → i < k → l[i]? ≠ l[i - 1]?) → ddN l k = l.take k
  | 0, _ => by simp [ddN]
  | k + 1, h => by
    have ih := ddN_plain (l := l) (k := k) fun i h0 hi => h i h0 (by omega)
    unfold ddN
    rw [if_neg (fun ⟨h0, e⟩ => h k h0 (by omega) e), ih, List.take_add_one]
theorem ddN_mem {l : List Pt} : ∀ {j : Nat}, ∀ x ∈ ddN l j, x ∈ l
  | 0, x, h => by simp [ddN] at h
  | j + 1, x, h => by
    unfold ddN at h
    split at h
    · exact ddN_mem x h
    · rcases List.mem_append.1 h with h | h
      · exact ddN_mem x h
      · cases hl : l[j]? with
        | none => rw [hl] at h; simp at h
        | some a =>
          rw [hl] at h
          obtain rfl : x = a := by simpa using h
          exact List.mem_of_getElem? hl

theorem run_clear_pair (w : World) (t e : TypeId) (z : Value) (a b : Value) (ht : Tryd.prog.underlying t = some (.slice e)) (hv : ∀ w, (zeroValue e).run Tryd.prog w = .ok z w) (hz : z.cells = #[a, b]) (h1 : a.oneCell' = true) (h2 : b.oneCell' = true) (g o n c : Nat) (hn : 0 < n)
    (hc : ∀ j, j < n * 2 → (w.cell? ⟨g, o + j, none⟩).isSome = true) (hf : ∀ j, j < n * 2 → w.frozen? ⟨g, o + j, none⟩ = false) :
    ∃ vs : List Value, vs.length = n * 2 ∧ ∀ ty : TypeId, (Builtin.clear_ #[t] ty #[.slice (some ⟨g, o, none⟩) n c]).run Tryd.prog w = .ok (.tuple #[]) (w.setCells g o vs) := by
  obtain ⟨vs, hvs⟩ : ∃ vs, (Builtin.zeroCells z.cells n).toList = vs := ⟨_, rfl⟩
  have hl : vs.length = n * 2 := by rw [← hvs, hz]; simp [Builtin.zeroCells]
  have ho : ∀ v ∈ vs, v.oneCell' = true := by
    intro v hv'
    rw [← hvs, hz] at hv'
    simp [Builtin.zeroCells] at hv'
    obtain ⟨i, _, rfl⟩ := hv'
    have hi : i % 2 = 0 ∨ i % 2 = 1 := by omega
    rcases hi with hi | hi
    · rw [hi]; exact h1
    · rw [hi]; exact h2
  refine ⟨vs, hl, fun ty => ?_⟩
  have hst := run_storeCells_cells (P := Tryd.prog) g o vs 0 w (by rw [hl]; simpa using hc) (by rw [hl]; simpa using hf) ho
  simp only [Nat.add_zero] at hst
  obtain ⟨m, rfl⟩ : ∃ m, n = m + 1 := ⟨n - 1, by omega⟩
  simp [Builtin.clear_, run_underlying ht, hv, hvs, hst]

/-- Stores into a row of one's own, behind a place, leave what lies ahead of it. -/
theorem own_many {base g n cap : Nat} : ∀ (vs : List Value) (o : Nat) (w : World) (xs : List Value), w.ownsRow base 34 2 (.slice (some ⟨g, 0, none⟩) n cap) n xs →
    ∃ ys, (w.setCells g o vs).ownsRow base 34 2 (.slice (some ⟨g, 0, none⟩) n cap) n ys ∧ ys.take o = xs.take o ∧ w.grownBy (w.setCells g o vs) (some g)
  | [], o, w, xs, h => ⟨xs, h, rfl, World.grownBy.refl _ _⟩
  | v :: vs, o, w, xs, h => by
    have h1 := (World.ownsRow.stored h o v).1
    obtain ⟨ys, h2, h3, h4⟩ := own_many vs (o + 1) _ _ h1
    refine ⟨ys, h2, ?_, (grown_set _ _).trans h4⟩
    have := congrArg (List.take o) h3
    rw [List.take_take, List.take_take, Nat.min_eq_left (by omega), List.take_set_of_le (by omega)] at this
    exact this

theorem own_head {w : World} {base g n cap q : Nat} {L : List Pt} {ys : List Value} (h : w.ownsRow base 34 2 (.slice (some ⟨g, 0, none⟩) n cap) n ys) (hy : ys.take (q * 2) = (cells2 L).take (q * 2)) (hL : L.length = n) (hq : q ≤ n) :
    OwnP w base (.slice (some ⟨g, 0, none⟩) q cap) (L.take q) := by
  have hl : (L.take q).length = q := by simp; omega
  have hc : cells2 (L.take q) = (cells2 L).take (q * 2) := by
    have e : cells2 L = cells2 (L.take q) ++ cells2 (L.drop q) := by rw [← cells2_append, List.take_append_drop]
    conv => rhs; rw [e]
    rw [List.take_append_of_le_length (by rw [cells2_length, hl]; omega)]
    exact (List.take_of_length_le (by rw [cells2_length, hl]; omega)).symm
  unfold OwnP World.ownsRow at *
  rw [hl]
  refine ⟨by rw [cells2_length, hl], ?_⟩
  rcases h.2 with ⟨e, _⟩ | ⟨g', cap', cur, e, h1, h2, h3, h4, h5, h6⟩
  · cases e
  · simp only [Value.slice.injEq, Option.some.injEq, Addr.mk.injEq] at e
    obtain ⟨⟨rfl, _, _⟩, _, rfl⟩ := e
    refine .inr ⟨g, cap, cur, rfl, h1, h2, by omega, h4, h5, ?_⟩
    rw [hc, ← hy, ← h6, List.take_take]
    congr 1
    omega
theorem take_set_last {L : List Pt} {q : Nat} (hq : q < L.length) (a : Pt) : (L.set q a).take (q + 1) = L.take q ++ [a] := by
  rw [List.take_add_one, List.take_set_of_le (Nat.le_refl _), List.getElem?_set_self hq]
  rfl
theorem hx_set_ne {L : List Pt} {q i : Nat} (h : q ≠ i) (a : Pt) : hx (L.set q a) i = hx L i ∧ hy (L.set q a) i = hy L i := by
  unfold hx hy
  rw [List.getD_eq_getElem?_getD, List.getD_eq_getElem?_getD, List.getElem?_set_ne h]
  exact ⟨rfl, rfl⟩
def CompP (w : World) (g base cap : Nat) (l : List Pt) (e : Ending) (w' : World) : Prop := e = .returned (.slice (some ⟨g, 0, none⟩) l.length cap) ∧ Wrote w g base (.slice (some ⟨g, 0, none⟩) l.length cap) l w'
def sameP (l : List Pt) (i k : Nat) : Bool := hx l i == hx l k && hy l i == hy l k
theorem get_hxy {l : List Pt} {i : Nat} (h : i < l.length) : l[i]? = some (hx l i, hy l i) := by
  unfold hx hy
  rw [List.getD_eq_getElem?_getD, List.getElem?_eq_getElem h]
  rfl
theorem same_iff {l : List Pt} {i k : Nat} (hi : i < l.length) (hk : k < l.length) : l[i]? = l[k]? ↔ sameP l i k = true := by
  rw [get_hxy hi, get_hxy hk]
  unfold sameP
  simp

set_option maxRecDepth 100000 in
set_option maxHeartbeats 3200000 in
theorem compact_any (g n cap base : Nat) (l : List Pt) (w : World) (hn : l.length = n) (h0 : 0 < n) (hb : n ≤ 1000) (ho : OwnP w base (.slice (some ⟨g, 0, none⟩) n cap) l) :
    Calls Tryd.prog 19 #[.slice (some ⟨g, 0, none⟩) n cap] w (CompP w g base cap (ddN l n)) := by
  have hcap : n ≤ cap := by
    obtain ⟨_, _, e, _, _, h⟩ := ho.form hn h0
    simp only [Value.slice.injEq, Option.some.injEq, Addr.mk.injEq] at e
    omega
  have hgl : g < w.heap.size := by
    obtain ⟨_, _, e, _, h, _⟩ := ho.form hn h0
    simp only [Value.slice.injEq, Option.some.injEq, Addr.mk.injEq] at e
    omega
  have HO := Lib.hid ho
  have HN := Lib.hid hn
  by_cases h1 : n < 2
  · have e : Hid (ddN l n = l) := by
      show _ = _
      rw [ddN_plain (fun i h0 hi => by omega), List.take_of_length_le (by omega)]
    clear ho hn
    go_enter Tryd.func19, Tryd.ntmps19
    go_wp2
    go_ret
    unfold CompP
    rw [e.out, HN.out]
    exact ⟨rfl, World.grownBy.refl _ _, HO.out⟩
  · clear ho hn
    go_enter Tryd.func19, Tryd.ntmps19
    go_wp2
    go_loopw [3] (fun v wr => ∃ k : Nat, 1 ≤ k ∧ k ≤ n ∧ v = .int .i64 k ∧ (∀ i, 0 < i → i < k → l[i]? ≠ l[i - 1]?) ∧ ∃ x : Later w, wr = x.val) (fun v _ => n - (intOf v).toNat)
    case atStart => exact ⟨1, by omega, by omega, rfl, by omega, later_of (by repeat (first | exact Below.refl _ _ | (with_reducible assumption) | apply below_later | apply below_alloc | apply below_drew | apply below_drewN))⟩
    case round =>
      obtain ⟨k, hk1, hk, rfl, hd, x, rfl⟩ := hrel
      have HD := Lib.hid hd
      clear hd
      by_cases hlt : k < n
      · obtain ⟨p, hp⟩ : ∃ p : Nat, (k : Int) - 1 = p := ⟨k - 1, by omega⟩
        have hpn : p < n := by omega
        obtain ⟨c1, c2, c3⟩ := HO.out.cell HN.out hlt
        obtain ⟨c4, c5, _⟩ := HO.out.cell HN.out hpn
        have wp : IntKind.i64.wrap ((k : Int) - 1) = (p : Int) := by rw [IntWalk.i64_in _ (by omega)]; exact hp
        clear c3
        by_cases h1' : hx l k = hx l p
        · by_cases h2' : hy l k = hy l p
          · have HS : Hid (sameP l k p = true) := by
              show _ = _
              unfold sameP
              rw [h1', h2']
              simp
            have hkc : k < cap := by omega
            have hkc2 : k ≠ cap := by omega
            go_wp2_with fail
            first | (with_reducible show Code.wp _ _ _ _ (Later.val _); refine wp_region_later_at _ (by kernel_rfl) (by kernel_rfl) ?_) | refine wp_region_later (by kernel_rfl) (by kernel_rfl) ?_
            repeat (go_big_quiet_step ((fail)))
            refine wpQuiet_nil ?_
            intro y
            have hys := y.size
            have HY := Lib.hid (HO.out.later y)
            clear c1 c2 c4 c5
            go_wp2
            generalize hs' : n - k = s
            generalize hc' : cap - k = cc
            have hk0 : k + s = n := by omega
            have HZ : Hid (l.take k = ddN l (k + 1)) := by
              show _ = _
              have hpk : k - 1 = p := by omega
              rw [ddN, if_pos ⟨by omega, by rw [hpk, same_iff (by rw [HN.out]; exact hlt) (by rw [HN.out]; exact hpn)]; exact HS.out⟩, ddN_plain HD.out]
            have HGY := Lib.hid (World.grownBy.but (grown_of_later y) (some g))
            have hsc : s ≤ cc := by omega
            have HK0 := Lib.hid hk0
            clear hs' hc' h1' h2'
            go_loopw [3, 5] (fun i v wr => ∃ (q t : Nat) (L : List Pt), i = .int .i64 q ∧ v = .int .i64 t ∧ 1 ≤ t ∧ t ≤ s ∧ 1 ≤ q ∧ q + 1 ≤ k + t ∧ L.length = n ∧ L.take q = ddN l (k + t) ∧ (∀ i, k + t ≤ i + 1 → i < n → hx L i = hx l i ∧ hy L i = hy l i) ∧ OwnP wr base (.slice (some ⟨g, 0, none⟩) n cap) L ∧ w.grownBy wr (some g)) (fun _ v _ => s - (intOf v).toNat)
            case atStart => exact ⟨k, 1, l, rfl, rfl, by omega, by omega, by omega, by omega, HN.out, HZ.out, fun _ _ _ => ⟨rfl, rfl⟩, HY.out, HGY.out⟩
            case round =>
              obtain ⟨q, t, L, rfl, rfl, ht1, hts, hq1, hqt, hL, htk, hsame, how, hgr⟩ := hrel
              have HW := Lib.hid how
              have HGR := Lib.hid hgr
              have HTK := Lib.hid htk
              have HSA := Lib.hid hsame
              have HL := Lib.hid hL
              clear how hgr htk hsame hL
              by_cases htl : t < s
              · obtain ⟨r, hr⟩ : ∃ r : Nat, (t : Int) - 1 = r := ⟨t - 1, by omega⟩
                obtain ⟨c1, c2, c3⟩ := HW.out.cell HL.out (i := k + t) (by omega)
                obtain ⟨c4, c5, _⟩ := HW.out.cell HL.out (i := k + r) (by omega)
                obtain ⟨a1, a2⟩ := HSA.out (k + t) (by omega) (by omega)
                obtain ⟨a3, a4⟩ := HSA.out (k + r) (by omega) (by omega)
                rw [a1, show (k + t) * 2 = k * 2 + t * 2 by omega] at c1
                rw [a2, show (k + t) * 2 = k * 2 + t * 2 by omega] at c2
                rw [a3, show (k + r) * 2 = k * 2 + r * 2 by omega] at c4
                rw [a4, show (k + r) * 2 = k * 2 + r * 2 by omega] at c5
                have f1 := c3 (q * 2)
                have f2 := c3 (q * 2 + 1)
                have wr' : IntKind.i64.wrap ((t : Int) - 1) = (r : Int) := by rw [IntWalk.i64_in _ (by omega)]; exact hr
                have hgw : g < wr.heap.size := World.block_lt_of_cell? _ _ c1
                have hrs : r < s := by omega
                have hqn : q < n := by omega
                clear c3 a1 a2 a3 a4
                by_cases e1 : hx l (k + t) = hx l (k + r)
                · by_cases e2 : hy l (k + t) = hy l (k + r)
                  · go_wp2_with fail
                    refine wp_region_later (by kernel_rfl) (by kernel_rfl) ?_
                    repeat (go_big_quiet_step ((fail)))
                    refine wpQuiet_nil ?_
                    intro z
                    go_wp2
                    go_roundw
                    case rel =>
                      refine ⟨q, t + 1, L, rfl, by go_num, by omega, by omega, hq1, by omega, HL.out, ?_, fun i h1 h2 => HSA.out i (by omega) h2, HW.out.later z, HGR.out.trans (World.grownBy.but (grown_of_later z) _)⟩
                      have hpk : k + t - 1 = k + r := by omega
                      show L.take q = ddN l (k + t + 1)
                      rw [ddN, if_pos ⟨by omega, by rw [hpk, same_iff (by rw [HN.out]; omega) (by rw [HN.out]; omega)]; unfold sameP; rw [e1, e2]; simp⟩, HTK.out]
                    case measure => simp [intOf]; omega
                  · have NS : Hid (sameP l (k + t) (k + r) = false) := by
                      show _ = _
                      unfold sameP
                      simp [e2]
                    go_wp2_with fail
                    refine wp_region_later (by kernel_rfl) (by kernel_rfl) ?_
                    repeat (go_big_quiet_step ((fail)))
                    refine wpQuiet_nil ?_
                    intro z
                    have hzs := z.size
                    have hgz : g < z.val.heap.size := by omega
                    have b1 : z.val.cell? ⟨g, k * 2 + t * 2, none⟩ = some (.int .i64 (hx l (k + t))) := (z.cell _ _ hgw).trans c1
                    have b2 : z.val.cell? ⟨g, k * 2 + t * 2 + 1, none⟩ = some (.int .i64 (hy l (k + t))) := (z.cell _ _ hgw).trans c2
                    have b3 : z.val.frozen? ⟨g, q * 2, none⟩ = false := (z.frozen _ _ hgw).trans f1
                    have b4 : z.val.frozen? ⟨g, q * 2 + 1, none⟩ = false := (z.frozen _ _ hgw).trans f2
                    have HWZ := Lib.hid (HW.out.later z)
                    obtain ⟨b5, b6, _⟩ := HWZ.out.cell HL.out (i := q) (by omega)
                    clear c1 c2 c4 c5 f1 f2
                    go_wp2
                    go_roundw
                    case rel =>
                      refine ⟨q + 1, t + 1, L.set q (hx l (k + t), hy l (k + t)), by go_num, by go_num, by omega, by omega, by omega, by omega, by rw [List.length_set]; exact HL.out, ?_, fun i h1 h2 => ?_, ?_, ?_⟩
                      · have hpk : k + t - 1 = k + r := by omega
                        show (L.set q _).take (q + 1) = ddN l (k + t + 1)
                        rw [take_set_last (by rw [HL.out]; exact hqn), ddN, if_neg (fun ⟨_, e⟩ => by rw [hpk, same_iff (by rw [HN.out]; omega) (by rw [HN.out]; omega), NS.out] at e; cases e), HTK.out, get_hxy (by rw [HN.out]; omega)]
                        rfl
                      · obtain ⟨g1, g2⟩ := hx_set_ne (L := L) (q := q) (i := i) (by omega) (hx l (k + t), hy l (k + t))
                        obtain ⟨g3, g4⟩ := HSA.out i (by omega) h2
                        exact ⟨g1.trans g3, g2.trans g4⟩
                      · first | exact HWZ.out.set HL.out (by omega) _ _ | (have h := HWZ.out.set HL.out (i := q) hqn (hx l (k + t)) (hy l (k + t)); rw [e1] at h ⊢; exact h)
                      · exact HGR.out.trans ((World.grownBy.but (grown_of_later z) _).trans ((grown_set _ _).trans (grown_set _ _)))
                    case measure => simp [intOf]; omega
                · have NS : Hid (sameP l (k + t) (k + r) = false) := by
                    show _ = _
                    unfold sameP
                    simp [e1]
                  go_wp2_with fail
                  refine wp_region_later (by kernel_rfl) (by kernel_rfl) ?_
                  repeat (go_big_quiet_step ((fail)))
                  refine wpQuiet_nil ?_
                  intro z
                  have hzs := z.size
                  have hgz : g < z.val.heap.size := by omega
                  have b1 : z.val.cell? ⟨g, k * 2 + t * 2, none⟩ = some (.int .i64 (hx l (k + t))) := (z.cell _ _ hgw).trans c1
                  have b2 : z.val.cell? ⟨g, k * 2 + t * 2 + 1, none⟩ = some (.int .i64 (hy l (k + t))) := (z.cell _ _ hgw).trans c2
                  have b3 : z.val.frozen? ⟨g, q * 2, none⟩ = false := (z.frozen _ _ hgw).trans f1
                  have b4 : z.val.frozen? ⟨g, q * 2 + 1, none⟩ = false := (z.frozen _ _ hgw).trans f2
                  have HWZ := Lib.hid (HW.out.later z)
                  obtain ⟨b5, b6, _⟩ := HWZ.out.cell HL.out (i := q) (by omega)
                  clear c1 c2 c4 c5 f1 f2
                  go_wp2
                  go_roundw
                  case rel =>
                    refine ⟨q + 1, t + 1, L.set q (hx l (k + t), hy l (k + t)), by go_num, by go_num, by omega, by omega, by omega, by omega, by rw [List.length_set]; exact HL.out, ?_, fun i h1 h2 => ?_, ?_, ?_⟩
                    · have hpk : k + t - 1 = k + r := by omega
                      show (L.set q _).take (q + 1) = ddN l (k + t + 1)
                      rw [take_set_last (by rw [HL.out]; exact hqn), ddN, if_neg (fun ⟨_, e⟩ => by rw [hpk, same_iff (by rw [HN.out]; omega) (by rw [HN.out]; omega), NS.out] at e; cases e), HTK.out, get_hxy (by rw [HN.out]; omega)]
                      rfl
                    · obtain ⟨g1, g2⟩ := hx_set_ne (L := L) (q := q) (i := i) (by omega) (hx l (k + t), hy l (k + t))
                      obtain ⟨g3, g4⟩ := HSA.out i (by omega) h2
                      exact ⟨g1.trans g3, g2.trans g4⟩
                    · first | exact HWZ.out.set HL.out (by omega) _ _ | (have h := HWZ.out.set HL.out (i := q) hqn (hx l (k + t)) (hy l (k + t)); rw [e1] at h ⊢; exact h)
                    · exact HGR.out.trans ((World.grownBy.but (grown_of_later z) _).trans ((grown_set _ _).trans (grown_set _ _)))
                  case measure => simp [intOf]; omega
              · obtain rfl : t = s := by omega
                have hqn : q < n := by omega
                have hqc : q < cap := by omega
                have hqc2 : q ≠ cap := by omega
                have HT2 : Hid (L.take q = ddN l n) := by have := HTK.out; rw [HK0.out] at this; exact this
                have hlen : Hid ((ddN l n).length = q) := by
                  show _ = _
                  rw [← HT2.out, List.length_take, HL.out]
                  omega
                obtain ⟨vs, hvl, hclr⟩ := run_clear_pair wr 22 34 (.agg #[.int .i64 0, .int .i64 0]) (.int .i64 0) (.int .i64 0) Tryd.underlying22 Tryd.zeroValue34 rfl rfl rfl g (q * 2) (n - q) (cap - q) (by omega)
                  (fun j hj => by
                    have := World.ownsRow.cellAt (by have h := HW.out; unfold OwnP at h; rw [HL.out] at h; exact h) (q * 2 + j) (by omega)
                    rw [this, List.getElem?_eq_getElem (by rw [cells2_length, HL.out]; omega)]
                    rfl)
                  (fun j hj => by
                    have h := HW.out
                    unfold OwnP at h
                    rw [HL.out] at h
                    exact World.ownsRow.frozenAt h _)
                have hO : Hid (wr.ownsRow base 34 2 (.slice (some ⟨g, 0, none⟩) n cap) n (cells2 L)) := by have h := HW.out; unfold OwnP at h; rw [HL.out] at h; exact h
                obtain ⟨ys, o1, o2, o3⟩ := own_many vs (q * 2) wr _ hO.out
                have O1 := Lib.hid o1
                have O2 := Lib.hid o2
                have O3 := Lib.hid o3
                clear o1 o2 o3 hvl
                generalize wr.setCells g (q * 2) vs = wc at *
                go_wp2
                go_ret
                unfold CompP
                rw [hlen.out]
                refine ⟨rfl, HGR.out.trans O3.out, ?_⟩
                rw [← HT2.out]
                exact own_head O1.out O2.out HL.out (by omega)
          · have HS : Hid (sameP l k p = false) := by
              show _ = _
              unfold sameP
              simp [h2']
            go_wp2_with fail
            first | (with_reducible show Code.wp _ _ _ _ (Later.val _); refine wp_region_later_at _ (by kernel_rfl) (by kernel_rfl) ?_) | refine wp_region_later (by kernel_rfl) (by kernel_rfl) ?_
            repeat (go_big_quiet_step ((fail)))
            refine wpQuiet_nil ?_
            intro y
            go_wp2
            go_roundw
            case rel =>
              refine ⟨k + 1, by omega, by omega, by go_num, fun i hi0 hi => ?_, later_of (by repeat (first | exact Below.refl _ _ | (with_reducible assumption) | apply below_later | apply below_alloc | apply below_drew | apply below_drewN))⟩
              rcases Nat.lt_or_ge i k with h | h
              · exact HD.out i hi0 h
              · obtain rfl : i = k := by omega
                intro e
                have hpk : i - 1 = p := by omega
                rw [hpk, same_iff (by rw [HN.out]; exact hlt) (by rw [HN.out]; exact hpn), HS.out] at e
                cases e
            case measure => simp [intOf]; omega
        · have HS : Hid (sameP l k p = false) := by
            show _ = _
            unfold sameP
            simp [h1']
          go_wp2_with fail
          first | (with_reducible show Code.wp _ _ _ _ (Later.val _); refine wp_region_later_at _ (by kernel_rfl) (by kernel_rfl) ?_) | refine wp_region_later (by kernel_rfl) (by kernel_rfl) ?_
          repeat (go_big_quiet_step ((fail)))
          refine wpQuiet_nil ?_
          intro y
          go_wp2
          go_roundw
          case rel =>
            refine ⟨k + 1, by omega, by omega, by go_num, fun i hi0 hi => ?_, later_of (by repeat (first | exact Below.refl _ _ | (with_reducible assumption) | apply below_later | apply below_alloc | apply below_drew | apply below_drewN))⟩
            rcases Nat.lt_or_ge i k with h | h
            · exact HD.out i hi0 h
            · obtain rfl : i = k := by omega
              intro e
              have hpk : i - 1 = p := by omega
              rw [hpk, same_iff (by rw [HN.out]; exact hlt) (by rw [HN.out]; exact hpn), HS.out] at e
              cases e
          case measure => simp [intOf]; omega
      · obtain rfl : k = n := by omega
        have e : Hid (ddN l k = l) := by
          show _ = _
          rw [ddN_plain HD.out, List.take_of_length_le (by rw [HN.out]; omega)]
        go_wp2
        go_ret
        unfold CompP
        rw [e.out, HN.out]
        exact ⟨rfl, World.grownBy.but (grown_of_later x) _, HO.out.later x⟩
end Go.Proofs.YtamhhbkjgfhfoaaDoor
