/- Lists of bools of one's own; the document's After. -/
import Derived.Test.YtnjloomhhgilcaaWAfter2
namespace Go.Proofs.Ytnjloomhhgilcaa
open Go.RowKit

def cellsB (n : Nat) (E : Nat → Bool) : List Value := (List.range n).map fun i => .bool (E i)
theorem cellsB_length (n : Nat) (E : Nat → Bool) : (cellsB n E).length = n := by simp [cellsB]
theorem cellsB_get {n i : Nat} {E : Nat → Bool} (h : i < n) : (cellsB n E)[i]? = some (.bool (E i)) := by simp [cellsB, h]
theorem cellsB_set {n j : Nat} {E : Nat → Bool} (b : Bool) : (cellsB n E).set j (.bool b) = cellsB n fun i => if i = j then b else E i := by
  apply List.ext_getElem?
  intro i
  rcases Nat.lt_or_ge i n with h | h
  · rw [List.getElem?_set, cellsB_get h]
    by_cases e : j = i
    · subst e; rw [if_pos rfl, if_pos (by rw [cellsB_length]; exact h), cellsB_get h, if_pos rfl]
    · have e2 : i ≠ j := fun q => e q.symm
      rw [if_neg e, cellsB_get h, if_neg e2]
  · rw [List.getElem?_eq_none (by simp [cellsB_length]; omega), List.getElem?_eq_none (by simp [cellsB_length]; omega)]
/-- n bools of one's own. -/
def OwnB (w : World) (base : Nat) (v : Value) (n : Nat) (E : Nat → Bool) : Prop := w.ownsRow base 4 1 v n (cellsB n E)
section
variable {w : World} {base g n cap : Nat} {v : Value} {E : Nat → Bool}
theorem OwnB.later (h : OwnB w base v n E) (x : Later w) : OwnB x.val base v n E := own_later h x
theorem OwnB.below {V : World} (h : OwnB w base v n E) (hb : Below w.heap.size w V) : OwnB V base v n E := own_later h ⟨V, hb⟩
theorem OwnB.mono {base' : Nat} (h : OwnB w base v n E) (hb : base' ≤ base) : OwnB w base' v n E :=
  ⟨h.1, h.2.imp id fun ⟨g, cap, cur, e, hg, r⟩ => ⟨g, cap, cur, e, Nat.le_trans hb hg, r⟩⟩
theorem OwnB.congr {E' : Nat → Bool} (h : OwnB w base v n E) (e : ∀ i, i < n → E i = E' i) : OwnB w base v n E' := by
  have : cellsB n E = cellsB n E' := List.map_congr_left fun i hi => by rw [e i (List.mem_range.1 hi)]
  unfold OwnB at *
  rw [← this]
  exact h
theorem OwnB.cell {i : Nat} (h : OwnB w base (.slice (some ⟨g, 0, none⟩) n cap) n E) (hi : i < n) : w.cell? ⟨g, i, none⟩ = some (.bool (E i)) ∧ (∀ j, w.frozen? ⟨g, j, none⟩ = false) ∧ g < w.heap.size := by
  refine ⟨?_, fun j => World.ownsRow.frozenAt h j, (own_lt h g rfl).2⟩
  rw [World.ownsRow.cellAt h i (by omega), cellsB_get hi]
theorem OwnB.set (h : OwnB w base (.slice (some ⟨g, 0, none⟩) n cap) n E) (j : Nat) (b : Bool) : OwnB (w.setCell ⟨g, j, none⟩ (.bool b)) base (.slice (some ⟨g, 0, none⟩) n cap) n fun i => if i = j then b else E i := by
  have h1 := (World.ownsRow.stored h j (.bool b)).1
  unfold OwnB
  rw [← cellsB_set]
  exact h1
end
theorem infoBl : (Try.prog.info? 4).map (fun i => (i.zero, i.size, i.bytes)) = some (some (.bool false), 1, 1) := by kernel_rfl
theorem make_bools (w : World) (n : Nat) (hn : n ≤ 1000000) :
    (Instr.makeSlice 62 (.int .i64 (n : Int)) (.int .i64 (n : Int))).run Try.prog w = .ok (.slice (some ⟨w.heap.size, 0, none⟩) n n) (w.alloc (.cells (madeCells #[Value.bool false] n) 4)) := by
  have h := infoBl
  cases hi : Try.prog.info? 4 with
  | none => rw [hi] at h; cases h
  | some i =>
    rw [hi] at h
    simp only [Option.map_some, Option.some.injEq, Prod.mk.injEq] at h
    have := run_make (P := Try.prog) w 62 4 i (.bool false) Try.underlying62 hi h.1 .i64 .i64 n n (by omega) (Int.le_refl _) (by rw [h.2.2]; omega) (by omega)
    rw [h.2.1, Nat.mul_one, Int.toNat_natCast] at this
    exact this
theorem madeB (n : Nat) : (madeCells #[Value.bool false] n).toList = cellsB n fun _ => false := by
  apply List.ext_getElem?
  intro i
  simp only [cellsB, madeCells]
  simp [Nat.mod_one]
theorem made_ownB (w : World) (n base : Nat) (hb : base ≤ w.heap.size) (hn : n ≤ 1000000) : OwnB (w.alloc (.cells (madeCells #[Value.bool false] n) 4)) base (.slice (some ⟨w.heap.size, 0, none⟩) n n) n fun _ => false := by
  unfold OwnB
  rw [← madeB]
  exact World.ownsRow_lit w _ n hb (by unfold maxLen; omega) (by rw [size_madeCells, Nat.mul_one])

set_option maxRecDepth 100000 in
set_option maxHeartbeats 6400000 in
theorem rafter_any (n m cap start years : Nat) (A : Option Addr) (f t : Nat → Nat) (V : Nat → Int) (w : World) (hs : start < n) (hy : years ≤ 100) (R : Rot n m f t V) (hp : IsChs w A m (fun i => (f i : Int)) (fun i => (t i : Int)) V) :
    Calls Try.prog 15 #[.int .i64 n, .slice A m cap, .int .i64 start, .int .i64 years] w fun e w' => ∃ v, e = .returned v ∧ ∃ x : Later w, w' = x.val ∧ OwnI w' w.heap.size v (natZ ((List.range n).filter (endsB m f t start years))) := by
  have hn8 := R.n8
  have hm40 := R.m40
  have HP := Lib.hid hp
  have HR := Lib.hid R
  have MK : ∀ w', (Instr.makeSlice 62 (.int .i64 (n : Int)) (.int .i64 (n : Int))).run Try.prog w' = .ok (.slice (some ⟨w'.heap.size, 0, none⟩) n n) (w'.alloc (.cells (madeCells #[Value.bool false] n) 4)) := fun w' => make_bools w' n (by omega)
  have m1 := made_ownB w n w.heap.size (Nat.le_refl _) (by omega)
  obtain ⟨q0, q1, q2⟩ := m1.cell hs
  have q3 := q1 start
  have M2 : Hid (OwnB ((w.alloc (.cells (madeCells #[Value.bool false] n) 4)).setCell ⟨w.heap.size, start, none⟩ (.bool true)) w.heap.size (.slice (some ⟨w.heap.size, 0, none⟩) n n) n (endsB m f t start 0)) := (m1.set start true).congr fun i _ => by
    by_cases e : i = start <;> simp [endsB, e]
  obtain ⟨i0, hi0, hz0, hz1, hz2⟩ := info_int
  clear hp R m1 q1
  go_enter Try.func15, Try.ntmps15
  go_wp2
  have e0 : (w.alloc (.cells (madeCells #[Value.bool false] n) 4)).setCell ⟨w.heap.size, start, none⟩ (.bool true) = w.alloc (.cells ((madeCells #[Value.bool false] n).setIfInBounds start (.bool true)) 4) := by simp [go_sem]
  rw [e0] at M2
  have HBP : Hid (Below w.heap.size w (w.alloc (.cells ((madeCells #[Value.bool false] n).setIfInBounds start (.bool true)) 4))) := (Below.refl _ _).alloc (Nat.le_refl _) _
  clear q0 q2 q3 e0
  go_loopw [9, 10] (fun u v wr => ∃ (y g : Nat), u = .slice (some ⟨g, 0, none⟩) n n ∧ v = .int .i64 (y : Nat) ∧ y ≤ years ∧ Below w.heap.size w wr ∧ OwnB wr w.heap.size (.slice (some ⟨g, 0, none⟩) n n) n (endsB m f t start y)) (fun _ v _ => years - (intOf v).toNat)
  case atStart => exact ⟨0, w.heap.size, rfl, rfl, by omega, HBP.out, M2.out⟩
  case round =>
    obtain ⟨y, g, rfl, rfl, hyy, hbl, ho⟩ := hrel
    have HBL := Lib.hid hbl
    have HO := Lib.hid ho
    clear hbl ho M2 HBP
    generalize wr = U at *
    have HPU : Hid (IsChs U A m (fun i => (f i : Int)) (fun i => (t i : Int)) V) := HP.out.below HBL.out
    by_cases hlt : y < years
    · have HE : Hid (∀ s, endsB m f t start (y + 1) s = partE f t (endsB m f t start y) m s) := fun s => rfl
      generalize endsB m f t start y = E at *
      have M3 := Lib.hid (made_ownB U n U.heap.size (Nat.le_refl _) (by omega))
      have HB3 : Hid (Below U.heap.size U (U.alloc (.cells (madeCells #[Value.bool false] n) 4))) := (Below.refl _ _).alloc (Nat.le_refl _) _
      go_wp2
      go_loopw [12] (fun v wr => ∃ k : Nat, v = .int .i64 (k : Nat) ∧ k ≤ m ∧ Below U.heap.size U wr ∧ OwnB wr U.heap.size (.slice (some ⟨U.heap.size, 0, none⟩) n n) n (partE f t E k)) (fun v _ => m - (intOf v).toNat)
      case atStart => exact ⟨0, rfl, by omega, HB3.out, M3.out⟩
      case round =>
        obtain ⟨k, rfl, hk, hb2, ho2⟩ := hrel
        have HB2 := Lib.hid hb2
        have HO2 := Lib.hid ho2
        clear hb2 ho2 HB3 M3 MK
        generalize wr = X at *
        by_cases hkm : k < m
        · obtain ⟨ba, oa, hA, p⟩ := (HPU.out.below HB2.out).at_ (by omega)
          rw [hA]
          clear hA
          have hfk := HR.out.f k hkm
          have htk := HR.out.t k hkm
          have cf := p.f k hkm
          have ct := p.t k hkm
          have lp := p.lt
          obtain ⟨q0, _, q2⟩ := (HO.out.below HB2.out).cell hfk
          obtain ⟨_, r1, r2⟩ := HO2.out.cell htk
          have r3 := (HO2.out.cell htk).1
          have r4 := r1 (t k)
          have PS : Hid (∀ s, partE f t E (k + 1) s = (partE f t E k s || (E (f k) && decide (t k = s)))) := fun s => partE_succ f t E k s
          clear p r1
          cases hE : E (f k)
          case false =>
            rw [hE] at q0
            have PS2 : Hid (∀ s, partE f t E k s = partE f t E (k + 1) s) := fun s => by rw [PS.out, hE]; simp
            clear hE
            go_wp2_with fail
            go_roundw
            case rel => exact ⟨k + 1, by go_num, by omega, HB2.out, HO2.out.congr fun i _ => PS2.out i⟩
            case measure => simp [intOf]; omega
          case true =>
            rw [hE] at q0
            have PS2 : Hid (∀ s, (if s = t k then true else partE f t E k s) = partE f t E (k + 1) s) := fun s => by
              rw [PS.out, hE, Bool.true_and]
              by_cases e : s = t k
              · subst e; simp
              · have e2 : t k ≠ s := fun q => e q.symm
                simp [e, e2]
            clear hE
            go_wp2_with fail
            go_roundw
            case rel => exact ⟨k + 1, by go_num, by omega, HB2.out.setCell (by simp) _, (HO2.out.set (t k) true).congr fun i _ => PS2.out i⟩
            case measure => simp [intOf]; omega
        · obtain rfl : k = m := by omega
          go_wp2_with fail
          go_roundw
          case rel => exact ⟨y + 1, U.heap.size, rfl, by go_num, by omega, HBL.out.trans (HB2.out.mono HBL.out.size), (HO2.out.mono HBL.out.size).congr fun i _ => (HE.out i).symm⟩
          case measure => simp [intOf]; omega
    · obtain rfl : y = years := by omega
      generalize hEE : endsB m f t start y = E at *
      have HEE := Lib.hid hEE
      clear hEE
      go_wp2
      go_loopw [13, 14] (fun u v wr => ∃ s : Nat, v = .int .i64 (s : Nat) ∧ s ≤ n ∧ Below U.heap.size U wr ∧ OwnI wr U.heap.size u (natZ ((List.range s).filter E))) (fun _ v _ => n - (intOf v).toNat)
      case atStart => exact ⟨0, rfl, by omega, Below.refl _ _, OwnI.nil _ _⟩
      case round =>
        obtain ⟨s, rfl, hsn, hb2, ho2⟩ := hrel
        have HB2 := Lib.hid hb2
        have HO2 := Lib.hid ho2
        clear hb2 ho2
        generalize wr = X at *
        by_cases hlt : s < n
        · obtain ⟨q0, _, q2⟩ := (HO.out.below HB2.out).cell hlt
          have HF : Hid ((List.range (s + 1)).filter E = (List.range s).filter E ++ if E s = true then [s] else []) := by
            show _ = _
            rw [List.range_succ, List.filter_append]
            congr 1
            cases h : E s <;> simp [List.filter, h]
          have HLF : Hid (((List.range s).filter E).length ≤ s) := by
            show _ ≤ _
            have := List.length_filter_le E (List.range s)
            simpa using this
          cases hE : E s
          case false =>
            rw [hE] at q0
            have HF2 : Hid ((List.range (s + 1)).filter E = (List.range s).filter E) := by show _ = _; rw [HF.out, hE]; simp
            clear hE
            go_wp2_with fail
            go_roundw
            case rel => exact ⟨s + 1, by go_num, by omega, HB2.out, by rw [HF2.out]; exact HO2.out⟩
            case measure => simp [intOf]; omega
          case true =>
            rw [hE] at q0
            have HF2 : Hid ((List.range (s + 1)).filter E = (List.range s).filter E ++ [s]) := by show _ = _; rw [HF.out, hE]; simp
            clear hE
            generalize (List.range s).filter E = l at *
            go_wp2_with (at_builtin; refine wpList_append_own_at _ rfl _ _ 30 rfl U.heap.size 3 i0 (.int .i64 0) 1 8 Try.underlying30 hi0 hz0 hz1 hz2 rfl (by decide) _ _ _ rfl ((own_row HO2.out (natZ_length l)).alloc _) ⟨_, 0, none⟩ 1 1 [.int .i64 (s : Nat)] rfl rfl lit_news one_int ?g1 ?g2 ?g3 ?_)
            case g1 => have := HLF.out; unfold maxLen; omega
            case g2 => have := HLF.out; omega
            case g3 => have := HB2.out.size; simp only [World.size_alloc]; omega
            intro v6 w6 hown2 hgrow _ hat
            have hb6 : Below U.heap.size U w6 := below_own (w1 := X.alloc (.cells #[.int .i64 (s : Nat)] 3)) (below_alloc HB2.out) ((own_row HO2.out (natZ_length l)).alloc _) (Nat.le_refl _) hgrow
            have HO6 : Hid (OwnI w6 U.heap.size v6 (natZ (l ++ [s]))) := by
              show OwnI _ _ _ _
              unfold OwnI
              rw [natZ_length, List.length_append, cellsI_nat]
              exact hown2
            have HB6 := Lib.hid hb6
            clear hown2 hgrow hat hb6
            go_wp2_with fail
            go_roundw
            case rel => exact ⟨s + 1, by go_num, by omega, HB6.out, by rw [HF2.out]; exact HO6.out⟩
            case measure => simp [intOf]; omega
        · obtain rfl : s = n := by omega
          go_wp2
          go_ret
          exact ⟨_, rfl, ⟨_, HBL.out.trans (HB2.out.mono HBL.out.size)⟩, rfl, by rw [HEE.out]; exact HO2.out.mono HBL.out.size⟩
end Go.Proofs.Ytnjloomhhgilcaa
