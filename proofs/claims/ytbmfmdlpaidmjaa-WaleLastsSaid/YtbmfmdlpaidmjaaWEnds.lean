/- The states from which no plan goes on: Ends of the program and of the document. -/
import Derived.Test.YtbmfmdlpaidmjaaWSame
import Derived.Test.YtbmfmdlpaidmjaaWGrowsMath
namespace Go.Proofs.Ytbmfmdlpaidmjaa
open Go.RowKit

/-- A plan of y changes is there exactly if it ends somewhere. -/
theorem wrow_ends {n m : Nat} {f t : Nat → Nat} {V : Nat → Int} (R : Rot n m f t V) : ∀ (y s : Nat), y ≤ 800 → s < n → ((wrow n m f t V y).getD s 0 ≠ nope ↔ ∃ r, endsB m f t s y r = true) := by
  intro y
  induction y with
  | zero =>
    intro s _ hs
    rw [wrow, getD_rep hs]
    exact ⟨fun _ => ⟨s, by simp [endsB]⟩, fun _ => by unfold nope; omega⟩
  | succ y ih =>
    intro s hy hs
    constructor
    · intro h
      obtain ⟨i, hi, e, h1, _⟩ := wrow_from R hs h
      obtain ⟨r, hr⟩ := (ih (t i) (by omega) (R.t i hi)).1 h1
      refine ⟨r, ?_⟩
      rw [Nat.add_comm]
      exact endsB_add y |>.2 ⟨t i, endsB_iff.2 ⟨i, hi, by simp [endsB, e], rfl⟩, hr⟩
    · rintro ⟨r, hr⟩
      rw [Nat.add_comm] at hr
      obtain ⟨q, h1, h2⟩ := (endsB_add y).1 hr
      obtain ⟨i, hi, h3, h4⟩ := endsB_iff.1 (show endsB m f t s (0 + 1) q = true from h1)
      have e : f i = s := by simpa [endsB] using h3
      have h5 := (ih (t i) (by omega) (R.t i hi)).2 ⟨r, by rw [h4]; exact h2⟩
      have h6 := (wrow_upper R (by omega) hi h5).2
      rw [e] at h6
      exact h6
/-- Is s an end? -/
def endS (n m : Nat) (f t : Nat → Nat) (V : Nat → Int) (s : Nat) : Bool := decide ((wrow n m f t V n).getD s 0 = nope)
theorem endS_iff {n m : Nat} {f t : Nat → Nat} {V : Nat → Int} (R : Rot n m f t V) {s : Nat} (hs : s < n) : endS n m f t V s = decide (((List.range n).filter (endsB m f t s n)).length = 0) := by
  have h := wrow_ends R n s (by have := R.n8; omega) hs
  unfold endS
  rw [decide_eq_decide, List.length_eq_zero_iff, List.filter_eq_nil_iff]
  constructor
  · intro e x _ hx
    exact absurd e (h.2 ⟨x, hx⟩)
  · intro e
    apply Classical.byContradiction
    intro hn
    obtain ⟨r, hr⟩ := h.1 hn
    exact e r (List.mem_range.2 (endsB_lt R hs n r hr)) hr
set_option maxRecDepth 100000 in
set_option maxHeartbeats 6400000 in
theorem rends_any (n m cap : Nat) (A : Option Addr) (f t : Nat → Nat) (V : Nat → Int) (w : World) (R : Rot n m f t V) (hp : IsChs w A m (fun i => (f i : Int)) (fun i => (t i : Int)) V) :
    Calls Try.prog 30 #[.int .i64 n, .slice A m cap] w fun e w' => ∃ v, e = .returned v ∧ ∃ x : Later w, w' = x.val ∧ OwnI w' w.heap.size v (natZ ((List.range n).filter (endS n m f t V))) := by
  have hn8 := R.n8
  have HP := Lib.hid hp
  have RA := Lib.hid fun (s : Nat) (hs : s < n) (w' : World) (h : IsChs w' A m (fun i => (f i : Int)) (fun i => (t i : Int)) V) => rafter_any n m cap s n A f t V w' hs (by omega) R h
  have ES := Lib.hid fun (s : Nat) (hs : s < n) => endS_iff R hs
  obtain ⟨i0, hi0, hz0, hz1, hz2⟩ := info_int
  clear hp R
  generalize endS n m f t V = E at *
  go_enter Try.func30, Try.ntmps30
  go_wp2
  go_loopw [5, 6] (fun u v wr => ∃ s : Nat, v = .int .i64 (s : Nat) ∧ s ≤ n ∧ Below w.heap.size w wr ∧ OwnI wr w.heap.size u (natZ ((List.range s).filter E))) (fun _ v _ => n - (intOf v).toNat)
  case atStart => exact ⟨0, rfl, by omega, Below.refl _ _, OwnI.nil _ _⟩
  case round =>
    obtain ⟨s, rfl, hsn, hb2, ho2⟩ := hrel
    have HB2 := Lib.hid hb2
    have HO2 := Lib.hid ho2
    clear hb2 ho2
    generalize wr = X at *
    by_cases hlt : s < n
    · have HF : Hid ((List.range (s + 1)).filter E = (List.range s).filter E ++ if E s = true then [s] else []) := by
        show _ = _
        rw [List.range_succ, List.filter_append]
        congr 1
        cases h : E s <;> simp [List.filter, h]
      have HLF : Hid (((List.range s).filter E).length ≤ s) := by
        show _ ≤ _
        have := List.length_filter_le E (List.range s)
        simpa using this
      have RA1 := Lib.hid (RA.out s hlt)
      obtain ⟨l9, hl9⟩ : ∃ l, (List.range n).filter (endsB m f t s n) = l := ⟨_, rfl⟩
      have HE := ES.out s hlt
      rw [hl9] at HE RA1
      clear hl9
      have HE2 := Lib.hid HE
      clear HE
      obtain ⟨L, hL⟩ : ∃ L, l9.length = L := ⟨_, rfl⟩
      have HL := Lib.hid hL
      rw [hL] at HE2
      clear hL
      cases hE : E s
      case false =>
        have q0 : ((L : Int) == 0) = false := by
          have := HE2.out
          rw [hE] at this
          simpa using this
        have HF2 : Hid ((List.range (s + 1)).filter E = (List.range s).filter E) := by show _ = _; rw [HF.out, hE]; simp
        clear hE HE2
        go_wp2_with (go_at_call 24; refine Calls.mono (RA1.out _ (HP.out.below (by first | exact HB2.out | repeat (first | exact Below.refl _ _ | (with_reducible assumption) | apply below_later | apply below_alloc | apply below_drew | apply below_drewN)))) ?_; rintro e w1 ⟨v1, rfl, z1, rfl, ho1⟩; obtain ⟨A1, c1, rfl⟩ := ho1.shape_n (n := L) (by rw [natZ_length]; exact HL.out); clear ho1)
        go_roundw
        case rel => exact ⟨s + 1, by go_num, by omega, below_more HB2.out z1.ok, by rw [HF2.out]; exact HO2.out.later z1⟩
        case measure => simp [intOf]; omega
      case true =>
        have q0 : L = 0 := by
          have := HE2.out
          rw [hE] at this
          simpa using this
        subst q0
        have HF2 : Hid ((List.range (s + 1)).filter E = (List.range s).filter E ++ [s]) := by show _ = _; rw [HF.out, hE]; simp
        clear hE HE2
        obtain ⟨l, hl⟩ : ∃ l, (List.range s).filter E = l := ⟨_, rfl⟩
        rw [hl] at HF2 HO2 HLF
        clear hl HF
        go_wp2_with (first
          | (go_at_call 24; refine Calls.mono (RA1.out _ (HP.out.below (by first | exact HB2.out | repeat (first | exact Below.refl _ _ | (with_reducible assumption) | apply below_later | apply below_alloc | apply below_drew | apply below_drewN)))) ?_; rintro e w1 ⟨v1, rfl, z1, rfl, ho1⟩; obtain ⟨A1, c1, rfl⟩ := ho1.shape_n (n := 0) (by rw [natZ_length]; exact HL.out); clear ho1)
          | (at_builtin; refine wpList_append_own_at _ rfl _ _ 25 rfl w.heap.size 3 i0 (.int .i64 0) 1 8 Try.underlying25 hi0 hz0 hz1 hz2 rfl (by decide) _ _ _ rfl ((own_row (HO2.out.later z1) (natZ_length l)).alloc _) ⟨_, 0, none⟩ 1 1 [.int .i64 (s : Nat)] rfl rfl lit_news one_int ?g1 ?g2 ?g3 ?_))
        case g1 => have := HLF.out; unfold maxLen; omega
        case g2 => have := HLF.out; omega
        case g3 => have := HB2.out.size; have := z1.size; simp only [World.size_alloc]; omega
        intro v6 w6 hown2 hgrow _ hat
        have hb6 : Below w.heap.size w w6 := below_own (w1 := z1.val.alloc (.cells #[.int .i64 (s : Nat)] 3)) (below_alloc (below_more HB2.out z1.ok)) ((own_row (HO2.out.later z1) (natZ_length l)).alloc _) (Nat.le_refl _) hgrow
        have HO6 : Hid (OwnI w6 w.heap.size v6 (natZ (l ++ [s]))) := by
          show OwnI _ _ _ _
          unfold OwnI
          rw [natZ_length, List.length_append, cellsI_nat]
          exact hown2
        have HB6 := Lib.hid hb6
        clear hown2 hgrow hat hb6
        go_wp2_with fail
        go_roundw
        case rel => exact ⟨s + 1, by go_num, by omega, HB6.out, by rw [HF2.out]; exact HO6.out⟩
        case measure => simp [intOf]; omega
    · obtain rfl : s = n := by omega
      go_wp2
      go_ret
      exact ⟨_, rfl, ⟨_, HB2.out⟩, rfl, HO2.out⟩
end Go.Proofs.Ytbmfmdlpaidmjaa
