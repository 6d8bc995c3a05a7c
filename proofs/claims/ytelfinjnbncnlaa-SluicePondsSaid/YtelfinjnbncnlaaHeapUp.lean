/- container/heap over the outlets: walked. -/
import Derived.Test.YtelfinjnbncnlaaHeapVia
import Derived.Test.YtelfinjnbncnlaaHeapMath
import Derived.IntWalk
namespace Go.Proofs.Ytelfinjnbncnlaa
open Go.RowKit
attribute [local go_sem] via_Len via_Less via_Swap via_Push via_Pop

set_option maxRecDepth 100000 in
set_option maxHeartbeats 1600000 in
theorem up_any (bo base n g cap j : Nat) (l : List Pt) (w : World) (hn : l.length = n) (hj : j < n) (hn9 : n ≤ 100000) (hb : w.heap[bo]? = some (.cells #[.slice (some ⟨g, 0, none⟩) n cap] 69)) (hne : bo ≠ g) (ho : OwnO w base (.slice (some ⟨g, 0, none⟩) n cap) l) (hu : UpInv l j n) :
    Calls Try.prog 60 #[.iface 71 (.pointer (some ⟨bo, 0, none⟩)), .int .i64 j] w fun e w' =>
      e = .returned (.tuple #[]) ∧ ∃ l' : List Pt, l'.Perm l ∧ IsHeap l' n ∧ Only (fun b => b = g) w w' ∧ OwnO w' base (.slice (some ⟨g, 0, none⟩) n cap) l' := by
  have HO := Lib.hid ho
  have HB := Lib.hid hb
  have HU := Lib.hid hu
  clear ho hb hu
  go_enter Try.func60, Try.ntmps60
  go_wp2
  go_loopw [1] (fun u wr => ∃ (j' : Nat) (l' : List Pt), u = .int .i64 j' ∧ j' < n ∧ l'.length = n ∧ l'.Perm l ∧ UpInv l' j' n ∧ Only (fun b => b = g) w wr ∧ OwnO wr base (.slice (some ⟨g, 0, none⟩) n cap) l') (fun u _ => (intOf u).toNat)
  case atStart => exact ⟨j, l, rfl, hj, hn, List.Perm.refl _, HU.out, Only.refl _ _, HO.out⟩
  case round =>
    obtain ⟨j', l', rfl, hj', hl', hp, hu, hk, ho⟩ := hrel
    have HO2 := Lib.hid ho
    have HP := Lib.hid hp
    have HU2 := Lib.hid hu
    have HK := Lib.hid hk
    have hb2 : wr.heap[bo]? = some (.cells #[.slice (some ⟨g, 0, none⟩) n cap] 69) := (hk.block bo (Array.getElem?_eq_some_iff.1 HB.out).1 hne).trans HB.out
    have HB2 := Lib.hid hb2
    have c0 := cell_of_heap hb2 0 _ rfl
    have lb := (Array.getElem?_eq_some_iff.1 hb2).1
    clear ho hp hu hk hb2
    rcases Nat.eq_zero_or_pos j' with h0 | h0
    · subst h0
      go_wp2_with fail
      go_end0
      exact ⟨rfl, l', HP.out, HU2.out.done (.inl rfl), HK.out, HO2.out⟩
    · obtain ⟨p, hp⟩ : ∃ p, par j' = p := ⟨_, rfl⟩
      have hpl : p < j' := hp ▸ par_lt h0
      have hq : ((j' : Int) - 1) / 2 = (p : Int) := by rw [← hp]; unfold par; omega
      have hne2 : ((p : Int) == (j' : Int)) = false := by simp; omega
      have PR := Lib.hid hp
      have LS : Hid (∀ w', OwnO w' base (.slice (some ⟨g, 0, none⟩) n cap) l' → Gives Try.prog 81 #[.slice (some ⟨g, 0, none⟩) n cap, .int .i64 j', .int .i64 p] w' (.bool (decide (hy l' j' < hy l' p)))) := fun w' h => less_any g n cap base j' p l' w' hl' hj' (by omega) h
      have hd : UpInv l' j' n → decide (hy l' j' < hy l' p) = false → IsHeap l' n := fun h e => h.done (.inr (by rw [hp]; have := of_decide_eq_false e; omega))
      have hs : decide (hy l' j' < hy l' p) = true → UpInv (swapL l' p j') p n := fun e => by have := HU2.out.step hl' hj' h0 (by rw [hp]; exact of_decide_eq_true e); rwa [hp] at this
      have HD := Lib.hid hd
      have HS := Lib.hid hs
      have SW : Hid (∀ w', OwnO w' base (.slice (some ⟨g, 0, none⟩) n cap) l' → Calls Try.prog 82 #[.slice (some ⟨g, 0, none⟩) n cap, .int .i64 p, .int .i64 j'] w' fun e w'' => e = .returned (.tuple #[]) ∧ Only (fun b => b = g) w' w'' ∧ OwnO w'' base (.slice (some ⟨g, 0, none⟩) n cap) (swapL l' p j')) := fun w' h => swap_any g n cap base p j' l' w' hl' (by omega) hj' h
      clear hp hd hs
      cases hb : decide (hy l' j' < hy l' p)
      · rw [hb] at LS HD
        clear hb HS SW
        go_wp2_with (first | (go_at_call 81; (first | (with_reducible show Calls _ _ _ (Later.val _) _; with_reducible refine Calls.mono (Later.call _ (LS.out _ HO2.out)) ?_) | (with_reducible refine Calls.mono (Gives.calls (LS.out _ HO2.out)) ?_)); rintro e w1 ⟨rfl, z, rfl⟩))
        go_end0
        exact ⟨rfl, l', HP.out, HD.out HU2.out trivial, HK.out.trans (Only.later z), HO2.out.later z⟩
      · rw [hb] at LS HS
        clear hb HD
        go_wp2_with (first | (go_at_call 81; (first | (with_reducible show Calls _ _ _ (Later.val _) _; with_reducible refine Calls.mono (Later.call _ (LS.out _ HO2.out)) ?_) | (with_reducible refine Calls.mono (Gives.calls (LS.out _ HO2.out)) ?_)); rintro e w1 ⟨rfl, z, rfl⟩) | (go_at_call 82; refine Calls.mono (SW.out _ (HO2.out.later z)) ?_; rintro e w1 ⟨rfl, h1, h2⟩; have H1 := Lib.hid h1; have H2 := Lib.hid h2; clear h1 h2))
        go_roundw
        case rel => exact ⟨p, swapL l' p j', rfl, by omega, by rw [swapL_length]; exact hl', (swap_perm (by omega) (by omega)).trans HP.out, HS.out trivial, (HK.out.trans (Only.later z)).trans H1.out, H2.out⟩
        case measure => simp [intOf]; omega
theorem len_any (A : Option Addr) (n cap : Nat) (w : World) : Gives Try.prog 80 #[.slice A n cap] w (.int .i64 n) := by
  go_enter Try.func80, Try.ntmps80
  go_wp2
  go_ret
  exact ⟨rfl, later_of (by repeat (first | exact Below.refl _ _ | (with_reducible assumption) | apply below_later | apply below_alloc | apply below_drew | apply below_drewN))⟩
/-- What a heap is, in memory. -/
structure HeapAt (w : World) (bo base : Nat) (v : Value) (l : List Pt) : Prop where
  box : w.heap[bo]? = some (.cells #[v] 69)
  own : OwnO w base v l
  heap : IsHeap l l.length
/-- What a call leaves that works on a heap. -/
def HeapSet (bo : Nat) (v : Value) : BSet := fun b => b = bo ∨ v.ownBlock = some b
set_option maxRecDepth 100000 in
set_option maxHeartbeats 1600000 in
theorem push_any (bo base : Nat) (v : Value) (l : List Pt) (x y : Int) (w : World) (hn9 : l.length ≤ 50000) (hbs : base ≤ w.heap.size) (hh : HeapAt w bo base v l) :
    Calls Try.prog 49 #[.iface 71 (.pointer (some ⟨bo, 0, none⟩)), .iface 73 (.agg #[.int .i64 x, .int .i64 y])] w fun e w' =>
      e = .returned (.tuple #[]) ∧ ∃ v' l', l'.Perm (l ++ [(x, y)]) ∧ Only (HeapSet bo v) w w' ∧ HeapAt w' bo base v' l' ∧ ∀ g', v'.ownBlock = some g' → v.ownBlock = some g' ∨ w.heap.size ≤ g' := by
  obtain ⟨hb, ho, hp⟩ := hh
  obtain ⟨n, hn⟩ : ∃ n, l.length = n := ⟨_, rfl⟩
  obtain ⟨A, cap, rfl⟩ := ho.shape_n hn
  have PM := Lib.hid (pushm_any bo base n cap A l x y w hn (by omega) hbs hb ho)
  have HP := Lib.hid (hn ▸ up_begin (p := (x, y)) hp)
  clear hb ho hp
  go_enter Try.func49, Try.ntmps49
  go_wp2_with (first
    | (go_at_call 84; refine Calls.mono PM.out ?_; rintro e w1 ⟨rfl, v', o1, b1, h1, g1⟩; obtain ⟨g, c2, e1, _, _, _⟩ := h1.form (n := n + 1) (by simp [hn]) (by omega); subst e1; have O1 := Lib.hid o1; have B1 := Lib.hid b1; have H1 := Lib.hid h1; have G1 := Lib.hid g1; have c1 := cell_of_heap b1 0 _ rfl; clear o1 b1 h1 g1)
    | (go_at_call 80; with_reducible refine Calls.mono (Gives.calls (len_any _ _ _ _)) ?_; rintro e w1 ⟨rfl, z, rfl⟩)
    | (go_at_call 60; refine Calls.mono (up_any bo base (n + 1) g c2 n (l ++ [(x, y)]) _ (by simp [hn]) (by omega) (by omega) ((z.ok.block _ (Array.getElem?_eq_some_iff.1 B1.out).1).trans B1.out) (box_ne B1.out H1.out) (H1.out.later z) HP.out) ?_; rintro e w2 ⟨rfl, l', p2, i2, o2, h2⟩; have O2 := Lib.hid o2; have H2 := Lib.hid h2; have I2 := Lib.hid i2; have P2 := Lib.hid p2; clear o2 h2 i2 p2))
  go_end0
  have ob : Only (fun b => b = g) w1 w2 := Only.trans (Only.later z) O2.out
  refine ⟨rfl, _, l', P2.out, only_via O1.out ob fun b hb e => ?_, ⟨?_, H2.out, ?_⟩, G1.out⟩
  · subst e
    rcases G1.out b rfl with h | h
    · exact .inr h
    · omega
  · exact (ob.block _ (Array.getElem?_eq_some_iff.1 B1.out).1 (box_ne B1.out H1.out)).trans B1.out
  · rw [P2.out.length_eq, List.length_append, hn]; exact I2.out
end Go.Proofs.Ytelfinjnbncnlaa
