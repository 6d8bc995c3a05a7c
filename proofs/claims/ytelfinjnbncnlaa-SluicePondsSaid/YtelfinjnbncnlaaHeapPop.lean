/- container/heap's Pop: walked. -/
import Derived.Test.YtelfinjnbncnlaaHeapDown
namespace Go.Proofs.Ytelfinjnbncnlaa
open Go.RowKit
attribute [local go_sem] via_Len via_Less via_Swap via_Push via_Pop

theorem take_last {l : List Pt} {k : Nat} (h : l.length = k + 1) : l.take k ++ [(hx l k, hy l k)] = l := by
  have e : (hx l k, hy l k) = l[k] := by
    unfold hx hy
    rw [List.getD_eq_getElem?_getD, List.getElem?_eq_getElem (by omega)]; rfl
  have t : l.take (k + 1) = l.take k ++ l[k]?.toList := List.take_add_one
  rw [List.getElem?_eq_getElem (by omega), Option.toList_some] at t
  rw [e, ← t]
  exact List.take_of_length_le (by omega)
theorem heap_take {l : List Pt} {k : Nat} (h : IsHeap l k) (hk : k ≤ l.length) : IsHeap (l.take k) k := by
  intro i i0 i1
  have hp := par_lt i0
  have := h i i0 i1
  unfold hy at *
  rw [List.getD_eq_getElem?_getD, List.getD_eq_getElem?_getD] at *
  rw [List.getElem?_take_of_lt (by omega), List.getElem?_take_of_lt (by omega)]
  exact this

set_option maxRecDepth 100000 in
set_option maxHeartbeats 1600000 in
theorem pop_any (bo base k : Nat) (v : Value) (l : List Pt) (w : World) (hl : l.length = k + 1) (hn9 : l.length ≤ 50000) (hh : HeapAt w bo base v l) :
    Calls Try.prog 50 #[.iface 71 (.pointer (some ⟨bo, 0, none⟩))] w fun e w' =>
      e = .returned (.iface 73 (.agg #[.int .i64 (hx l 0), .int .i64 (hy l 0)])) ∧ ∃ v' l', (l' ++ [(hx l 0, hy l 0)]).Perm l ∧ Only (HeapSet bo v) w w' ∧ HeapAt w' bo base v' l' ∧ v'.ownBlock = v.ownBlock := by
  obtain ⟨hb, ho, hp⟩ := hh
  obtain ⟨g, cap, rfl, _, _, _⟩ := ho.form hl (by omega)
  have ne := box_ne hb ho
  have c0 := cell_of_heap hb 0 _ rfl
  have lb := (Array.getElem?_eq_some_iff.1 hb).1
  have HO := Lib.hid ho
  have HB := Lib.hid hb
  have hk : ((k + 1 : Nat) : Int) - 1 = (k : Int) := by omega
  have DB := Lib.hid (down_begin (l := l) (n := k) (hl ▸ hp) hl)
  have SW : Hid (∀ w', OwnO w' base (.slice (some ⟨g, 0, none⟩) (k + 1) cap) l → Calls Try.prog 82 #[.slice (some ⟨g, 0, none⟩) (k + 1) cap, .int .i64 0, .int .i64 k] w' fun e w'' => e = .returned (.tuple #[]) ∧ Only (fun b => b = g) w' w'' ∧ OwnO w'' base (.slice (some ⟨g, 0, none⟩) (k + 1) cap) (swapL l 0 k)) := fun w' h => swap_any g (k + 1) cap base 0 k l w' hl (by omega) (by omega) h
  have XY : Hid ((swapL l 0 k).getD k (0, 0) = l.getD 0 (0, 0)) := by show _ = _; rw [swap_get (by omega) (by omega), if_pos rfl]
  have SP := Lib.hid (swap_perm (l := l) (i := 0) (k := k) (by omega) (by omega))
  have SL := Lib.hid (swapL_length l 0 k)
  clear ho hb hp
  go_enter Try.func50, Try.ntmps50
  go_wp2_with (first
    | (go_at_call 80; with_reducible refine Calls.mono (Gives.calls (len_any _ _ _ _)) ?_; rintro e w1 ⟨rfl, z, rfl⟩)
    | (go_at_call 82; refine Calls.mono (SW.out _ (HO.out.later z)) ?_; rintro e w1 ⟨rfl, o1, h1⟩; have b1 := (o1.block bo (Nat.lt_of_lt_of_le lb z.size) ne).trans ((z.ok.block bo lb).trans HB.out); have O1 := Lib.hid o1; have H1 := Lib.hid h1; have B1 := Lib.hid b1; clear o1 h1 b1)
    | (go_at_call 61; refine Calls.mono (down_any bo base (k + 1) k g cap (swapL l 0 k) _ (by rw [SL.out]; exact hl) (by omega) (by omega) B1.out ne H1.out DB.out) ?_; rintro e w2 ⟨bv, rfl, l2, p2, s2, i2, o2, h2⟩; have b2 := (o2.block bo (Array.getElem?_eq_some_iff.1 B1.out).1 ne).trans B1.out; have O2 := Lib.hid o2; have H2 := Lib.hid h2; have B2 := Lib.hid b2; have P2 := Lib.hid p2; have S2 := Lib.hid s2; have I2 := Lib.hid i2; clear o2 h2 b2 p2 s2 i2)
    | (go_at_call 83; refine Calls.mono (popm_any bo base k g cap l2 _ (by rw [P2.out.length_eq, SL.out]; exact hl) (by omega) B2.out H2.out) ?_; rintro e w3 ⟨rfl, o3, b3, h3⟩; have O3 := Lib.hid o3; have B3 := Lib.hid b3; have H3 := Lib.hid h3; clear o3 b3 h3))
  have ll : l2.length = k + 1 := by rw [P2.out.length_eq, SL.out]; exact hl
  have xy : l2.getD k (0, 0) = l.getD 0 (0, 0) := (S2.out k (Nat.le_refl _)).trans XY.out
  have ex : hx l2 k = hx l 0 := congrArg Prod.fst xy
  have ey : hy l2 k = hy l 0 := congrArg Prod.snd xy
  rw [ex, ey]
  go_ret
  refine ⟨rfl, _, l2.take k, ?_, ?_, ⟨B3.out, H3.out, ?_⟩, rfl⟩
  · rw [← ex, ← ey, take_last ll]
    exact P2.out.trans SP.out
  · have oz : Only (HeapSet bo (.slice (some ⟨g, 0, none⟩) (k + 1) cap)) w z.val := Only.later z
    refine Only.trans (Only.trans (Only.trans oz (O1.out.mono fun b e => ?_)) (O2.out.mono fun b e => ?_)) (O3.out.mono fun b e => ?_)
    · exact .inr (congrArg some e.symm)
    · exact .inr (congrArg some e.symm)
    · exact .inl e
  · rw [show (l2.take k).length = k by simp; omega]
    exact heap_take I2.out (by omega)
end Go.Proofs.Ytelfinjnbncnlaa
