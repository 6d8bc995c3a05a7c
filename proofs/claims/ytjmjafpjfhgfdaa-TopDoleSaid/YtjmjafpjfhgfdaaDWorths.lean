/- dole's worths and Worths, the document's Worths: walked. -/
import Derived.Test.YtjmjafpjfhgfdaaDWorth
namespace Go.Proofs.Ytjmjafpjfhgfdaa
open Go.RowKit

def listN (g : Nat → Int) (k : Nat) : List Int := (List.range k).map g
theorem listN_length (g : Nat → Int) (k : Nat) : (listN g k).length = k := by simp [listN]
theorem listN_get {g : Nat → Int} {k i : Nat} (h : i < k) : (listN g k).getD i 0 = g i := by simp [listN, List.getD_eq_getElem?_getD, h]
theorem listN_succ (g : Nat → Int) (k : Nat) : listN g (k + 1) = listN g k ++ [g k] := by simp [listN, List.range_succ]
theorem list_all {l : List Int} {g : Nat → Int} {k : Nat} (hl : l.length = k) (h : ∀ j, j < k → l.getD j 0 = g j) : l = listN g k := by
  apply List.ext_getElem
  · rw [hl, listN_length]
  · intro i h1 h2
    have h3 := h i (by omega)
    simp only [List.getD_eq_getElem?_getD, List.getElem?_eq_getElem h1, Option.getD_some] at h3
    rw [h3]
    simp [listN]
/-- What each commoner's strips are worth to it. -/
def ownW (R : Nat → Row) (c : Nat → Int) (m i : Nat) : Int := wth (R i).f c i m
set_option maxRecDepth 100000 in
set_option maxHeartbeats 1600000 in
theorem worths_any (k cap n m cS : Nat) (A S : Option Addr) (R : Nat → Row) (c : Nat → Int) (w : World) (hmn : m ≤ n) (W : Vals k n R) (hp : IsTab w A k R) (hc : IsInts w S m c) :
    GivesI 52 #[.agg #[.slice A k cap, .slice S m cS]] w (listN (ownW R c m) k) := by
  have hk6 := W.k6
  have hb : Below w.heap.size w (w.alloc (.cells #[.slice A k cap, .slice S m cS] 62)) := (Below.refl _ _).alloc (Nat.le_refl _) _
  obtain ⟨c0, c1, l0⟩ := box2 w (.slice A k cap) (.slice S m cS) 62
  have HB := Lib.hid hb
  have WO := Lib.hid fun (i : Nat) (V : World) (hi : i < k) (h : Below w.heap.size w V) => worth_any k cap n m cS i (i : Nat) A S R c V hi hmn W (hp.below h) (hc.below h)
  have WE : Hid (∀ i, wth (R i).f c (i : Nat) m = ownW R c m i) := fun _ => rfl
  have MK : ∀ w', (Instr.makeSlice 23 (.int .i64 (k : Int)) (.int .i64 (k : Int))).run Try.prog w' = .ok (.slice (some ⟨w'.heap.size, 0, none⟩) k k) (w'.alloc (.cells (madeCells #[Value.int .i64 0] k) 3)) := fun w' => make_ints w' k (by omega)
  generalize ownW R c m = T at *
  clear hp hc hb W
  go_enter Try.func52, Try.ntmps52
  go_wp2
  have hz : (w.alloc (.cells #[.slice A k cap, .slice S m cS] 62)).heap.size = w.heap.size + 1 := by simp
  obtain ⟨b8, hb8⟩ : ∃ b8, w.heap.size = b8 := ⟨_, rfl⟩
  have HB8 := Lib.hid hb8
  rw [hb8] at c0 c1 l0 hz ⊢
  clear hb8
  generalize w.alloc (.cells #[.slice A k cap, .slice S m cS] 62) = Z at *
  have hbz := HB.out.size
  have HM0 := Lib.hid (made_own Z k w.heap.size hbz (by omega))
  have HB1 : Hid (Below w.heap.size w (Z.alloc (.cells (madeCells #[Value.int .i64 0] k) 3))) := HB.out.alloc hbz _
  have HZ1 : Hid (Below Z.heap.size Z (Z.alloc (.cells (madeCells #[Value.int .i64 0] k) 3))) := (Below.refl _ _).alloc (Nat.le_refl _) _
  obtain ⟨go, hgo⟩ : ∃ go, b8 + 1 = go := ⟨_, rfl⟩
  rw [hz, hgo] at HM0
  rw [hgo] at hz ⊢
  have HGO := Lib.hid hz
  clear MK hbz hgo hz
  generalize Z.alloc (.cells (madeCells #[Value.int .i64 0] k) 3) = Z1 at *
  go_loopw [11] (fun u wr => ∃ (i : Nat) (l : List Int), u = .int .i64 (i : Nat) ∧ i ≤ k ∧ l.length = k ∧ Below Z.heap.size Z wr ∧ OwnI wr w.heap.size (.slice (some ⟨go, 0, none⟩) k k) l ∧ ∀ j, j < i → l.getD j 0 = T j) (fun u _ => k - (intOf u).toNat)
  case atStart => exact ⟨0, _, rfl, by omega, by simp, HZ1.out, HM0.out, by omega⟩
  case round =>
    obtain ⟨i, l, rfl, hi, hl, hbl, ho, hall⟩ := hrel
    clear HM0 HB1 HZ1
    have HL := Lib.hid hl
    have HO := Lib.hid ho
    have HALL := Lib.hid hall
    have d0 := (hbl.cell (p := ⟨b8, 0, none⟩) l0).trans c0
    have d1 := (hbl.cell (p := ⟨b8, 1, none⟩) l0).trans c1
    have l1 := Nat.lt_of_lt_of_le l0 hbl.size
    have HBL := Lib.hid hbl
    clear hl hbl ho hall
    have HBW : Hid (Below w.heap.size w wr) := below_more HB.out HBL.out
    by_cases hlt : i < k
    · have o5 := (own_lt HO.out go rfl).2
      have WO1 := Lib.hid fun V h => WO.out i V hlt h
      have W1 := WE.out i
      have HO2 : Hid (∀ V, Below wr.heap.size wr V → OwnI V w.heap.size (.slice (some ⟨go, 0, none⟩) k k) l ∧ V.cell? ⟨go, i, none⟩ = some (.int .i64 (l.getD i 0)) ∧ V.frozen? ⟨go, i, none⟩ = false ∧ go < V.heap.size) := fun V h => by
        have hv := HO.out.later ⟨V, h⟩
        exact ⟨hv, (hv.cell HL.out hlt).1, (hv.cell HL.out hlt).2 i, (own_lt hv go rfl).2⟩
      have HZV : Hid (∀ V, Below wr.heap.size wr V → Below Z.heap.size Z V) := fun V h => below_more HBL.out h
      have HG : Hid (Z.heap.size ≤ go) := Nat.le_of_eq HGO.out
      go_wp2_with ((go_at_call 72; with_reducible refine Calls.mono (Gives.calls (WO1.out _ (below_more HBW.out (by repeat (first | exact Below.refl _ _ | (with_reducible assumption) | apply below_later | apply below_alloc | apply below_drew | apply below_drewN))))) ?_; rintro e w1 ⟨rfl, z, rfl⟩); obtain ⟨q1, q0, q2, q3⟩ := HO2.out z.val (by repeat (first | exact Below.refl _ _ | (with_reducible assumption) | apply below_later | apply below_alloc | apply below_drew | apply below_drewN)); have Q1 := Lib.hid q1; have Q2 : Hid (Below Z.heap.size Z z.val) := HZV.out z.val (by repeat (first | exact Below.refl _ _ | (with_reducible assumption) | apply below_later | apply below_alloc | apply below_drew | apply below_drewN)); clear q1)
      go_roundw
      case rel => exact ⟨i + 1, l.set i (T i), by go_num, by omega, by rw [List.length_set]; exact HL.out, Q2.out.setCell (p := ⟨go, i, none⟩) HG.out _, by rw [← W1]; exact Q1.out.set HL.out i _, fun j hj => by
        rw [getD_setI (by rw [HL.out]; exact hlt)]
        split
        · rename_i e; rw [e]
        · exact HALL.out j (by omega)⟩
      case measure => simp [intOf]; omega
    · obtain rfl : i = k := by omega
      have HE := Lib.hid (list_all HL.out HALL.out)
      go_wp2_with fail
      go_ret
      exact ⟨_, rfl, ⟨_, HBW.out⟩, rfl, by
        show OwnI _ _ _ _
        rw [← HE.out]
        exact HO.out⟩
set_option maxRecDepth 100000 in
set_option maxHeartbeats 1600000 in
theorem rworths_any (k cap n m cS : Nat) (A S : Option Addr) (R : Nat → Row) (c : Nat → Int) (w : World) (hmn : m ≤ n) (W : Vals k n R) (hp : IsTab w A k R) (hc : IsInts w S m c) :
    GivesI 24 #[.slice A k cap, .slice S m cS] w (listN (ownW R c m) k) := by
  have hk6 := W.k6
  have HP := Lib.hid hp
  have WO : Hid (∀ (i : Nat) (V : World), i < k → Below w.heap.size w V → Gives Try.prog 56 #[.slice (R i).a (R i).n (R i).c, .slice S m cS, .int .i64 (i : Nat)] V (.int .i64 (ownW R c m i))) := fun i V hi h =>
    rworth_any (R i).n m cS (R i).c (i : Nat) (R i).a S (R i).f c V (by rw [W.len i hi]; exact hmn) (by rw [W.len i hi]; exact W.n12) (by rw [W.len i hi]; exact W.val i hi) ((hp.below h).row i hi).1 (hc.below h)
  have LS := Lib.hid (listN_succ (ownW R c m))
  have L0 : Hid (listN (ownW R c m) 0 = []) := rfl
  have LL := Lib.hid (listN_length (ownW R c m))
  obtain ⟨i0, hi0, hz0, hz1, hz2⟩ := info_int
  generalize ownW R c m = T at *
  clear hp hc W
  go_enter Try.func24, Try.ntmps24
  go_wp2
  go_loopw [5, 6] (fun u v wr => ∃ i : Nat, v = .int .i64 (i : Nat) ∧ i ≤ k ∧ Below w.heap.size w wr ∧ OwnI wr w.heap.size u (listN T i)) (fun _ v _ => k - (intOf v).toNat)
  case atStart => exact ⟨0, rfl, by omega, Below.refl _ _, by rw [L0.out]; exact OwnI.nil _ _⟩
  case round =>
    obtain ⟨i, rfl, hi, hbl, ho⟩ := hrel
    have HBL := Lib.hid hbl
    have HO := Lib.hid ho
    obtain ⟨O, cO, eO⟩ := ho.shape_n (LL.out i)
    subst eO
    have HP1 := HP.out.below hbl
    clear hbl ho
    by_cases hlt : i < k
    · obtain ⟨ba, oa, hA, la, p⟩ := HP1.at_ (by omega)
      have ca := p i hlt
      have HA := Lib.hid hA
      rw [hA]
      unfold Row.val at ca
      have WO1 := Lib.hid fun V h => WO.out i V hlt h
      have LS1 := Lib.hid (LS.out i)
      clear p hA HP1
      generalize R i = ri at *
      generalize T i = t at *
      have HO2 : Hid (∀ z : Later wr, OwnI z.val w.heap.size (.slice O i cO) (listN T i)) := fun z => HO.out.later z
      have HBV : Hid (∀ z : Later wr, Below w.heap.size w z.val) := fun z => below_more HBL.out z.ok
      go_wp2_with (first
        | (go_at_call 56; with_reducible refine Calls.mono (Gives.calls (WO1.out _ (below_more HBL.out (by repeat (first | exact Below.refl _ _ | (with_reducible assumption) | apply below_later | apply below_alloc | apply below_drew | apply below_drewN))))) ?_; rintro e w1 ⟨rfl, z, rfl⟩)
        | (at_builtin; refine wpList_append_own_at _ rfl _ _ 23 rfl w.heap.size 3 i0 (.int .i64 0) 1 8 Try.underlying23 hi0 hz0 hz1 hz2 rfl (by decide) _ _ _ rfl ((own_row (HO2.out z) (LL.out i)).alloc _) ⟨_, 0, none⟩ 1 1 [.int .i64 t] rfl rfl lit_news one_int ?g1 ?g2 ?g3 ?_))
      case g1 => unfold maxLen; omega
      case g2 => omega
      case g3 => have := (HBV.out z).size; simp only [World.size_alloc]; omega
      intro v6 w6 hown2 hgrow _ hat
      have hb6 : Below w.heap.size w w6 := below_own (w1 := z.val.alloc (.cells #[.int .i64 t] 3)) (below_alloc (HBV.out z)) ((own_row (HO2.out z) (LL.out i)).alloc _) (Nat.le_refl _) hgrow
      have HO6 : Hid (OwnI w6 w.heap.size v6 (listN T (i + 1))) := by
        show OwnI _ _ _ _
        rw [LS1.out]
        unfold OwnI
        rw [List.length_append, LL.out i, cellsI_append]
        exact hown2
      have HB6 := Lib.hid hb6
      clear hown2 hgrow hat hb6
      go_wp2_with fail
      refine ⟨⟨i + 1, by go_num, by omega, HB6.out, HO6.out⟩, ?_⟩
      simp [intOf]; omega
    · obtain rfl : i = k := by omega
      go_wp2_with fail
      go_ret
      exact ⟨_, rfl, ⟨_, HBL.out⟩, rfl, HO.out⟩
end Go.Proofs.Ytjmjafpjfhgfdaa
