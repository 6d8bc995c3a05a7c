/- slices.SortFunc over posts of one's own, by x and then by y. -/
import Derived.Test.YtamhhbkjgfhfoaaDoorByXY
import Derived.Test.YtamhhbkjgfhfoaaDoorReverse
import Derived.Test.YtamhhbkjgfhfoaaDoorShelf3
namespace Go.Proofs.YtamhhbkjgfhfoaaDoor
open Go.RowKit

theorem cmp_lt (p q : Pt) : Go.Proofs.ltOf cmpXY p q = decide (p.1 < q.1 ∨ p.1 = q.1 ∧ p.2 < q.2) := by
  unfold Go.Proofs.ltOf cmpXY orI Lib.compareInt
  rw [Bool.eq_iff_iff]
  simp only [decide_eq_true_eq]
  constructor
  · intro h
    repeat' split at h
    all_goals omega
  · intro h
    repeat' split
    all_goals omega
theorem cmp_swo : Go.Sort.SWO (Go.Proofs.ltOf cmpXY) where
  irrefl x := by rw [cmp_lt]; simp
  trans x y z h1 h2 := by rw [cmp_lt] at *; simp at *; omega
  ntrans x y z h1 h2 := by rw [cmp_lt] at *; simp at *; omega

theorem flat_cells (l : List Pt) : (Go.Sort.flatK encXY 2 l.toArray).toList = cells2 l := by
  apply List.ext_getElem?
  intro i
  have hs : (Go.Sort.flatK encXY 2 l.toArray).toList.length = l.length * 2 := by simp
  rcases Nat.lt_or_ge i (l.length * 2) with h | h
  · have hg := Go.Sort.get_flatK encXY 2 l.toArray i (by simpa using h)
    have h2 : i / 2 < l.length := by omega
    have hd : l.toArray[i / 2]! = (hx l (i / 2), hy l (i / 2)) := by
      unfold hx hy
      rw [List.getD_eq_getElem?_getD, List.getElem?_eq_getElem h2, getElem!_pos _ _ (by simpa using h2)]
      rfl
    have e : (Go.Sort.flatK encXY 2 l.toArray).toList[i]? = some ((encXY (hx l (i / 2), hy l (i / 2)))[i % 2]!) := by
      rw [List.getElem?_eq_getElem (by rw [hs]; exact h)]
      rw [← hd, ← hg]
      rw [getElem!_pos _ _ (by simpa using h)]
      rfl
    rw [e]
    obtain ⟨q, hq⟩ : ∃ q, i / 2 = q := ⟨_, rfl⟩
    have hm : i = q * 2 ∨ i = q * 2 + 1 := by omega
    rw [hq] at h2 ⊢
    rcases hm with rfl | rfl
    · rw [cells2_x l q h2, show q * 2 % 2 = 0 by omega]
      rfl
    · rw [cells2_y l q h2, show (q * 2 + 1) % 2 = 1 by omega]
      rfl
  · rw [List.getElem?_eq_none (by rw [hs]; exact h), List.getElem?_eq_none (by rw [cells2_length]; exact h)]

theorem own_holds {w : World} {base g n cap : Nat} {l : List Pt} (h : OwnP w base (.slice (some ⟨g, 0, none⟩) n cap) l) (hn : l.length = n) : Go.Sort.HoldsK encXY 2 w g 0 l.toArray := by
  intro j hj
  rw [Go.Sort.size_flatK, List.size_toArray] at hj
  have e : (Go.Sort.flatK encXY 2 l.toArray)[j]! = ((cells2 l)[j]?).getD undef := by
    rw [← flat_cells, getElem!_pos _ _ (by simpa using hj), Array.getElem?_toList, Array.getElem?_eq_getElem (by simpa using hj)]
    rfl
  subst hn
  have hc := World.ownsRow.cellAt h j (by omega)
  refine ⟨?_, World.ownsRow.frozenAt h _⟩
  rw [Nat.zero_add, hc, e]
  rw [List.getElem?_eq_getElem (by rw [cells2_length]; exact hj)]
  rfl
theorem put_cells (F : Array Value) (c : Array Value) (h : F.size ≤ c.size) : (Go.Sort.putCells id 0 F c).size = c.size ∧ (Go.Sort.putCells id 0 F c).toList.take F.size = F.toList := by
  refine ⟨by simp [Go.Sort.putCells], ?_⟩
  apply List.ext_getElem?
  intro i
  rw [List.getElem?_take]
  rcases Nat.lt_or_ge i F.size with hi | hi
  · rw [if_pos hi, Array.getElem?_toList, Array.getElem?_toList]
    unfold Go.Sort.putCells
    rw [Array.getElem?_mapIdx, Array.getElem?_eq_getElem (by omega), Option.map_some, if_pos (by omega), Array.getElem?_eq_getElem hi, Nat.sub_zero, getElem!_pos F i hi]
    rfl
  · rw [if_neg (by omega), List.getElem?_eq_none (by simpa using hi)]
theorem own_sorted {w : World} {base g n cap : Nat} {l l' : List Pt} (h : OwnP w base (.slice (some ⟨g, 0, none⟩) n cap) l) (hn : l.length = n) (hn' : l'.length = n) (m : Nat) (os : Array Obj) :
    Wrote w g base (.slice (some ⟨g, 0, none⟩) n cap) l' (Go.Proofs.sortWorldK encXY 2 w g 0 m l'.toArray os) := by
  subst hn
  unfold OwnP World.ownsRow at h
  rcases h.2 with ⟨e, _⟩ | ⟨g', cap', cur, e, h1, h2, h3, h4, h5, h6⟩
  · cases e
  · simp only [Value.slice.injEq, Option.some.injEq, Addr.mk.injEq] at e
    obtain ⟨⟨rfl, _, _⟩, _, rfl⟩ := e
    have hlt : g < w.heap.size := (Array.getElem?_eq_some_iff.1 h2).1
    have hF : (Go.Sort.flatK encXY 2 l'.toArray).size = l.length * 2 := by rw [Go.Sort.size_flatK, List.size_toArray, hn']
    obtain ⟨s1, s2⟩ := put_cells (Go.Sort.flatK encXY 2 l'.toArray) cur (by rw [hF, h5]; omega)
    have hg : (Go.Proofs.sortWorldK encXY 2 w g 0 m l'.toArray os).heap[g]? = some (.cells (Go.Sort.putCells id 0 (Go.Sort.flatK encXY 2 l'.toArray) cur) 34 (0, 0)) := by
      unfold Go.Proofs.sortWorldK Go.Sort.putRowK Go.Sort.putRow
      rw [Go.Sort.heap_grow_old _ _ (by simpa [Go.Sort.mapBlock, Go.Sort.ahead] using hlt)]
      show ((Go.Sort.ahead w m).heap.modify g _)[g]? = _
      rw [Array.getElem?_modify, if_pos rfl]
      show (w.heap[g]?).map _ = _
      rw [h2]
      rfl
    refine ⟨⟨rfl, rfl, rfl, ?_, ?_⟩, ?_⟩
    · show w.heap.size ≤ ((w.heap.modify g _) ++ os).size
      simp
    · intro k hk hne
      show ((w.heap.modify g _) ++ os)[k]? = _
      rw [Array.getElem?_append_left (by simpa using hk), Array.getElem?_modify, if_neg (fun e => hne (by rw [e]))]
    · unfold OwnP World.ownsRow
      rw [hn']
      refine ⟨by rw [cells2_length, hn'], .inr ⟨g, cap, _, rfl, h1, hg, h3, h4, by rw [s1]; exact h5, ?_⟩⟩
      rw [← hF, s2, flat_cells]
theorem sort_any (g n cap base : Nat) (l : List Pt) (w : World) (hn : l.length = n) (hb : n ≤ 1000) (h0 : 0 < n) (ho : OwnP w base (.slice (some ⟨g, 0, none⟩) n cap) l) :
    Calls Tryd.prog 17 #[.slice (some ⟨g, 0, none⟩) n cap, .func (.func 18) #[] #[]] w fun e w' => e = .returned (.tuple #[]) ∧ ∃ l' : List Pt, l'.Perm l ∧ l'.Pairwise (fun p q => Go.Proofs.ltOf cmpXY q p = false) ∧ Wrote w g base (.slice (some ⟨g, 0, none⟩) n cap) l' w' := by
  subst hn
  have hcon := Go.Proofs.AnyQ.slices_SortFunc Go.Proofs.Tryd.sortXY 2 Tryd.isAgg34 Tryd.sizeOf34 encXY (fun _ => rfl) (fun x v hv => by simp [encXY] at hv; rcases hv with rfl | rfl <;> rfl) cmpXY cmp_swo 18 #[] g 0 cap l.toArray w (enters_of Tryd.func18 (by kernel_rfl) rfl) (fun _ _ _ _ p q => byXY_any p q _) (own_holds ho rfl) (by have := ho.form rfl h0; obtain ⟨_, _, e, _, h, _⟩ := this; simp only [Value.slice.injEq, Option.some.injEq, Addr.mk.injEq] at e; omega) (by simp; omega)
  refine Calls.mono hcon fun e w' ⟨he, d', m, os, hp, hs, hw⟩ => ⟨he, d'.toList, ?_, ?_, ?_⟩
  · have := hp.2.2
    have e1 : (d'.extract 0 l.toArray.size).toList = d'.toList := by rw [← hp.1]; simp
    have e2 : (l.toArray.extract 0 l.toArray.size).toList = l := by simp
    rw [e1, e2] at this
    exact this
  · have hz : d'.size = l.length := by rw [hp.1]; simp
    rw [List.pairwise_iff_getElem]
    intro i j hi hj hij
    have hi' : i < d'.size := by simpa using hi
    have hj' : j < d'.size := by simpa using hj
    have := hs i j (Nat.zero_le _) hij (by simp; omega)
    rw [getElem!_pos d' i hi', getElem!_pos d' j hj'] at this
    simpa using this
  · have := own_sorted ho rfl (l' := d'.toList) (by have := hp.1; simpa using this) m os
    rw [hw]
    simpa using this
end Go.Proofs.YtamhhbkjgfhfoaaDoor
