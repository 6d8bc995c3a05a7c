/- Sorted posts without those that come twice: they ascend. -/
import Derived.Test.YtamhhbkjgfhfoaaDoorCompact
namespace Go.Proofs.YtamhhbkjgfhfoaaDoor
open Go.RowKit

theorem lf_lt {p q : Pt} (hp : InP p) (hq : InP q) : Go.Proofs.ltOf cmpXY p q = true ↔ lf 4001 1 p < lf 4001 1 q := by
  rw [cmp_lt, decide_eq_true_eq]
  unfold InP InRange at hp hq
  unfold lf
  omega
theorem lf_inj {p q : Pt} (hp : InP p) (hq : InP q) (h : lf 4001 1 p = lf 4001 1 q) : p = q := by
  unfold InP InRange at hp hq
  unfold lf at h
  have h1 : p.1 = q.1 := by omega
  have h2 : p.2 = q.2 := by omega
  exact Prod.ext h1 h2
/-- What holds of the first j of a sorted list. -/
theorem dd_asc {l : List Pt} (hr : ∀ p ∈ l, InP p) (hs : l.Pairwise fun p q => Go.Proofs.ltOf cmpXY q p = false) : ∀ j, j ≤ l.length → Asc 4001 1 (ddN l j) ∧ (∀ x ∈ ddN l j, ∀ k, j ≤ k + 1 → (hk : k < l.length) → lf 4001 1 x ≤ lf 4001 1 l[k]) ∧ (∀ i, i < j → (hi : i < l.length) → l[i] ∈ ddN l j)
  | 0, _ => by
    refine ⟨List.Pairwise.nil, fun x hx => ?_, fun i hi => by omega⟩
    simp [ddN] at hx
  | j + 1, hj => by
    obtain ⟨h1, h2, h3⟩ := dd_asc hr hs j (by omega)
    have hjl : j < l.length := by omega
    have hmono : ∀ k, j < k → (hk : k < l.length) → lf 4001 1 l[j] ≤ lf 4001 1 l[k] := fun k hjk hk => by
      have := List.pairwise_iff_getElem.1 hs j k hjl hk hjk
      rcases Int.lt_or_le (lf 4001 1 l[k]) (lf 4001 1 l[j]) with h | h
      · rw [(lf_lt (hr _ (List.getElem_mem hk)) (hr _ (List.getElem_mem hjl))).2 h] at this
        cases this
      · exact h
    unfold ddN
    by_cases hd : 0 < j ∧ l[j]? = l[j - 1]?
    · rw [if_pos hd]
      refine ⟨h1, fun x hx k hk hkl => h2 x hx k (by omega) hkl, fun i hi hil => ?_⟩
      rcases Nat.lt_or_ge i j with h | h
      · exact h3 i h hil
      · obtain rfl : i = j := by omega
        have e := hd.2
        rw [List.getElem?_eq_getElem hil, List.getElem?_eq_getElem (by omega)] at e
        rw [Option.some.inj e]
        exact h3 (i - 1) (by omega) (by omega)
    · rw [if_neg hd, List.getElem?_eq_getElem hjl]
      have hlast : ∀ x ∈ ddN l j, lf 4001 1 x < lf 4001 1 l[j] := fun x hx => by
        have a := h2 x hx j (by omega) hjl
        rcases Int.lt_or_le (lf 4001 1 x) (lf 4001 1 l[j]) with h | h
        · exact h
        · have hj0 : 0 < j := by
            rcases Nat.eq_zero_or_pos j with h0 | h0
            · subst h0; simp [ddN] at hx
            · exact h0
          have b := h2 x hx (j - 1) (by omega) (by omega)
          have c : lf 4001 1 l[j - 1] ≤ lf 4001 1 l[j] := by
            have := List.pairwise_iff_getElem.1 hs (j - 1) j (by omega) hjl (by omega)
            rcases Int.lt_or_le (lf 4001 1 l[j]) (lf 4001 1 l[j - 1]) with h' | h'
            · rw [(lf_lt (hr _ (List.getElem_mem hjl)) (hr _ (List.getElem_mem (by omega)))).2 h'] at this
              cases this
            · exact h'
          have e : l[j - 1] = l[j] := lf_inj (hr _ (List.getElem_mem (by omega))) (hr _ (List.getElem_mem hjl)) (by omega)
          exact absurd ⟨hj0, by rw [List.getElem?_eq_getElem hjl, List.getElem?_eq_getElem (by omega), e]⟩ hd
      refine ⟨?_, ?_, ?_⟩
      · unfold Asc
        rw [List.pairwise_append]
        exact ⟨h1, by simp, fun a ha b hb => by
          obtain rfl : b = l[j] := by simpa using hb
          exact hlast a ha⟩
      · intro x hx k hk hkl
        rcases List.mem_append.1 hx with hx | hx
        · exact h2 x hx k (by omega) hkl
        · obtain rfl : x = l[j] := by simpa using hx
          rcases Nat.lt_or_ge j k with h | h
          · exact hmono k h hkl
          · obtain rfl : k = j := by omega
            exact Int.le_refl _
      · intro i hi hil
        rcases Nat.lt_or_ge i j with h | h
        · exact List.mem_append.2 (.inl (h3 i h hil))
        · obtain rfl : i = j := by omega
          simp
theorem dd_all {l : List Pt} (hr : ∀ p ∈ l, InP p) (hs : l.Pairwise fun p q => Go.Proofs.ltOf cmpXY q p = false) : Asc 4001 1 (ddN l l.length) ∧ ∀ x, x ∈ ddN l l.length ↔ x ∈ l := by
  obtain ⟨h1, _, h3⟩ := dd_asc hr hs l.length (Nat.le_refl _)
  refine ⟨h1, fun x => ⟨ddN_mem x, fun hx => ?_⟩⟩
  obtain ⟨i, hi, rfl⟩ := List.getElem_of_mem hx
  exact h3 i hi hi
theorem chain_two {al be : Int} {ps : List Pt} (hs : Asc al be ps) (h2 : 2 ≤ ps.length) : 2 ≤ (chainR ps).length := by
  have hne : ps ≠ [] := fun e => by rw [e] at h2; simp at h2
  have hI := chainR_ok hne hs
  rcases hc : chainR ps with _ | ⟨a, _ | ⟨b, r⟩⟩
  · exact absurd hc hI.ne
  · have ht := hI.top a (by rw [hc]; rfl)
    have hb := hI.bot a (by rw [hc]; rfl)
    have h01 := List.pairwise_iff_getElem.1 hs 0 1 (by omega) (by omega) (by omega)
    have a0 := ht ps[1] (List.getElem_mem (by omega))
    have a1 := hb ps[0] (List.getElem_mem (by omega))
    omega
  · simp
theorem flat_congr {l k : List Pt} (e : ∀ x, x ∈ l ↔ x ∈ k) (h : Flat l) : Flat k := fun a ha b hb c hc => h a ((e a).2 ha) b ((e b).2 hb) c ((e c).2 hc)
end Go.Proofs.YtamhhbkjgfhfoaaDoor
