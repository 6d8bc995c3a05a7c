/- Plain mathematics of the document's Hours: picking those that need most, one after another, is an hour. -/
import Derived.Test.YtcjahpbbkdkbpaaTStepM
namespace Go.Proofs.Ytcjahpbbkdkbpaa
open Go.RowKit

def wOf (wl : List Bool) (c : Nat) : Bool := wl.getD c true
theorem wOf_set {wl : List Bool} {b c : Nat} : wOf (wl.set b true) c = if c = b then true else wOf wl c := by
  unfold wOf
  rw [List.getD_eq_getElem?_getD, List.getElem?_set, List.getD_eq_getElem?_getD]
  by_cases e : b = c
  · subst e
    rw [if_pos rfl, if_pos rfl]
    by_cases h : b < wl.length
    · rw [if_pos h]; rfl
    · rw [if_neg h]; rfl
  · rw [if_neg e, if_neg (fun h => e h.symm)]
theorem wOf_none {n c : Nat} (h : c < n) : wOf (List.replicate n false) c = false := by
  unfold wOf
  rw [List.getD_eq_getElem?_getD, List.getElem?_replicate, if_pos h]
  rfl
structure TopW (l : Nat → Nat) (n : Nat) (W : Nat → Bool) (k : Nat) : Prop where
  pos : ∀ c, c < n → W c = true → 0 < l c
  most : ∀ c d, c < n → d < n → W c = true → W d = false → l d ≤ l c
  cnt : cntN W n = k
theorem TopW.start (l : Nat → Nat) (n : Nat) : TopW l n (wOf (List.replicate n false)) 0 :=
  ⟨fun c hc h => (by rw [wOf_none hc] at h; cases h), fun c d hc _ h => (by rw [wOf_none hc] at h; cases h), cntN_none fun m hm => wOf_none hm⟩
theorem TopW.step {l : Nat → Nat} {n k b : Nat} {wl : List Bool} (t : TopW l n (wOf wl) k) (hb : b < n) (hw : wOf wl b = false) (hp : 0 < l b) (hm : ∀ j, j < n → wOf wl j = false → l j ≤ l b) : TopW l n (wOf (wl.set b true)) (k + 1) := by
  refine ⟨fun c hc h => ?_, fun c d hc hd h1 h2 => ?_, ?_⟩
  · rw [wOf_set] at h
    by_cases e : c = b
    · subst e; exact hp
    · rw [if_neg e] at h; exact t.pos c hc h
  · rw [wOf_set] at h1 h2
    by_cases e2 : d = b
    · rw [if_pos e2] at h2; cases h2
    · rw [if_neg e2] at h2
      by_cases e : c = b
      · subst e; exact hm d hd h2
      · rw [if_neg e] at h1; exact t.most c d hc hd h1 h2
  · rw [← t.cnt]
    exact cntN_one hb hw (by rw [wOf_set, if_pos rfl]) fun m e => by rw [wOf_set, if_neg e]
theorem TopW.full {l : Nat → Nat} {n h : Nat} {W : Nat → Bool} (t : TopW l n W h) : Hour l n h W :=
  ⟨t.pos, t.most, by
    have h1 := cntN_le_of (p := W) (q := fun c => decide (0 < l c)) (n := n) fun c hc e => by simpa using t.pos c hc e
    have h2 := t.cnt
    omega⟩
theorem TopW.short {l : Nat → Nat} {n k h : Nat} {W : Nat → Bool} (t : TopW l n W k) (hk : k ≤ h) (hn : ∀ j, j < n → W j = false → l j = 0) : Hour l n h W :=
  ⟨t.pos, t.most, by
    have h1 : cntN (fun c => decide (0 < l c)) n = cntN W n := cntN_congr fun c hc => by
      cases hw : W c
      · have := hn c hc hw
        simp [this]
      · have := t.pos c hc hw
        simpa using this
    have h2 := t.cnt
    omega⟩
theorem Hour.none {l : Nat → Nat} {n h : Nat} {W : Nat → Bool} (H : Hour l n h W) (hh : 1 ≤ h) (hn : ∀ c, c < n → W c = false) : hoursN l n h = 0 := by
  have h1 := H.len
  rw [cntN_none hn] at h1
  refine hours_zero hh ?_
  rcases Nat.eq_zero_or_pos (topF l n) with h2 | h2
  · exact h2
  · have := cnt_pos h2
    omega
theorem Hour.some {l : Nat → Nat} {n h c : Nat} {W : Nat → Bool} (H : Hour l n h W) (hh : 1 ≤ h) (hc : c < n) (hw : W c = true) : hoursN (less l W) n h + 1 = hoursN l n h := by
  have h1 := H.pos c hc hw
  have h2 := le_topF (g := l) hc
  exact hour_step hh H (hours_pos (by omega))
/-- The best of the first faces. -/
def BestI (l : Nat → Nat) (W : Nat → Bool) (i : Nat) (x : Int) : Prop :=
  (x = -1 ∧ ∀ j, j < i → W j = false → l j = 0) ∨ ∃ b : Nat, x = (b : Int) ∧ b < i ∧ W b = false ∧ 0 < l b ∧ ∀ j, j < i → W j = false → l j ≤ l b
theorem BestI.start (l : Nat → Nat) (W : Nat → Bool) : BestI l W 0 (-1) := .inl ⟨rfl, fun j hj => by omega⟩
theorem BestI.skip {l : Nat → Nat} {W : Nat → Bool} {i : Nat} {x : Int} (b : BestI l W i x) (h : W i = false → l i = 0) : BestI l W (i + 1) x := by
  rcases b with ⟨rfl, h1⟩ | ⟨b, rfl, h1, h2, h3, h4⟩
  · exact .inl ⟨rfl, fun j hj hw => by
      by_cases e : j = i
      · subst e; exact h hw
      · exact h1 j (by omega) hw⟩
  · exact .inr ⟨b, rfl, by omega, h2, h3, fun j hj hw => by
      by_cases e : j = i
      · subst e; have := h hw; omega
      · exact h4 j (by omega) hw⟩
theorem BestI.first {l : Nat → Nat} {W : Nat → Bool} {i : Nat} (b : BestI l W i (-1)) (hw : W i = false) (hp : 0 < l i) : BestI l W (i + 1) i := by
  rcases b with ⟨_, h1⟩ | ⟨b, h0, _⟩
  · exact .inr ⟨i, rfl, by omega, hw, hp, fun j hj hwj => by
      by_cases e : j = i
      · subst e; exact Nat.le_refl _
      · have := h1 j (by omega) hwj; omega⟩
  · omega
theorem BestI.more {l : Nat → Nat} {W : Nat → Bool} {i b : Nat} (h : BestI l W i b) (hw : W i = false) (hp : l b < l i) : BestI l W (i + 1) i := by
  rcases h with ⟨h0, _⟩ | ⟨b', h0, h1, h2, h3, h4⟩
  · omega
  · obtain rfl : b = b' := by omega
    exact .inr ⟨i, rfl, by omega, hw, by omega, fun j hj hwj => by
      by_cases e : j = i
      · subst e; exact Nat.le_refl _
      · have := h4 j (by omega) hwj; omega⟩
theorem BestI.keep {l : Nat → Nat} {W : Nat → Bool} {i b : Nat} (h : BestI l W i b) (hp : l i ≤ l b) : BestI l W (i + 1) b := by
  rcases h with ⟨h0, _⟩ | ⟨b', h0, h1, h2, h3, h4⟩
  · omega
  · obtain rfl : b = b' := by omega
    exact .inr ⟨b, rfl, by omega, h2, h3, fun j hj hwj => by
      by_cases e : j = i
      · subst e; exact hp
      · exact h4 j (by omega) hwj⟩
theorem BestI.is {l : Nat → Nat} {W : Nat → Bool} {i b : Nat} (h : BestI l W i b) : b < i ∧ W b = false ∧ 0 < l b ∧ ∀ j, j < i → W j = false → l j ≤ l b := by
  rcases h with ⟨h0, _⟩ | ⟨b', h0, h1, h2, h3, h4⟩
  · omega
  · obtain rfl : b = b' := by omega
    exact ⟨h1, h2, h3, h4⟩
theorem BestI.no {l : Nat → Nat} {W : Nat → Bool} {i : Nat} (h : BestI l W i (-1)) : ∀ j, j < i → W j = false → l j = 0 := by
  rcases h with ⟨_, h1⟩ | ⟨b, h0, _⟩
  · exact h1
  · omega
theorem BestI.cases {l : Nat → Nat} {W : Nat → Bool} {i : Nat} {x : Int} (h : BestI l W i x) : x = -1 ∨ ∃ b : Nat, x = (b : Int) := by
  rcases h with ⟨h0, _⟩ | ⟨b, h0, _⟩
  · exact .inl h0
  · exact .inr ⟨b, h0⟩
theorem less_free {l : Nat → Nat} {W : Nat → Bool} {c : Nat} (h : W c = false) : less l W c = l c := by unfold less; rw [h]; rfl
theorem less_pick {l : Nat → Nat} {wl : List Bool} {b c : Nat} (hw : wOf wl b = false) : less l (wOf (wl.set b true)) c = if c = b then l b - 1 else less l (wOf wl) c := by
  unfold less
  rw [wOf_set]
  by_cases e : c = b
  · subst e; simp
  · simp [e]
end Go.Proofs.Ytcjahpbbkdkbpaa
