/- Plain facts on numbering what hangs together by its least: what a search from the least finds. -/
import Derived.Test.YtajfepogecakbaaDoorWindowsMath
namespace Go.Proofs.YtajfepogecakbaaDoor

theorem num_succ (n : Nat) (p : Nat → Prop) : num (n + 1) p = num n p + ind (p n) := by
  unfold num ind
  rw [List.range_succ, List.filter_append, List.length_append]
  by_cases h : p n <;> simp [h]
theorem num_mono {a b : Nat} (p : Nat → Prop) (h : a ≤ b) : num a p ≤ num b p := by
  induction b with
  | zero => obtain rfl : a = 0 := by omega
            exact Nat.le_refl _
  | succ b ih =>
    rcases Nat.lt_or_ge a (b + 1) with h1 | h1
    · rw [num_succ]; have := ih (by omega); omega
    · obtain rfl : a = b + 1 := by omega
      exact Nat.le_refl _
theorem num_lt {a b : Nat} {p : Nat → Prop} (h : a < b) (hp : p a) : num a p < num b p := by
  have := num_mono p (show a + 1 ≤ b by omega)
  rw [num_succ, ind_pos hp] at this
  omega
theorem num_le_n (n : Nat) (p : Nat → Prop) : num n p ≤ n := by
  have := List.length_filter_le (fun i => @decide (p i) (Classical.propDecidable _)) (List.range n)
  rw [List.length_range] at this
  exact this

section
variable (es : List (Nat × Nat)) (bel : Nat → Bool) (N : Nat) (nx : Nat → List Nat)
/-- The least that hangs together with it. -/
noncomputable def rootOf (i : Nat) : Nat := Classical.choose (root_of (R := Conn es) .refl Conn.trans i)
theorem rootOf_spec (i : Nat) : rootOf es i ≤ i ∧ IsRoot (Conn es) (rootOf es i) ∧ Conn es (rootOf es i) i := Classical.choose_spec (root_of (R := Conn es) .refl Conn.trans i)
theorem rootOf_iff {i j : Nat} : rootOf es i = rootOf es j ↔ Conn es i j := by
  obtain ⟨_, a1, a2⟩ := rootOf_spec es i
  obtain ⟨_, b1, b2⟩ := rootOf_spec es j
  constructor
  · intro h; rw [h] at a2; exact a2.symm.trans b2
  · intro h; exact root_unique (R := Conn es) Conn.symm a1 b1 ((a2.trans h).trans b2.symm)
theorem rootOf_root {i : Nat} : IsRoot (Conn es) i ↔ rootOf es i = i := by
  obtain ⟨a0, a1, a2⟩ := rootOf_spec es i
  constructor
  · intro h; exact root_unique (R := Conn es) Conn.symm a1 h a2
  · intro h; rw [← h]; exact a1
/-- How many sets begin before n. -/
noncomputable def setsTo (n : Nat) : Nat := num n fun r => IsRoot (Conn es) r ∧ bel r = true
/-- The number of a square's set; -1 outside. -/
noncomputable def grp (i : Nat) : Int := if bel i = true then ((setsTo es bel (rootOf es i) : Nat) : Int) else -1
/-- The pairs that hang together. -/
structure Net : Prop where
  edge : ∀ i j, (i, j) ∈ es → i < N ∧ j < N ∧ bel i = true ∧ bel j = true ∧ j ∈ nx i ∧ i ∈ nx j
  link : ∀ i j, i < N → bel i = true → j ∈ nx i → bel j = true → j < N ∧ Conn es i j
variable {es bel N nx}
theorem Net.bel_iff (h : Net es bel N nx) {i j : Nat} (hc : Conn es i j) : (bel i = true ↔ bel j = true) :=
  Conn.keeps (p := fun x => bel x = true) (fun a b hab => by have := h.edge a b hab; simp [this.2.2.1, this.2.2.2.1]) hc

def upd (f : Nat → Int) (i : Nat) (v : Int) : Nat → Int := fun j => if j = i then v else f j
theorem upd_same (f : Nat → Int) (i : Nat) (v : Int) : upd f i v i = v := if_pos rfl
theorem upd_ne (f : Nat → Int) {i j : Nat} (v : Int) (h : j ≠ i) : upd f i v j = f j := if_neg h

variable (es bel N nx)
/-- The sets that begin before f are numbered. -/
structure Outer (nm : Nat → Int) (f : Nat) : Prop where
  at_ : ∀ i, i < N → nm i = if bel i = true ∧ rootOf es i < f then ((setsTo es bel (rootOf es i) : Nat) : Int) else -1
/-- The set of f is being numbered. -/
structure Dfs (nm : Nat → Int) (f : Nat) (ahead : List Nat) (P : Nat → Prop) : Prop where
  old : ∀ i, i < N → bel i = true → rootOf es i < f → nm i = ((setsTo es bel (rootOf es i) : Nat) : Int)
  new : ∀ i, i < N → ¬ (bel i = true ∧ rootOf es i < f) → nm i = -1 ∨ (nm i = ((setsTo es bel f : Nat) : Int) ∧ bel i = true ∧ rootOf es i = f)
  st : ∀ a ∈ ahead, a < N ∧ nm a = ((setsTo es bel f : Nat) : Int)
  first : nm f = ((setsTo es bel f : Nat) : Int)
  shut : ∀ i, i < N → nm i = ((setsTo es bel f : Nat) : Int) → i ∈ ahead ∨ P i ∨ ∀ j ∈ nx i, bel j = true → nm j = ((setsTo es bel f : Nat) : Int)
variable {es bel N nx}
theorem outer_start : Outer es bel N (fun _ => -1) 0 := ⟨fun i _ => by rw [if_neg (by omega)]⟩
theorem setsTo_succ (f : Nat) : setsTo es bel (f + 1) = setsTo es bel f + ind (IsRoot (Conn es) f ∧ bel f = true) := num_succ _ _
theorem Net.root (h : Net es bel N nx) {i f : Nat} (hb : bel i = true) (hr : rootOf es i = f) : IsRoot (Conn es) f ∧ bel f = true := by
  have := rootOf_spec es i
  rw [hr] at this
  exact ⟨this.2.1, (h.bel_iff this.2.2).2 hb⟩
theorem Outer.skip (hn : Net es bel N nx) {nm : Nat → Int} {f : Nat} (h : Outer es bel N nm f) (hf : f < N) (hs : bel f = false ∨ nm f ≠ -1) : Outer es bel N nm (f + 1) ∧ setsTo es bel (f + 1) = setsTo es bel f := by
  have no : ¬ (IsRoot (Conn es) f ∧ bel f = true) := by
    rintro ⟨h1, h2⟩
    rcases hs with h3 | h3
    · rw [h2] at h3; cases h3
    · apply h3; rw [h.at_ f hf, if_neg]; rw [(rootOf_root es).1 h1]; omega
  refine ⟨⟨fun i hi => ?_⟩, by rw [setsTo_succ, ind_neg no, Nat.add_zero]⟩
  rw [h.at_ i hi]
  by_cases hb : bel i = true
  · by_cases hr : rootOf es i = f
    · exact absurd (hn.root hb hr) no
    · have : (rootOf es i < f + 1) = (rootOf es i < f) := by rw [eq_iff_iff]; omega
      simp only [this]
  · simp [hb]
theorem Outer.begin (hn : Net es bel N nx) {nm : Nat → Int} {f : Nat} (h : Outer es bel N nm f) (hf : f < N) (hb : bel f = true) (hm : nm f = -1) : IsRoot (Conn es) f ∧ Dfs es bel N nx (upd nm f ((setsTo es bel f : Nat) : Int)) f [f] (fun _ => False) := by
  have hr : rootOf es f = f := by
    have h0 := (rootOf_spec es f).1
    rcases Nat.lt_or_ge (rootOf es f) f with h1 | h1
    · have := h.at_ f hf
      rw [if_pos ⟨hb, h1⟩, hm] at this
      omega
    · omega
  refine ⟨(rootOf_root es).2 hr, ⟨fun i hi h1 h2 => ?_, fun i hi h1 => ?_, fun a ha => ?_, upd_same _ _ _, fun i hi h1 => ?_⟩⟩
  · rw [upd_ne _ _ (by rintro rfl; omega), h.at_ i hi, if_pos ⟨h1, h2⟩]
  · by_cases e : i = f
    · subst e; exact .inr ⟨upd_same _ _ _, hb, hr⟩
    · left; rw [upd_ne _ _ e, h.at_ i hi, if_neg h1]
  · obtain rfl : a = f := by simpa using ha
    exact ⟨hf, upd_same _ _ _⟩
  · by_cases e : i = f
    · left; simp [e]
    · exfalso
      rw [upd_ne _ _ e, h.at_ i hi] at h1
      split at h1
      · rename_i hh
        have := hn.root hh.1 rfl
        have := num_lt (p := fun r => IsRoot (Conn es) r ∧ bel r = true) hh.2 this
        unfold setsTo at h1
        omega
      · omega
theorem Dfs.is (hn : Net es bel N nx) {nm : Nat → Int} {f : Nat} {ahead : List Nat} {P : Nat → Prop} (h : Dfs es bel N nx nm f ahead P) {i : Nat} (hi : i < N) (e : nm i = ((setsTo es bel f : Nat) : Int)) : bel i = true ∧ rootOf es i = f := by
  by_cases hh : bel i = true ∧ rootOf es i < f
  · have := num_lt (p := fun r => IsRoot (Conn es) r ∧ bel r = true) hh.2 (hn.root hh.1 rfl)
    have := h.old i hi hh.1 hh.2
    unfold setsTo at this e
    omega
  · rcases h.new i hi hh with h1 | h1
    · omega
    · exact h1.2
/-- A square is taken from the end of the list. -/
theorem Dfs.pop {nm : Nat → Int} {f : Nat} {ahead : List Nat} {a : Nat} (h : Dfs es bel N nx nm f (ahead ++ [a]) (fun _ => False)) :
    Dfs es bel N nx nm f ahead (fun i => i = a ∧ ∀ j ∈ (nx a).take 0, bel j = true → nm j = ((setsTo es bel f : Nat) : Int)) :=
  ⟨h.old, h.new, fun x hx => h.st x (by simp [hx]), h.first, fun i hi e => by
    rcases h.shut i hi e with h1 | h1 | h1
    · rcases List.mem_append.1 h1 with h2 | h2
      · exact .inl h2
      · exact .inr (.inl ⟨by simpa using h2, by simp⟩)
    · exact h1.elim
    · exact .inr (.inr h1)⟩
/-- A square next to it is looked at, and belongs, and had no number. -/
theorem Dfs.visit (hn : Net es bel N nx) {nm : Nat → Int} {f : Nat} {ahead : List Nat} {a k near : Nat} (ha : a < N) (hba : nm a = ((setsTo es bel f : Nat) : Int))
    (h : Dfs es bel N nx nm f ahead (fun i => i = a ∧ ∀ j ∈ (nx a).take k, bel j = true → nm j = ((setsTo es bel f : Nat) : Int))) (hk : (nx a)[k]? = some near) (hb : bel near = true) (hm : nm near = -1) :
    near < N ∧ Dfs es bel N nx (upd nm near ((setsTo es bel f : Nat) : Int)) f (ahead ++ [near]) (fun i => i = a ∧ ∀ j ∈ (nx a).take (k + 1), bel j = true → upd nm near ((setsTo es bel f : Nat) : Int) j = ((setsTo es bel f : Nat) : Int)) := by
  obtain ⟨b1, r1⟩ := h.is hn ha hba
  obtain ⟨l1, c1⟩ := hn.link a near ha b1 (List.mem_of_getElem? hk) hb
  have r2 : rootOf es near = f := by rw [← r1]; exact ((rootOf_iff es).2 c1).symm
  have keep : ∀ j, nm j = ((setsTo es bel f : Nat) : Int) → upd nm near ((setsTo es bel f : Nat) : Int) j = ((setsTo es bel f : Nat) : Int) := fun j hj => by
    by_cases e : j = near
    · subst e; exact upd_same _ _ _
    · rw [upd_ne _ _ e]; exact hj
  refine ⟨l1, ⟨fun i hi h1 h2 => ?_, fun i hi h1 => ?_, fun x hx => ?_, keep _ h.first, fun i hi h1 => ?_⟩⟩
  · rw [upd_ne _ _ (by rintro rfl; omega)]; exact h.old i hi h1 h2
  · by_cases e : i = near
    · subst e; exact .inr ⟨upd_same _ _ _, hb, r2⟩
    · rw [upd_ne _ _ e]; exact h.new i hi h1
  · rcases List.mem_append.1 hx with h2 | h2
    · exact ⟨(h.st x h2).1, keep _ (h.st x h2).2⟩
    · obtain rfl : x = near := by simpa using h2
      exact ⟨l1, upd_same _ _ _⟩
  · by_cases e : i = near
    · left; simp [e]
    · rw [upd_ne _ _ e] at h1
      rcases h.shut i hi h1 with h2 | ⟨h2, h3⟩ | h2
      · left; simp [h2]
      · right; left
        refine ⟨h2, fun j hj hbj => ?_⟩
        rw [List.take_add_one, hk, Option.toList_some] at hj
        rcases List.mem_append.1 hj with h4 | h4
        · exact keep j (h3 j h4 hbj)
        · obtain rfl : j = near := by simpa using h4
          exact upd_same _ _ _
      · exact .inr (.inr fun j hj hbj => keep j (h2 j hj hbj))
/-- .. or needs nothing. -/
theorem Dfs.leave (hn : Net es bel N nx) {nm : Nat → Int} {f : Nat} {ahead : List Nat} {a k near : Nat} (ha : a < N) (hba : nm a = ((setsTo es bel f : Nat) : Int))
    (h : Dfs es bel N nx nm f ahead (fun i => i = a ∧ ∀ j ∈ (nx a).take k, bel j = true → nm j = ((setsTo es bel f : Nat) : Int))) (hk : (nx a)[k]? = some near) (hm : bel near = false ∨ nm near ≠ -1) :
    Dfs es bel N nx nm f ahead (fun i => i = a ∧ ∀ j ∈ (nx a).take (k + 1), bel j = true → nm j = ((setsTo es bel f : Nat) : Int)) := by
  obtain ⟨b1, r1⟩ := h.is hn ha hba
  refine ⟨h.old, h.new, h.st, h.first, fun i hi h1 => ?_⟩
  rcases h.shut i hi h1 with h2 | ⟨h2, h3⟩ | h2
  · exact .inl h2
  · right; left
    refine ⟨h2, fun j hj hbj => ?_⟩
    rw [List.take_add_one, hk, Option.toList_some] at hj
    rcases List.mem_append.1 hj with h4 | h4
    · exact h3 j h4 hbj
    · obtain rfl : j = near := by simpa using h4
      rcases hm with hm | hm
      · rw [hbj] at hm; cases hm
      · obtain ⟨l1, c1⟩ := hn.link a j ha b1 (List.mem_of_getElem? hk) hbj
        have r2 : rootOf es j = f := by rw [← r1]; exact ((rootOf_iff es).2 c1).symm
        rcases h.new j l1 (by omega) with h5 | h5
        · exact absurd h5 hm
        · exact h5.1
  · exact .inr (.inr h2)
/-- All that is next to it was looked at. -/
theorem Dfs.done {nm : Nat → Int} {f : Nat} {ahead : List Nat} {a k : Nat} (h : Dfs es bel N nx nm f ahead (fun i => i = a ∧ ∀ j ∈ (nx a).take k, bel j = true → nm j = ((setsTo es bel f : Nat) : Int))) (hk : (nx a).length ≤ k) :
    Dfs es bel N nx nm f ahead (fun _ => False) :=
  ⟨h.old, h.new, h.st, h.first, fun i hi h1 => by
    rcases h.shut i hi h1 with h2 | ⟨h2, h3⟩ | h2
    · exact .inl h2
    · subst h2
      rw [List.take_of_length_le hk] at h3
      exact .inr (.inr h3)
    · exact .inr (.inr h2)⟩
/-- Nothing is ahead. -/
theorem Dfs.end_ (hn : Net es bel N nx) {nm : Nat → Int} {f : Nat} (hf : f < N) (h : Dfs es bel N nx nm f [] (fun _ => False)) (hr : IsRoot (Conn es) f) : Outer es bel N nm (f + 1) ∧ setsTo es bel (f + 1) = setsTo es bel f + 1 := by
  have hb : bel f = true := (h.is hn hf h.first).1
  have shut : ∀ i, i < N → nm i = ((setsTo es bel f : Nat) : Int) → ∀ j ∈ nx i, bel j = true → nm j = ((setsTo es bel f : Nat) : Int) := fun i hi e => by
    rcases h.shut i hi e with h1 | h1 | h1
    · cases h1
    · exact h1.elim
    · exact h1
  refine ⟨⟨fun i hi => ?_⟩, by rw [setsTo_succ, ind_pos ⟨hr, hb⟩]⟩
  by_cases hbi : bel i = true
  · by_cases h1 : rootOf es i < f
    · rw [if_pos ⟨hbi, by omega⟩, h.old i hi hbi h1]
    · by_cases h2 : rootOf es i = f
      · rw [if_pos ⟨hbi, by omega⟩, h2]
        have c : Conn es f i := (rootOf_iff es).1 (by rw [h2, (rootOf_root es).1 hr])
        exact (Conn.keeps (p := fun x => nm x = ((setsTo es bel f : Nat) : Int)) (fun a b hab => by
          obtain ⟨e1, e2, e3, e4, e5, e6⟩ := hn.edge a b hab
          exact ⟨fun k => shut a e1 k b e5 e4, fun k => shut b e2 k a e6 e3⟩) c).1 h.first
      · rw [if_neg (by omega)]
        rcases h.new i hi (by omega) with h3 | h3
        · exact h3
        · exact absurd h3.2.2 h2
  · rw [if_neg (by simp [hbi])]
    rcases h.new i hi (by simp [hbi]) with h3 | h3
    · exact h3
    · exact absurd h3.2.1 hbi
theorem Outer.whole {nm : Nat → Int} (h : Outer es bel N nm N) {i : Nat} (hi : i < N) : nm i = grp es bel i := by
  rw [h.at_ i hi]
  unfold grp
  have := (rootOf_spec es i).1
  by_cases hb : bel i = true
  · rw [if_pos ⟨hb, by omega⟩, if_pos hb]
  · rw [if_neg (by simp [hb]), if_neg hb]
/-- How many have no number. -/
def unnum (nm : Nat → Int) (n : Nat) : Nat := ((List.range n).filter fun i => decide (nm i = -1)).length
theorem unnum_upd {nm : Nat → Int} {i : Nat} {v : Int} (hi : i < N) (hm : nm i = -1) (hv : v ≠ -1) : unnum (upd nm i v) N + 1 = unnum nm N := by
  unfold unnum
  rw [filter_but (p := fun i => decide (nm i = -1)) (r := i) (by simp [hm]) N hi]
  congr 2
  apply List.filter_congr
  intro j _
  by_cases e : j = i
  · subst e; rw [upd_same]; simp [hv]
  · rw [upd_ne _ _ e]; simp [e]
theorem Net.grp_lt (hn : Net es bel N nx) {i : Nat} (hi : i < N) (hb : bel i = true) : 0 ≤ grp es bel i ∧ grp es bel i < setsTo es bel N := by
  unfold grp
  rw [if_pos hb]
  have h := rootOf_spec es i
  have := num_lt (a := rootOf es i) (b := N) (p := fun r => IsRoot (Conn es) r ∧ bel r = true) (by omega) (hn.root hb rfl)
  unfold setsTo
  omega
end
end Go.Proofs.YtajfepogecakbaaDoor
