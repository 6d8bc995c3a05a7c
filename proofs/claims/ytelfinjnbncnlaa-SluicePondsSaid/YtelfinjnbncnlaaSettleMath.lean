/- Plain facts on buckets that run over. -/
import Derived.Test.YtelfinjnbncnlaaLevels
namespace Go.Proofs.Ytelfinjnbncnlaa

/-- A weighted sum. -/
def wsum (p : Nat → Int) : Nat → List Int → Int
  | _, [] => 0
  | k, x :: l => p k * x + wsum p (k + 1) l
theorem wsum_set (p : Nat → Int) : ∀ (l : List Int) (k i : Nat) (x : Int), i < l.length → wsum p k (l.set i x) = wsum p k l + p (k + i) * (x - l.getD i 0)
  | [], _, _, _, h => by simp at h
  | y :: l, k, 0, x, _ => by
    show p k * x + wsum p (k + 1) l = p k * y + wsum p (k + 1) l + p k * (x - y)
    rw [Int.mul_sub]; omega
  | y :: l, k, i + 1, x, h => by
    have := wsum_set p l (k + 1) i x (by simpa using h)
    show p k * y + wsum p (k + 1) (l.set i x) = p k * y + wsum p (k + 1) l + p (k + (i + 1)) * (x - l.getD i 0)
    rw [this, show k + 1 + i = k + (i + 1) by omega]; omega
def NonN (l : List Int) : Prop := ∀ i, i < l.length → 0 ≤ l.getD i 0
theorem wsum_nonneg {p : Nat → Int} (hp : ∀ i, 0 ≤ p i) : ∀ (l : List Int) (k : Nat), NonN l → 0 ≤ wsum p k l
  | [], _, _ => Int.le_refl _
  | y :: l, k, h => by
    have h0 := h 0 (by simp)
    have h1 := wsum_nonneg hp l (k + 1) fun i hi => by simpa using h (i + 1) (by simpa using hi)
    have := Int.mul_nonneg (hp k) (show 0 ≤ y by simpa using h0)
    show 0 ≤ p k * y + _
    omega
theorem entry_le : ∀ (l : List Int) (k i : Nat), NonN l → i < l.length → l.getD i 0 ≤ wsum (fun _ => 1) k l
  | [], _, _, _, h => by simp at h
  | y :: l, k, 0, h, _ => by
    have h1 := wsum_nonneg (p := fun _ => 1) (fun _ => by decide) l (k + 1) fun i hi => by simpa using h (i + 1) (by simpa using hi)
    show y ≤ 1 * y + _
    omega
  | y :: l, k, i + 1, h, hi => by
    have h0 : 0 ≤ y := by simpa using h 0 (by simp)
    have h1 := entry_le l (k + 1) i (fun j hj => by simpa using h (j + 1) (by simpa using hj)) (by simpa using hi)
    show l.getD i 0 ≤ 1 * y + _
    omega
theorem nonn_set {l : List Int} (h : NonN l) {i : Nat} {x : Int} (hx : 0 ≤ x) : NonN (l.set i x) := fun j hj => by
  rw [List.length_set] at hj
  rw [List.getD_eq_getElem?_getD, List.getElem?_set]
  by_cases e : i = j
  · rw [if_pos e]; subst e; rw [if_pos hj]; exact hx
  · rw [if_neg e]
    have := h j hj
    rwa [List.getD_eq_getElem?_getD] at this

def addL (t : Int) (l : List Int) (j : Nat) : List Int := l.set j (l.getD j 0 + t)
theorem addL_length (t : Int) (l : List Int) (j : Nat) : (addL t l j).length = l.length := by simp [addL]
theorem fold_length (t : Int) : ∀ (js : List Nat) (l : List Int), (js.foldl (addL t) l).length = l.length
  | [], _ => rfl
  | j :: js, l => by rw [List.foldl_cons, fold_length t js, addL_length]
/-- The sum of weights. -/
def psum (p : Nat → Int) : List Nat → Int
  | [] => 0
  | j :: js => p j + psum p js
theorem wsum_fold (p : Nat → Int) (t : Int) : ∀ (js : List Nat) (l : List Int), (∀ j, j ∈ js → j < l.length) → wsum p 0 (js.foldl (addL t) l) = wsum p 0 l + t * psum p js
  | [], l, _ => by show wsum p 0 l = wsum p 0 l + t * 0; omega
  | j :: js, l, h => by
    have hj := h j (List.mem_cons_self ..)
    rw [List.foldl_cons, wsum_fold p t js _ fun i hi => by rw [addL_length]; exact h i (List.mem_cons_of_mem _ hi)]
    unfold addL
    rw [wsum_set p l 0 j _ hj, Nat.zero_add]
    show wsum p 0 l + p j * (l.getD j 0 + t - l.getD j 0) + t * psum p js = wsum p 0 l + t * (p j + psum p js)
    rw [Int.mul_add, show l.getD j 0 + t - l.getD j 0 = t by omega, Int.mul_comm (p j) t]; omega
theorem nonn_fold {t : Int} (ht : 0 ≤ t) : ∀ (js : List Nat) (l : List Int), NonN l → NonN (js.foldl (addL t) l)
  | [], _, h => h
  | j :: js, l, h => by
    rw [List.foldl_cons]
    refine nonn_fold ht js _ ?_
    by_cases hj : j < l.length
    · have := h j hj
      exact nonn_set h (by omega)
    · unfold addL
      rw [List.set_eq_of_length_le (by omega)]
      exact h

/-- A square runs over t times. -/
def runL (W H : Nat) (l : List Int) (at_ : Nat) (t : Int) : List Int := (near4 W H at_).foldl (addL t) (l.set at_ (l.getD at_ 0 - 4 * t))
theorem runL_length (W H : Nat) (l : List Int) (at_ : Nat) (t : Int) : (runL W H l at_ t).length = l.length := by unfold runL; rw [fold_length, List.length_set]
/-- Weights that lessen when a square runs over. -/
def phi (W i : Nat) : Int := (((i % W : Nat) : Int) + 1) * ((W : Int) - ((i % W : Nat) : Int))
theorem psum_app (p : Nat → Int) : ∀ (l k : List Nat), psum p (l ++ k) = psum p l + psum p k
  | [], k => by show _ = 0 + _; simp
  | j :: l, k => by show p j + psum p (l ++ k) = p j + psum p l + psum p k; rw [psum_app p l k]; omega
theorem phi_nonneg {W : Nat} (hW : 1 ≤ W) (i : Nat) : 0 ≤ phi W i := by
  have := Nat.mod_lt i (show 0 < W by omega)
  exact Int.mul_nonneg (by omega) (by omega)
theorem phi_le {W : Nat} (hW : W ≤ 16) (h1 : 1 ≤ W) (i : Nat) : phi W i ≤ 256 := by
  have := Nat.mod_lt i (show 0 < W by omega)
  have := Int.mul_le_mul (show ((i % W : Nat) : Int) + 1 ≤ 16 by omega) (show (W : Int) - ((i % W : Nat) : Int) ≤ 16 by omega) (by omega) (by omega)
  exact this
theorem phi_near {W H i : Nat} (hi : i < W * H) : psum (phi W) (near4 W H i) ≤ 4 * phi W i - 2 := by
  obtain ⟨x, y, hx, hy, rfl⟩ := by_place hi
  unfold near4
  rw [psum_app, psum_app, psum_app]
  have ux : (y * W + x) % W = x := at_x hx
  have uy : (y * W + x) / W = y := at_y hx
  rw [ux, uy]
  have hp : phi W (y * W + x) = ((x : Int) + 1) * ((W : Int) - x) := by unfold phi; rw [ux]
  have p0 : 0 ≤ phi W (y * W + x) := phi_nonneg (by omega) _
  have a1 : psum (phi W) (if 0 < y then [y * W + x - W] else []) ≤ phi W (y * W + x) := by
    split
    · obtain ⟨y', rfl⟩ : ∃ y', y = y' + 1 := ⟨y - 1, by omega⟩
      have e : (y' + 1) * W + x - W = y' * W + x := by rw [Nat.add_mul, Nat.one_mul]; omega
      show phi W ((y' + 1) * W + x - W) + 0 ≤ _
      rw [e, hp]
      unfold phi
      rw [at_x hx]; omega
    · exact p0
  have a4 : psum (phi W) (if y + 1 < H then [y * W + x + W] else []) ≤ phi W (y * W + x) := by
    split
    · have e : y * W + x + W = (y + 1) * W + x := by rw [Nat.add_mul, Nat.one_mul]; omega
      show phi W (y * W + x + W) + 0 ≤ _
      rw [e, hp]
      unfold phi
      rw [at_x hx]; omega
    · exact p0
  have a2 : psum (phi W) (if 0 < x then [y * W + x - 1] else []) = (x : Int) * ((W : Int) - x + 1) := by
    split
    · obtain ⟨x', rfl⟩ : ∃ x', x = x' + 1 := ⟨x - 1, by omega⟩
      show phi W (y * W + (x' + 1) - 1) + 0 = _
      rw [show y * W + (x' + 1) - 1 = y * W + x' by omega]
      unfold phi
      rw [at_x (by omega), Int.add_zero]
      congr 1
      omega
    · have : x = 0 := by omega
      subst this
      show (0 : Int) = 0 * _
      rw [Int.zero_mul]
  have a3 : psum (phi W) (if x + 1 < W then [y * W + x + 1] else []) = ((x : Int) + 2) * ((W : Int) - x - 1) := by
    split
    · rename_i hlt
      show phi W (y * W + x + 1) + 0 = _
      rw [show y * W + x + 1 = y * W + (x + 1) by omega]
      unfold phi
      rw [at_x hlt, Int.add_zero]
      congr 1 <;> omega
    · have : (W : Int) - x - 1 = 0 := by omega
      rw [this, Int.mul_zero]
      rfl
  rw [a2, a3]
  have key : (x : Int) * ((W : Int) - x + 1) + ((x : Int) + 2) * ((W : Int) - x - 1) = 2 * (((x : Int) + 1) * ((W : Int) - x)) - 2 := by
    generalize (x : Int) = u
    generalize (W : Int) = v
    grind
  rw [← hp] at key
  omega
theorem one_near (W H i : Nat) : psum (fun _ => 1) (near4 W H i) ≤ 4 := by
  have e : ∀ l : List Nat, psum (fun _ => 1) l = (l.length : Int) := fun l => by
    induction l with
    | nil => rfl
    | cons j l ih => show 1 + psum (fun _ => 1) l = _; rw [ih, List.length_cons]; omega
  rw [e]
  have := near_len W H i
  omega

/-- Buckets, and how often each square has run over. -/
structure SV (W H n : Nat) (b o : List Int) : Prop where
  lb : b.length = n
  lo : o.length = n
  nb : NonN b
  no : NonN o
  few : wsum (fun _ => 1) 0 b ≤ 25600
  pot : wsum (phi W) 0 b + 2 * wsum (fun _ => 1) 0 o ≤ 6553600
theorem run_facts {W H n : Nat} {b : List Int} {at_ : Nat} {t : Int} (hn : n = W * H) (hlen : b.length = n) (hb : NonN b) (ha : at_ < n) (h0 : 0 ≤ t) (ht : 4 * t ≤ b.getD at_ 0) :
    NonN (runL W H b at_ t) ∧ wsum (fun _ => 1) 0 (runL W H b at_ t) ≤ wsum (fun _ => 1) 0 b ∧ wsum (phi W) 0 (runL W H b at_ t) + 2 * t ≤ wsum (phi W) 0 b := by
  have hj : ∀ j, j ∈ near4 W H at_ → j < (b.set at_ (b.getD at_ 0 - 4 * t)).length := fun j hj => by
    rw [List.length_set, hlen, hn]
    rw [hn] at ha
    exact near_lt hj ha
  refine ⟨nonn_fold h0 _ _ (nonn_set hb (by omega)), ?_, ?_⟩
  · unfold runL
    rw [wsum_fold _ _ _ _ hj, wsum_set _ _ _ _ _ (by omega)]
    have := Int.mul_le_mul_of_nonneg_left (one_near W H at_) h0
    omega
  · unfold runL
    rw [wsum_fold _ _ _ _ hj, wsum_set _ _ _ _ _ (by omega), Nat.zero_add]
    have k := Int.mul_le_mul_of_nonneg_left (phi_near (W := W) (H := H) (i := at_) (hn ▸ ha)) h0
    have e : phi W at_ * (b.getD at_ 0 - 4 * t - b.getD at_ 0) = -(t * (4 * phi W at_)) := by
      rw [show b.getD at_ 0 - 4 * t - b.getD at_ 0 = -(4 * t) by omega]
      generalize phi W at_ = u
      grind
    rw [e]
    rw [Int.mul_sub] at k
    omega
theorem SV.step {W H n : Nat} {b o : List Int} (h : SV W H n b o) (hn : n = W * H) {at_ : Nat} (ha : at_ < n) {t : Int} (h0 : 0 < t) (ht : 4 * t ≤ b.getD at_ 0) :
    SV W H n (runL W H b at_ t) (o.set at_ (o.getD at_ 0 + t)) := by
  obtain ⟨r1, r2, r3⟩ := run_facts hn h.lb h.nb ha (by omega) ht
  have := h.few
  have := h.pot
  have ho := h.no at_ (by rw [h.lo]; exact ha)
  refine ⟨by rw [runL_length]; exact h.lb, by rw [List.length_set]; exact h.lo, r1, nonn_set h.no (by omega), by omega, ?_⟩
  rw [wsum_set _ _ _ _ _ (by rw [h.lo]; exact ha)]
  omega
/-- Square by square, as often as it may. -/
def stepS (W H : Nat) (S : List Int × List Int) (at_ : Nat) : List Int × List Int := if 0 < S.1.getD at_ 0 / 4 then (runL W H S.1 at_ (S.1.getD at_ 0 / 4), S.2.set at_ (S.2.getD at_ 0 + S.1.getD at_ 0 / 4)) else S
def passTo (W H : Nat) (S : List Int × List Int) : Nat → List Int × List Int
  | 0 => S
  | k + 1 => stepS W H (passTo W H S k) k
def passes (W H n : Nat) (S : List Int × List Int) : Nat → List Int × List Int
  | 0 => S
  | k + 1 => passTo W H (passes W H n S k) n
end Go.Proofs.Ytelfinjnbncnlaa
