/- The hull of posts: two chains of a sorted list; from corner to corner; that both are one. -/
import Derived.Test.YtamhhbkjgfhfoaaDoorGeo
import Derived.Test.YtamhhbkjgfhfoaaDoorOwn
namespace Go.Proofs.YtamhhbkjgfhfoaaDoor
open Go.RowKit

def crP (a b c : Pt) : Int := crossI a.1 a.2 b.1 b.2 c.1 c.2
/-- A linear order of posts: al x + be y. -/
def lf (al be : Int) (p : Pt) : Int := al * p.1 + be * p.2

/-- Popping: the chain's top first. -/
def popW (a : Pt) : List Pt → List Pt
  | c0 :: c1 :: r => if crP c1 c0 a ≤ 0 then popW a (c1 :: r) else c0 :: c1 :: r
  | l => l
def chainR (ps : List Pt) : List Pt := ps.foldl (fun c a => a :: popW a c) []

def Edges (E : Pt → Pt → Prop) : List Pt → Prop
  | v :: u :: r => E u v ∧ Edges E (u :: r)
  | _ => True

section
variable {al be : Int}

/-- The side from u to v has all of S on its left, or on it. -/
def Sup (al be : Int) (S : List Pt) (u v : Pt) : Prop := lf al be u < lf al be v ∧ ∀ x ∈ S, 0 ≤ crP u v x ∧ (crP u v x = 0 → lf al be u ≤ lf al be x ∧ lf al be x ≤ lf al be v)

theorem four (p q r s : Pt) : crP p q s * (lf al be r - lf al be q) = crP p q r * (lf al be s - lf al be q) + crP q r s * (lf al be q - lf al be p) := by
  unfold crP crossI lf; grind
theorem two (s d a x : Pt) : (lf al be s - lf al be d) * crP s a x = (lf al be a - lf al be s) * crP d s x - (lf al be x - lf al be s) * crP d s a := by
  unfold crP crossI lf; grind
theorem two' (u t a x : Pt) : (lf al be t - lf al be u) * crP u a x = (lf al be a - lf al be u) * crP u t x - (lf al be x - lf al be u) * crP u t a := by
  unfold crP crossI lf; grind

theorem pos_of_mul {a b : Int} (ha : 0 < a) (h : 0 < b * a) : 0 < b := by
  rcases ltOrGe 0 b with h1 | h1
  · exact h1
  · have := Int.mul_nonneg (show 0 ≤ -b by omega) (show 0 ≤ a by omega)
    have e : -b * a = -(b * a) := by grind
    omega
theorem nonneg_of_mul {a b : Int} (ha : 0 < a) (h : 0 ≤ a * b) : 0 ≤ b := by
  rcases ltOrGe b 0 with h1 | h1
  · have := Int.mul_neg_of_pos_of_neg ha h1; omega
  · exact h1

theorem edges_mono {E F : Pt → Pt → Prop} : ∀ {l : List Pt}, (∀ u v, u ∈ l → v ∈ l → E u v → F u v) → Edges E l → Edges F l
  | [], _, _ => trivial
  | [_], _, _ => trivial
  | v :: u :: r, h, he => ⟨h u v (by simp) (by simp) he.1, edges_mono (l := u :: r) (fun a b ha hb => h a b (List.mem_cons_of_mem _ ha) (List.mem_cons_of_mem _ hb)) he.2⟩

/-- What holds of a chain, its top first. -/
structure Inv (al be : Int) (S c : List Pt) : Prop where
  ne : c ≠ []
  sub : ∀ v ∈ c, v ∈ S
  top : ∀ t, c.head? = some t → ∀ x ∈ S, lf al be x ≤ lf al be t
  bot : ∀ b, c.getLast? = some b → ∀ x ∈ S, lf al be b ≤ lf al be x
  edges : Edges (Sup al be S) c

/-- Behind the popping: t stands on top. -/
structure Popped (al be : Int) (S : List Pt) (a : Pt) (c : List Pt) : Prop where
  ne : c ≠ []
  sub : ∀ v ∈ c, v ∈ S
  bot : ∀ b, c.getLast? = some b → ∀ x ∈ S, lf al be b ≤ lf al be x
  edges : Edges (Sup al be S) c
  right : ∀ t, c.head? = some t → ∀ x ∈ S, lf al be t < lf al be x → 0 ≤ crP t a x
  stop : ∀ t u r, c = t :: u :: r → 0 < crP u t a

theorem pop_ok {S : List Pt} {a : Pt} (ha : ∀ x ∈ S, lf al be x < lf al be a) : ∀ c : List Pt, c ≠ [] → (∀ v ∈ c, v ∈ S) → (∀ b, c.getLast? = some b → ∀ x ∈ S, lf al be b ≤ lf al be x) → Edges (Sup al be S) c →
    (∀ t, c.head? = some t → ∀ x ∈ S, lf al be t < lf al be x → 0 ≤ crP t a x) → Popped al be S a (popW a c)
  | [], h, _, _, _, _ => absurd rfl h
  | [t], h, hs, hb, he, hr => by
    unfold popW
    exact ⟨h, hs, hb, he, hr, fun t' u r e => by cases e⟩
  | t :: u :: r, h, hs, hb, he, hr => by
    unfold popW
    split
    · rename_i hc
      refine pop_ok ha (u :: r) (by simp) (fun v hv => hs v (List.mem_cons_of_mem _ hv)) (fun b e => hb b (by rw [List.getLast?_cons_cons]; exact e)) he.2 ?_
      intro t' e x hx hlt
      obtain rfl : u = t' := by simpa using e
      obtain ⟨h1, h2⟩ := he.1
      have k := two' (al := al) (be := be) u t a x
      have h3 := (h2 x hx).1
      have hau := ha u (hs u (by simp))
      have p1 := Int.mul_nonneg (show 0 ≤ lf al be a - lf al be u by omega) h3
      have p2 := Int.mul_nonneg (show 0 ≤ lf al be x - lf al be u by omega) (show 0 ≤ -crP u t a by omega)
      have e2 : (lf al be x - lf al be u) * -crP u t a = -((lf al be x - lf al be u) * crP u t a) := by grind
      exact nonneg_of_mul (show 0 < lf al be t - lf al be u by omega) (by omega)
    · rename_i hc
      exact ⟨h, hs, hb, he, hr, fun t' u' r' e => by cases e; omega⟩

/-- All sides that stay have the new post strictly on their left. -/
theorem left_of_all {S : List Pt} {a : Pt} (ha : ∀ x ∈ S, lf al be x < lf al be a) : ∀ c : List Pt, (∀ v ∈ c, v ∈ S) → Edges (Sup al be S) c → (∀ t u r, c = t :: u :: r → 0 < crP u t a) → Edges (Sup al be (S ++ [a])) c
  | [], _, _, _ => trivial
  | [_], _, _, _ => trivial
  | t :: u :: r, hs, he, hst => by
    have h0 := hst t u r rfl
    refine ⟨⟨he.1.1, fun x hx => ?_⟩, left_of_all ha (u :: r) (fun v hv => hs v (List.mem_cons_of_mem _ hv)) he.2 ?_⟩
    · rcases List.mem_append.1 hx with hx | hx
      · exact he.1.2 x hx
      · obtain rfl : x = a := by simpa using hx
        exact ⟨by omega, fun e => by omega⟩
    · intro t' u' r' e
      cases e
      obtain ⟨h1, h2⟩ := he.2.1
      have ht := hs t (by simp)
      have k := four (al := al) (be := be) u' u t a
      have h3 := h2 t ht
      have hut := he.1.1
      have h4 : 0 < crP u' u t := by
        rcases ltOrGe 0 (crP u' u t) with h | h
        · exact h
        · have := h3.2 (by omega); omega
      have hau := ha u (hs u (by simp))
      have p1 := Int.mul_pos h4 (show 0 < lf al be a - lf al be u by omega)
      have p2 := Int.mul_pos h0 (show 0 < lf al be u - lf al be u' by omega)
      exact pos_of_mul (show 0 < lf al be t - lf al be u by omega) (by omega)

theorem push_ok {S c : List Pt} {a : Pt} (hinj : ∀ x ∈ S, ∀ y ∈ S, lf al be x = lf al be y → x = y) (ha : ∀ x ∈ S, lf al be x < lf al be a) (h : Inv al be S c) : Inv al be (S ++ [a]) (a :: popW a c) := by
  have p := pop_ok ha c h.ne h.sub h.bot h.edges (fun t e x hx hlt => absurd (h.top t e x hx) (by omega))
  generalize popW a c = c' at *
  have hst := left_of_all ha c' p.sub p.edges p.stop
  have last : ∀ b, (a :: c').getLast? = some b → ∀ x ∈ S ++ [a], lf al be b ≤ lf al be x := by
    intro b e x hx
    cases c' with
    | nil => exact absurd rfl p.ne
    | cons t r =>
      rw [List.getLast?_cons_cons] at e
      rcases List.mem_append.1 hx with hx | hx
      · exact p.bot b e x hx
      · obtain rfl : x = a := by simpa using hx
        have := ha b (p.sub b (List.mem_of_getLast? e))
        omega
  refine ⟨by simp, ?_, ?_, last, ?_⟩
  · intro v hv
    rcases List.mem_cons.1 hv with rfl | hv
    · simp
    · exact List.mem_append_left _ (p.sub v hv)
  · intro t e x hx
    obtain rfl : a = t := by simpa using e
    rcases List.mem_append.1 hx with hx | hx
    · have := ha x hx; omega
    · obtain rfl : x = a := by simpa using hx
      omega
  · cases c' with
    | nil => exact absurd rfl p.ne
    | cons t r =>
      refine ⟨⟨ha t (p.sub t (by simp)), fun x hx => ?_⟩, hst⟩
      have hta := ha t (p.sub t (by simp))
      rcases List.mem_append.1 hx with hx | hx
      · have hxa := ha x hx
        rcases ltOrGe (lf al be t) (lf al be x) with hlt | hle
        · exact ⟨p.right t rfl x hx hlt, fun _ => by omega⟩
        · cases r with
          | nil =>
            have : lf al be t ≤ lf al be x := p.bot t (by simp) x hx
            obtain rfl : x = t := hinj x hx t (p.sub t (by simp)) (by omega)
            have e : crP x a x = 0 := by unfold crP crossI; grind
            exact ⟨by omega, fun _ => by omega⟩
          | cons u r =>
            have hpos := p.stop t u r rfl
            obtain ⟨h1, h2⟩ := p.edges.1
            have h3 := (h2 x hx).1
            have k := two (al := al) (be := be) t u a x
            have p1 := Int.mul_nonneg (show 0 ≤ lf al be a - lf al be t by omega) h3
            have p2 := Int.mul_nonneg (show 0 ≤ lf al be t - lf al be x by omega) (show 0 ≤ crP u t a by omega)
            have e2 : (lf al be t - lf al be x) * crP u t a = -((lf al be x - lf al be t) * crP u t a) := by grind
            refine ⟨nonneg_of_mul (show 0 < lf al be t - lf al be u by omega) (by omega), fun e => ?_⟩
            rw [e, Int.mul_zero] at k
            have hz : (lf al be t - lf al be x) * crP u t a = 0 := by omega
            rcases Int.mul_eq_zero.1 hz with hz | hz
            · omega
            · omega
      · obtain rfl : x = a := by simpa using hx
        have e : crP t x x = 0 := by unfold crP crossI; grind
        exact ⟨by omega, fun _ => by omega⟩

/-- Sorted strictly by the order. -/
def Asc (al be : Int) (l : List Pt) : Prop := l.Pairwise fun a b => lf al be a < lf al be b
theorem asc_inj {S : List Pt} (h : Asc al be S) : ∀ x ∈ S, ∀ y ∈ S, lf al be x = lf al be y → x = y := by
  unfold Asc at h
  induction S with
  | nil => intro x hx; cases hx
  | cons a S ih =>
    rw [List.pairwise_cons] at h
    intro x hx y hy e
    rcases List.mem_cons.1 hx with h1 | h1 <;> rcases List.mem_cons.1 hy with h2 | h2
    · rw [h1, h2]
    · have := h.1 y h2; rw [h1] at e; omega
    · have := h.1 x h1; rw [h2] at e; omega
    · exact ih h.2 x h1 y h2 e

theorem chain_ok : ∀ (rest S c : List Pt), Asc al be (S ++ rest) → Inv al be S c → Inv al be (S ++ rest) (rest.foldl (fun c a => a :: popW a c) c)
  | [], S, c, _, h => by simpa using h
  | a :: rest, S, c, hs, h => by
    have e : S ++ a :: rest = (S ++ [a]) ++ rest := by simp
    rw [e] at hs ⊢
    have h1 : Asc al be (S ++ [a]) := (List.pairwise_append.1 hs).1
    have h2 := List.pairwise_append.1 h1
    exact chain_ok rest (S ++ [a]) _ hs (push_ok (asc_inj h2.1) (fun x hx => h2.2.2 x hx a (by simp)) h)
theorem chainR_ok {ps : List Pt} (hne : ps ≠ []) (hs : Asc al be ps) : Inv al be ps (chainR ps) := by
  cases ps with
  | nil => exact absurd rfl hne
  | cons a rest =>
    have : chainR (a :: rest) = rest.foldl (fun c a => a :: popW a c) [a] := rfl
    rw [this]
    refine chain_ok rest [a] [a] hs ⟨by simp, by simp, fun t e x hx => ?_, fun b e x hx => ?_, trivial⟩
    · obtain rfl : a = t := by simpa using e
      obtain rfl : x = a := by simpa using hx
      omega
    · obtain rfl : a = b := by simpa using e
      obtain rfl : x = a := by simpa using hx
      omega
end

/-! The two chains make the hull. -/
/-- A list whose consecutive members are related, in its own order. -/
def Steps (E : Pt → Pt → Prop) : List Pt → Prop
  | u :: v :: r => E u v ∧ Steps E (v :: r)
  | _ => True
theorem steps_append {E : Pt → Pt → Prop} : ∀ {l : List Pt} {a b : Pt}, Steps E (l ++ [a]) → E a b → Steps E (l ++ [a] ++ [b])
  | [], _, _, _, h => ⟨h, trivial⟩
  | [_], _, _, h, k => ⟨h.1, k, trivial⟩
  | _ :: y :: l, _, _, h, k => ⟨h.1, steps_append (l := y :: l) h.2 k⟩
theorem steps_of_edges {E : Pt → Pt → Prop} : ∀ {c : List Pt}, Edges E c → Steps E c.reverse
  | [], _ => trivial
  | [_], _ => trivial
  | v :: u :: r, h => by
    have := steps_of_edges (c := u :: r) h.2
    rw [List.reverse_cons] at this ⊢
    rw [List.reverse_cons]
    exact steps_append this h.1
theorem steps_get {E : Pt → Pt → Prop} : ∀ {l : List Pt} {i : Nat} {u v : Pt}, Steps E l → l[i]? = some u → l[i + 1]? = some v → E u v
  | [], _, _, _, _, h, _ => by simp at h
  | [_], i, _, _, _, _, h => by simp at h
  | a :: b :: r, 0, u, v, h, h1, h2 => by
    simp at h1 h2
    subst h1 h2
    exact h.1
  | a :: b :: r, i + 1, u, v, h, h1, h2 => steps_get (l := b :: r) (i := i) h.2 (by simpa using h1) (by simpa using h2)
theorem steps_asc {al be : Int} {E : Pt → Pt → Prop} (hE : ∀ u v, E u v → lf al be u < lf al be v) : ∀ {l : List Pt}, Steps E l → Asc al be l
  | [], _ => List.Pairwise.nil
  | [a], _ => List.pairwise_singleton _ _
  | a :: b :: r, h => by
    have ih := steps_asc hE (l := b :: r) h.2
    unfold Asc at *
    rw [List.pairwise_cons]
    refine ⟨fun x hx => ?_, ih⟩
    rcases List.mem_cons.1 hx with rfl | hx
    · exact hE _ _ h.1
    · have := hE _ _ h.1
      have := (List.pairwise_cons.1 ih).1 x hx
      omega

/-- From a to b by sides that all have l on their left: the first is least, the last greatest. -/
structure Side (al be : Int) (l : List Pt) (c : List Pt) : Prop where
  sub : ∀ v ∈ c, v ∈ l
  steps : Steps (Sup al be l) c
  low : ∀ b, c.head? = some b → ∀ x ∈ l, lf al be b ≤ lf al be x
  high : ∀ t, c.getLast? = some t → ∀ x ∈ l, lf al be x ≤ lf al be t
theorem side_of {al be : Int} {ps : List Pt} (hne : ps ≠ []) (hs : Asc al be ps) : Side al be ps (chainR ps).reverse ∧ (chainR ps) ≠ [] := by
  have h := chainR_ok hne hs
  exact ⟨⟨fun v hv => h.sub v (by simpa using hv), steps_of_edges h.edges, fun b e => h.bot b (by simpa using e), fun t e => h.top t (by simpa using e)⟩, h.ne⟩

def dotP (a b c : Pt) : Int := dotI a.1 a.2 b.1 b.2 c.1 c.2
theorem dot_of_between {al be : Int} {u v x : Pt} (huv : lf al be u < lf al be v) (hc : crP u v x = 0) (h1 : lf al be u ≤ lf al be x) (h2 : lf al be x ≤ lf al be v) : dotP x u v ≤ 0 := by
  have k1 : (lf al be v - lf al be u) * (x.1 - u.1) = (lf al be x - lf al be u) * (v.1 - u.1) := by unfold crP crossI at hc; unfold lf; grind
  have k2 : (lf al be v - lf al be u) * (x.2 - u.2) = (lf al be x - lf al be u) * (v.2 - u.2) := by unfold crP crossI at hc; unfold lf; grind
  have sq : ∀ a : Int, 0 ≤ a * a := fun a => by
    rcases Int.le_total 0 a with h | h
    · exact Int.mul_nonneg h h
    · have := Int.mul_nonneg (a := -a) (b := -a) (by omega) (by omega); rwa [Int.neg_mul_neg] at this
  have key : ((lf al be v - lf al be u) * (lf al be v - lf al be u)) * -dotP x u v = ((lf al be x - lf al be u) * (lf al be v - lf al be x)) * ((v.1 - u.1) * (v.1 - u.1) + (v.2 - u.2) * (v.2 - u.2)) := by
    have e : lf al be v - lf al be x = (lf al be v - lf al be u) - (lf al be x - lf al be u) := by omega
    rw [e]
    have e2 : dotP x u v = (x.1 - u.1) * (x.1 - u.1) + (x.2 - u.2) * (x.2 - u.2) - ((x.1 - u.1) * (v.1 - u.1) + (x.2 - u.2) * (v.2 - u.2)) := by unfold dotP dotI; grind
    rw [e2]
    generalize lf al be v - lf al be u = D at *
    generalize lf al be x - lf al be u = A at *
    generalize x.1 - u.1 = a1 at *
    generalize x.2 - u.2 = a2 at *
    generalize v.1 - u.1 = d1 at *
    generalize v.2 - u.2 = d2 at *
    have f1 : D * D * (a1 * a1) = A * A * (d1 * d1) := by grind
    have f2 : D * D * (a2 * a2) = A * A * (d2 * d2) := by grind
    have f3 : D * D * (a1 * d1) = D * A * (d1 * d1) := by grind
    have f4 : D * D * (a2 * d2) = D * A * (d2 * d2) := by grind
    grind
  have p1 := Int.mul_nonneg (Int.mul_nonneg (show 0 ≤ lf al be x - lf al be u by omega) (show 0 ≤ lf al be v - lf al be x by omega)) (show 0 ≤ (v.1 - u.1) * (v.1 - u.1) + (v.2 - u.2) * (v.2 - u.2) by have := sq (v.1 - u.1); have := sq (v.2 - u.2); omega)
  have := nonneg_of_mul (Int.mul_pos (show 0 < lf al be v - lf al be u by omega) (show 0 < lf al be v - lf al be u by omega)) (b := -dotP x u v) (by omega)
  omega

/-- A side of a hull: all of l on its left, or on it between its ends. -/
def HSide (l : List Pt) (u v : Pt) : Prop := u ≠ v ∧ ∀ x ∈ l, 0 ≤ crP u v x ∧ (crP u v x = 0 → dotP x u v ≤ 0)
theorem hside_of_sup {al be : Int} {l : List Pt} {u v : Pt} (h : Sup al be l u v) : HSide l u v :=
  ⟨fun e => by have := h.1; rw [e] at this; omega, fun x hx => ⟨(h.2 x hx).1, fun e => dot_of_between h.1 e ((h.2 x hx).2 e).1 ((h.2 x hx).2 e).2⟩⟩
theorem steps_mono {E F : Pt → Pt → Prop} (h : ∀ u v, E u v → F u v) : ∀ {l : List Pt}, Steps E l → Steps F l
  | [], _ => trivial
  | [_], _ => trivial
  | _ :: b :: r, k => ⟨h _ _ k.1, steps_mono h (l := b :: r) k.2⟩
theorem steps_join {E : Pt → Pt → Prop} : ∀ {A : List Pt} {x : Pt} {B : List Pt}, Steps E (A ++ [x]) → Steps E (x :: B) → Steps E (A ++ x :: B)
  | [], _, _, _, k => k
  | [_], _, _, h, k => ⟨h.1, k⟩
  | _ :: b :: A, _, _, h, k => ⟨h.1, steps_join (A := b :: A) h.2 k⟩

structure IsHull (l h : List Pt) : Prop where
  three : 3 ≤ h.length
  sub : ∀ v ∈ h, v ∈ l
  nodup : h.Nodup
  start : ∀ b, h.head? = some b → ∀ x ∈ l, lf 4001 1 b ≤ lf 4001 1 x
  side : ∀ i u v, h[i]? = some u → h[(i + 1) % h.length]? = some v → HSide l u v

def Flat (l : List Pt) : Prop := ∀ a ∈ l, ∀ b ∈ l, ∀ c ∈ l, crP a b c = 0

def hullOf (ps : List Pt) : List Pt := (chainR ps).reverse.dropLast ++ (chainR ps.reverse).reverse.dropLast

theorem lf_neg (p : Pt) : lf (-4001) (-1) p = -lf 4001 1 p := by unfold lf; omega
theorem asc_rev {ps : List Pt} (h : Asc 4001 1 ps) : Asc (-4001) (-1) ps.reverse := by
  unfold Asc at *
  rw [List.pairwise_reverse]
  refine h.imp ?_
  intro a b hab
  rw [lf_neg, lf_neg]; omega
theorem cr_swap (a b c : Pt) : crP b a c = -crP a b c := by unfold crP crossI; grind
theorem nodup_of_asc {al be : Int} {l : List Pt} (h : Asc al be l) : l.Nodup := by
  unfold Asc at h
  exact h.imp fun hab e => by rw [e] at hab; omega
theorem split_last {l : List Pt} (h : l ≠ []) : ∃ b, l.getLast? = some b ∧ l = l.dropLast ++ [b] :=
  ⟨l.getLast h, List.getLast?_eq_some_getLast h, (List.dropLast_concat_getLast h).symm⟩
theorem pred_of {l : List Pt} {v b : Pt} (hv : v ∈ l) (hb : l.head? = some b) (hne : v ≠ b) : ∃ i u, l[i]? = some u ∧ l[i + 1]? = some v := by
  obtain ⟨i, hi⟩ := List.mem_iff_getElem?.1 hv
  cases i with
  | zero => rw [← List.head?_eq_getElem?, hb] at hi; exact absurd (Option.some.inj hi).symm hne
  | succ i =>
    have := (List.getElem?_eq_some_iff.1 hi).1
    exact ⟨i, l[i]'(by omega), List.getElem?_eq_getElem (by omega), hi⟩

theorem hull_ok {ps : List Pt} (hs : Asc 4001 1 ps) (h2 : 2 ≤ ps.length) : (3 ≤ (hullOf ps).length → IsHull ps (hullOf ps)) ∧ ((hullOf ps).length < 3 → Flat ps) := by
  have hne : ps ≠ [] := fun e => by rw [e] at h2; simp at h2
  have hs' := asc_rev hs
  obtain ⟨sC, nC⟩ := side_of hne hs
  obtain ⟨sD, nD⟩ := side_of (by simpa using hne) hs'
  have cE : ∀ x ∈ ps, x ∈ ps.reverse := fun x hx => by simpa using hx
  unfold hullOf
  have nC' : (chainR ps).reverse ≠ [] := by simpa using nC
  have nD' : (chainR ps.reverse).reverse ≠ [] := by simpa using nD
  generalize (chainR ps).reverse = C at *
  generalize (chainR ps.reverse).reverse = D at *
  have aC : Asc 4001 1 C := steps_asc (fun u v h => h.1) sC.steps
  have aD : Asc (-4001) (-1) D := steps_asc (fun u v h => h.1) sD.steps
  have inj := asc_inj hs
  obtain ⟨M, hM, eC⟩ := split_last nC'
  obtain ⟨m, hm, eD⟩ := split_last nD'
  have subD : ∀ v ∈ D, v ∈ ps := fun v hv => by simpa using sD.sub v hv
  have memM : M ∈ ps := sC.sub M (List.mem_of_getLast? hM)
  have memm : m ∈ ps := subD m (List.mem_of_getLast? hm)
  have highM := sC.high M hM
  have lowm : ∀ x ∈ ps, lf 4001 1 m ≤ lf 4001 1 x := fun x hx => by have := sD.high m hm x (cE x hx); rw [lf_neg, lf_neg] at this; omega
  have hdC : C.head? = some m := by
    obtain ⟨b, hb⟩ : ∃ b, C.head? = some b := by cases C with | nil => exact absurd rfl nC' | cons b r => exact ⟨b, rfl⟩
    have h1 := sC.low b hb m memm
    have hbp := sC.sub b (List.mem_of_mem_head? (by rw [hb]; rfl))
    have h3 := lowm b hbp
    rw [hb, inj b hbp m memm (by omega)]
  have hdD : D.head? = some M := by
    obtain ⟨b, hb⟩ : ∃ b, D.head? = some b := by cases D with | nil => exact absurd rfl nD' | cons b r => exact ⟨b, rfl⟩
    have h1 := sD.low b hb M (cE M memM)
    have hbp := subD b (List.mem_of_mem_head? (by rw [hb]; rfl))
    have h3 := highM b hbp
    rw [lf_neg, lf_neg] at h1
    rw [hb, inj b hbp M memM (by omega)]
  have hmM : m ≠ M := by
    intro e
    match ps, h2, hs with
    | a :: b :: r, _, hs =>
      have hab := (List.pairwise_cons.1 hs).1 b (by simp)
      have q1 := lowm a (by simp)
      have q2 := highM b (by simp)
      rw [e] at q1
      have q3 := lowm b (by simp)
      have q4 := highM a (by simp)
      rw [e] at q3
      omega
  -- each chain has a side
  obtain ⟨rC, eC2⟩ : ∃ r, C.dropLast = m :: r := by
    cases hC : C.dropLast with
    | nil => rw [hC] at eC; rw [eC] at hdC; simp at hdC; exact absurd hdC.symm hmM
    | cons a r => rw [hC] at eC; rw [eC] at hdC; simp at hdC; exact ⟨r, by rw [hdC]⟩
  obtain ⟨rD, eD2⟩ : ∃ r, D.dropLast = M :: r := by
    cases hD : D.dropLast with
    | nil => rw [hD] at eD; rw [eD] at hdD; simp at hdD; exact absurd hdD hmM
    | cons a r => rw [hD] at eD; rw [eD] at hdD; simp at hdD; exact ⟨r, by rw [hdD]⟩
  have stC : Steps (HSide ps) C := steps_mono (fun u v h => hside_of_sup h) sC.steps
  have stD : Steps (HSide ps) D := steps_mono (fun u v h => by
    have h' : Sup (-4001) (-1) ps u v := ⟨h.1, fun x hx => h.2 x (cE x hx)⟩
    exact hside_of_sup h') sD.steps
  constructor
  · intro h3
    have round : Steps (HSide ps) (C.dropLast ++ D.dropLast ++ [m]) := by
      rw [List.append_assoc, ← eD]
      have e1 : D = M :: D.tail := by cases D with | nil => exact absurd rfl nD' | cons b r => simp at hdD; rw [hdD]; rfl
      rw [e1]
      exact steps_join (by rw [← eC]; exact stC) (by rw [← e1]; exact stD)
    refine ⟨h3, ?_, ?_, ?_, ?_⟩
    · intro v hv
      rcases List.mem_append.1 hv with hv | hv
      · exact sC.sub v ((List.dropLast_sublist C).subset hv)
      · exact subD v ((List.dropLast_sublist D).subset hv)
    · rw [List.nodup_append]
      have n1 := nodup_of_asc aC
      have n2 := nodup_of_asc aD
      refine ⟨(List.dropLast_sublist C).nodup n1, (List.dropLast_sublist D).nodup n2, ?_⟩
      intro a ha b hb e
      subst e
      have aM : a ≠ M := by
        rintro rfl
        rw [eC, List.nodup_append] at n1
        exact n1.2.2 a ha a (by simp) rfl
      have am : a ≠ m := by
        rintro rfl
        rw [eD, List.nodup_append] at n2
        exact n2.2.2 a hb a (by simp) rfl
      obtain ⟨i, u, hu, hva⟩ := pred_of ((List.dropLast_sublist C).subset ha) hdC am
      obtain ⟨j, w, hw, hvb⟩ := pred_of ((List.dropLast_sublist D).subset hb) hdD aM
      have e1 := steps_get sC.steps hu hva
      have e2 := steps_get sD.steps hw hvb
      have k1 := e1.2 w (subD w (List.mem_of_getElem? hw))
      have k2 := e2.2 u (cE u (sC.sub u (List.mem_of_getElem? hu)))
      have sw : crP w a u = -crP u a w := by unfold crP crossI; grind
      have z : crP u a w = 0 := by omega
      have k3 := k1.2 z
      have k4 := e2.1
      rw [lf_neg, lf_neg] at k4
      omega
    · intro b hb x hx
      rw [eC2] at hb
      obtain rfl : m = b := by simpa using hb
      exact lowm x hx
    · intro i u v hu hv
      have hi : i < (C.dropLast ++ D.dropLast).length := (List.getElem?_eq_some_iff.1 hu).1
      refine steps_get round (i := i) (by rw [List.getElem?_append_left hi]; exact hu) ?_
      rcases Nat.lt_or_ge (i + 1) (C.dropLast ++ D.dropLast).length with h | h
      · rw [Nat.mod_eq_of_lt h] at hv
        rw [List.getElem?_append_left h]; exact hv
      · have e : i + 1 = (C.dropLast ++ D.dropLast).length := by omega
        rw [e, Nat.mod_self] at hv
        rw [List.getElem?_append_right h, e, Nat.sub_self]
        rw [eC2] at hv
        simpa using hv
  · intro h3
    rw [eC2, eD2] at h3
    simp only [List.length_append, List.length_cons] at h3
    have eC3 : C = [m, M] := by rw [eC, eC2, List.eq_nil_of_length_eq_zero (show rC.length = 0 by omega)]; rfl
    have eD3 : D = [M, m] := by rw [eD, eD2, List.eq_nil_of_length_eq_zero (show rD.length = 0 by omega)]; rfl
    rw [eC3] at stC
    rw [eD3] at stD
    have z : ∀ x ∈ ps, crP m M x = 0 := fun x hx => by
      have k1 := (stC.1.2 x hx).1
      have k2 := (stD.1.2 x hx).1
      rw [cr_swap] at k2
      omega
    have hlt : lf 4001 1 m < lf 4001 1 M := by
      have := sC.steps; rw [eC3] at this; exact this.1.1
    intro a ha b hb c hc
    have q1 := z a ha
    have q2 := z b hb
    have q3 := z c hc
    have key : (lf 4001 1 M - lf 4001 1 m) * crP a b c = (lf 4001 1 M - lf 4001 1 m) * 0 := by
      rw [Int.mul_zero]
      unfold crP crossI lf at *
      grind
    exact Int.eq_of_mul_eq_mul_left (by omega) key

theorem flat_small {ps : List Pt} (h : ps.length < 3) : Flat ps := by
  intro a ha b hb c hc
  match ps, h with
  | [], _ => cases ha
  | [p], _ => simp at ha hb hc; subst ha hb hc; unfold crP crossI; grind
  | [p, q], _ =>
    simp at ha hb hc
    rcases ha with rfl | rfl <;> rcases hb with rfl | rfl <;> rcases hc with rfl | rfl <;> (unfold crP crossI; grind)

/-! From corner to corner. -/
def farP (a b : Pt) : Int := (a.1 - b.1) * (a.1 - b.1) + (a.2 - b.2) * (a.2 - b.2)
def pickB (c next x : Pt) : Bool := decide (next = c) || (decide (crP c next x < 0) || (decide (crP c next x = 0) && decide (farP c next < farP c x)))
def pick (c next x : Pt) : Pt := if pickB c next x = true then x else next
def nextOf (l : List Pt) (c : Pt) : Pt := l.foldl (pick c) c

theorem sq0 (a : Int) : 0 ≤ a * a := by
  rcases Int.le_total 0 a with h | h
  · exact Int.mul_nonneg h h
  · have := Int.mul_nonneg (a := -a) (b := -a) (by omega) (by omega); rwa [Int.neg_mul_neg] at this
theorem far_pos {a b : Pt} (h : a ≠ b) : 0 < farP a b := by
  unfold farP
  have h1 := sq0 (a.1 - b.1)
  have h2 := sq0 (a.2 - b.2)
  by_cases e : a.1 - b.1 = 0
  · have : a.2 - b.2 ≠ 0 := fun e2 => h (Prod.ext (by omega) (by omega))
    have := Int.mul_ne_zero this this
    omega
  · have := Int.mul_ne_zero e e
    omega
theorem far_eq (c v x : Pt) : farP c v = farP c x + farP x v - 2 * dotP x c v := by unfold farP dotP dotI; grind

theorem pick_stay {l : List Pt} {c v x : Pt} (h : HSide l c v) (hx : x ∈ l) : pick c v x = v := by
  obtain ⟨h1, h2⟩ := h.2 x hx
  unfold pick
  rw [if_neg]
  simp only [pickB, Bool.or_eq_true, Bool.and_eq_true, decide_eq_true_eq]
  rintro (e | e | ⟨e1, e2⟩)
  · exact h.1 e.symm
  · omega
  · have := h2 e1
    have k := far_eq c v x
    have : 0 ≤ farP x v := by unfold farP; have := sq0 (x.1 - v.1); have := sq0 (x.2 - v.2); omega
    omega
theorem pick_take {l : List Pt} {c v n : Pt} (h : HSide l c v) (hn : n = c ∨ n ∈ l) : pick c n v = v := by
  unfold pick
  by_cases e : n = v
  · subst e; split <;> rfl
  · rw [if_pos]
    simp only [pickB, Bool.or_eq_true, Bool.and_eq_true, decide_eq_true_eq]
    by_cases e1 : n = c
    · exact .inl e1
    · right
      have hl : n ∈ l := hn.resolve_left e1
      obtain ⟨h1, h2⟩ := h.2 n hl
      have sw : crP c n v = -crP c v n := by unfold crP crossI; grind
      rcases ltOrGe 0 (crP c v n) with h3 | h3
      · left; omega
      · right
        refine ⟨by omega, ?_⟩
        have k := far_eq c v n
        have := h2 (by omega)
        have := far_pos e
        omega
theorem fold_stay {l : List Pt} {c v : Pt} (h : HSide l c v) : ∀ r : List Pt, (∀ x ∈ r, x ∈ l) → r.foldl (pick c) v = v
  | [], _ => rfl
  | x :: r, hr => by
    rw [List.foldl_cons, pick_stay h (hr x (by simp))]
    exact fold_stay h r fun y hy => hr y (List.mem_cons_of_mem _ hy)
theorem fold_take {l : List Pt} {c v : Pt} (h : HSide l c v) : ∀ (r : List Pt) (n : Pt), (∀ x ∈ r, x ∈ l) → v ∈ r → (n = c ∨ n ∈ l) → r.foldl (pick c) n = v
  | [], _, _, hv, _ => by cases hv
  | x :: r, n, hr, hv, hn => by
    rw [List.foldl_cons]
    by_cases e : x = v
    · subst e
      rw [pick_take h hn]
      exact fold_stay h r fun y hy => hr y (List.mem_cons_of_mem _ hy)
    · refine fold_take h r _ (fun y hy => hr y (List.mem_cons_of_mem _ hy)) ?_ ?_
      · rcases List.mem_cons.1 hv with e' | hv
        · exact absurd e'.symm e
        · exact hv
      · unfold pick
        split
        · exact .inr (hr x (by simp))
        · exact hn
/-- From one corner the document comes to the next one. -/
theorem next_eq {l : List Pt} {c v : Pt} (h : HSide l c v) (hv : v ∈ l) : nextOf l c = v := fold_take h l c (fun _ hx => hx) hv (.inl rfl)

/-- A hull is fixed by its list. -/
theorem hull_unique {l h k : List Pt} (hh : IsHull l h) (hk : IsHull l k) (inj : ∀ x ∈ l, ∀ y ∈ l, lf 4001 1 x = lf 4001 1 y → x = y) : h = k := by
  have l1 := hh.three
  have l2 := hk.three
  have key : ∀ i, i < h.length → i < k.length → h[i]? = k[i]? := by
    intro i
    induction i with
    | zero =>
      intro _ _
      obtain ⟨a, ha⟩ : ∃ a, h.head? = some a := by cases h with | nil => simp at l1 | cons a r => exact ⟨a, rfl⟩
      obtain ⟨b, hb⟩ : ∃ b, k.head? = some b := by cases k with | nil => simp at l2 | cons a r => exact ⟨a, rfl⟩
      have ma := hh.sub a (List.mem_of_mem_head? (by rw [ha]; rfl))
      have mb := hk.sub b (List.mem_of_mem_head? (by rw [hb]; rfl))
      have := hh.start a ha b mb
      have := hk.start b hb a ma
      rw [← List.head?_eq_getElem?, ← List.head?_eq_getElem?, ha, hb, inj a ma b mb (by omega)]
    | succ i ih =>
      intro h1 h2
      have e := ih (by omega) (by omega)
      have s1 := hh.side i _ _ (List.getElem?_eq_getElem (by omega)) (by rw [Nat.mod_eq_of_lt h1]; exact List.getElem?_eq_getElem h1)
      have s2 := hk.side i _ _ (List.getElem?_eq_getElem (by omega)) (by rw [Nat.mod_eq_of_lt h2]; exact List.getElem?_eq_getElem h2)
      have n1 := next_eq s1 (hh.sub _ (List.getElem_mem h1))
      have n2 := next_eq s2 (hk.sub _ (List.getElem_mem h2))
      have e' : h[i]'(by omega) = k[i]'(by omega) := by
        rw [List.getElem?_eq_getElem (by omega), List.getElem?_eq_getElem (by omega)] at e
        exact Option.some.inj e
      rw [List.getElem?_eq_getElem h1, List.getElem?_eq_getElem h2, ← n1, ← n2, e']
  -- the shorter one would close where the other goes on
  have close : ∀ {h k : List Pt}, IsHull l h → IsHull l k → (∀ i, i < h.length → i < k.length → h[i]? = k[i]?) → ¬ h.length < k.length := by
    intro h k hh hk key hlt
    have l1 := hh.three
    have s1 := hh.side (h.length - 1) _ _ (List.getElem?_eq_getElem (by omega)) (by rw [show h.length - 1 + 1 = h.length by omega, Nat.mod_self]; exact List.getElem?_eq_getElem (by omega))
    have s2 := hk.side (h.length - 1) _ _ (List.getElem?_eq_getElem (by omega)) (by rw [show h.length - 1 + 1 = h.length by omega, Nat.mod_eq_of_lt hlt]; exact List.getElem?_eq_getElem hlt)
    have n1 := next_eq s1 (hh.sub _ (List.getElem_mem _))
    have n2 := next_eq s2 (hk.sub _ (List.getElem_mem _))
    have e1 := key (h.length - 1) (by omega) (by omega)
    have e0 := key 0 (by omega) (by omega)
    rw [List.getElem?_eq_getElem (by omega), List.getElem?_eq_getElem (by omega)] at e1 e0
    rw [Option.some.inj e1, n2, Option.some.inj e0] at n1
    have := (List.getElem_inj hk.nodup).1 n1
    omega
  have hlen : h.length = k.length := by
    have a1 := close hh hk key
    have a2 := close hk hh (fun i h1 h2 => (key i h2 h1).symm)
    omega
  apply List.ext_getElem?
  intro i
  rcases Nat.lt_or_ge i h.length with h1 | h1
  · exact key i h1 (by omega)
  · rw [List.getElem?_eq_none h1, List.getElem?_eq_none (by omega)]
/-- A hull is the hull of its own corners. -/
theorem hull_own {l h : List Pt} (hh : IsHull l h) : IsHull h h :=
  ⟨hh.three, fun _ hv => hv, hh.nodup, fun b hb x hx => hh.start b hb x (hh.sub x hx), fun i u v hu hv => ⟨(hh.side i u v hu hv).1, fun x hx => (hh.side i u v hu hv).2 x (hh.sub x hx)⟩⟩
theorem hull_congr {l k h : List Pt} (e : ∀ x, x ∈ l ↔ x ∈ k) (hh : IsHull l h) : IsHull k h :=
  ⟨hh.three, fun v hv => (e v).1 (hh.sub v hv), hh.nodup, fun b hb x hx => hh.start b hb x ((e x).2 hx), fun i u v hu hv => ⟨(hh.side i u v hu hv).1, fun x hx => (hh.side i u v hu hv).2 x ((e x).2 hx)⟩⟩
theorem not_flat {l h : List Pt} (hh : IsHull l h) : ¬ Flat l := by
  intro hf
  have l1 := hh.three
  have s1 := hh.side 0 _ _ (List.getElem?_eq_getElem (by omega)) (by rw [Nat.mod_eq_of_lt (by omega)]; exact List.getElem?_eq_getElem (show 0 + 1 < h.length by omega))
  have s2 := hh.side 1 _ _ (List.getElem?_eq_getElem (by omega)) (by rw [Nat.mod_eq_of_lt (by omega)]; exact List.getElem?_eq_getElem (show 1 + 1 < h.length by omega))
  have m0 := hh.sub _ (List.getElem_mem (show 0 < h.length by omega))
  have m1 := hh.sub _ (List.getElem_mem (show 1 < h.length by omega))
  have m2 := hh.sub _ (List.getElem_mem (show 2 < h.length by omega))
  -- all three on one line: each side's farthest post; the second leads back to the first or to itself
  have d1 := (s1.2 _ m2).2 (hf _ m0 _ m1 _ m2)
  have d2 := (s2.2 _ m0).2 (hf _ m1 _ m2 _ m0)
  have e1 := far_eq h[0] h[1] h[2]
  have e2 := far_eq h[1] h[2] h[0]
  have p := far_pos (a := h[2]) (b := h[0]) (fun e => by have := (List.getElem_inj hh.nodup).1 e; omega)
  have p1 := far_pos (a := h[0]) (b := h[1]) (fun e => by have := (List.getElem_inj hh.nodup).1 e; omega)
  have p2 := far_pos (a := h[2]) (b := h[1]) (fun e => by have := (List.getElem_inj hh.nodup).1 e; omega)
  have c1 : farP h[1] h[0] = farP h[0] h[1] := by unfold farP; grind
  have c2 : farP h[1] h[2] = farP h[2] h[1] := by unfold farP; grind
  have c3 : farP h[2] h[0] = farP h[0] h[2] := by unfold farP; grind
  have e3 : dotP h[2] h[0] h[1] ≤ 0 := d1
  have e4 : dotP h[0] h[1] h[2] ≤ 0 := d2
  have e5 : farP h[0] h[1] = farP h[0] h[2] + farP h[2] h[1] - 2 * dotP h[2] h[0] h[1] := e1
  have e6 : farP h[1] h[2] = farP h[1] h[0] + farP h[0] h[2] - 2 * dotP h[0] h[1] h[2] := e2
  omega
end Go.Proofs.YtamhhbkjgfhfoaaDoor
