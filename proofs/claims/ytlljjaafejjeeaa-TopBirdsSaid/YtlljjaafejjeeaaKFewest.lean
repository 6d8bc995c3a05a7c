/- Apart: walked; what birds and apart sightings say. -/
import Derived.Test.YtlljjaafejjeeaaKApartW
import Derived.Test.YtlljjaafejjeeaaKExplain
import Derived.Test.YtlljjaafejjeeaaKTab
namespace Go.Proofs.Ytlljjaafejjeeaa
open Go.RowKit

theorem getD_mem {α : Type} {l : List α} {i : Nat} {d : α} (h : i < l.length) : l.getD i d ∈ l := by
  rw [List.getD_eq_getElem?_getD, List.getElem?_eq_getElem h]
  exact List.getElem_mem h
theorem getD_get {α : Type} {l : List α} {i : Nat} {d : α} (h : i < l.length) : l.getD i d = l[i] := by
  rw [List.getD_eq_getElem?_getD, List.getElem?_eq_getElem h]
  rfl
theorem bird_true {L : Nat → Nat → Bool} {n m : Nat} {p : List Nat} {c : Nat → Int} (hc : Chain L p) (hne : p ≠ []) (hlt : ∀ x ∈ p, x < n) (hm : m = p.length) (hv : ∀ j, c j = (p.getD j 0 : Nat)) : birdB L n c m = true := by
  subst hm
  unfold birdB
  have h0 : 0 < p.length := List.length_pos_iff.2 hne
  rw [decide_eq_true h0, Bool.and_true, allB_iff]
  intro i hi
  unfold okB
  rw [hv i, hv (i - 1), Int.toNat_natCast, Int.toNat_natCast, inS_nat (hlt _ (getD_mem hi)), Bool.true_and]
  by_cases e : i = 0
  · simp [e]
  · have h1 := List.pairwise_iff_getElem.1 hc (i - 1) i (by omega) hi (by omega)
    rw [getD_get hi, getD_get (show i - 1 < p.length by omega), h1]
    simp
theorem apart_true {L : Nat → Nat → Bool} {n m : Nat} {l : List Nat} {c : Nat → Int} (h : ApartL L n l) (hm : m = l.length) (hv : ∀ j, c j = (l.getD j 0 : Nat)) : apartB L n c m = true := by
  subst hm
  unfold apartB
  rw [allB_iff]
  intro i hi
  unfold okA
  rw [hv i, hv (i - 1), Int.toNat_natCast, inS_nat (h.1 _ (getD_mem hi)), Bool.true_and, Bool.and_eq_true]
  refine ⟨?_, allB_iff.2 fun k hk => ?_⟩
  · by_cases e : i = 0
    · simp [e]
    · have h1 := List.pairwise_iff_getElem.1 h.2.1 (i - 1) i (by omega) hi (by omega)
      rw [getD_get hi, getD_get (show i - 1 < l.length by omega)]
      simp [h1]
  · have hk' : k < l.length := by omega
    rw [hv k, Int.toNat_natCast, h.2.2 _ (getD_mem hi) _ (getD_mem hk'), h.2.2 _ (getD_mem hk') _ (getD_mem hi)]
    rfl
theorem row_list {r : Row} {p : List Nat} (hn : r.n = p.length) (hf : ∀ j, r.f j = (p.getD j 0 : Nat)) : rowTo r r.n = p := by
  apply List.ext_getElem
  · rw [rowTo_len, hn]
  · intro i h1 h2
    simp only [rowTo, List.getElem_map, List.getElem_range]
    rw [hf, Int.toNat_natCast, getD_get h2]
theorem flat_rows {R : Nat → Row} {P : List (List Nat)} (hn : ∀ i, i < P.length → (R i).n = (P.getD i []).length) (hf : ∀ i, i < P.length → ∀ j, (R i).f j = ((P.getD i []).getD j 0 : Nat)) : ∀ k, k ≤ P.length → flatN R k = (P.take k).flatten := by
  intro k
  induction k with
  | zero => intro _; simp [flatN]
  | succ k ih =>
    intro hk
    have h1 := row_list (hn k (by omega)) (hf k (by omega))
    rw [flatN, ih (by omega), h1, List.take_add_one, List.flatten_append, List.getD_eq_getElem?_getD, List.getElem?_eq_getElem (show k < P.length by omega)]
    simp
theorem exp_true {L : Nat → Nat → Bool} {n k : Nat} {R : Nat → Row} {P : List (List Nat)} (hP : Once n P) (hc : ∀ p ∈ P, Chain L p ∧ p ≠ []) (hk : k = P.length) (hn : ∀ i, i < P.length → (R i).n = (P.getD i []).length) (hf : ∀ i, i < P.length → ∀ j, (R i).f j = ((P.getD i []).getD j 0 : Nat)) : expB L n k R = true := by
  subst hk
  unfold expB divB
  have h1 := flat_rows hn hf P.length (Nat.le_refl _)
  rw [List.take_length] at h1
  rw [h1, decide_eq_true hP.1, decide_eq_true (once_length hP), Bool.and_true, Bool.and_true, allB_iff]
  intro i hi
  obtain ⟨h2, h3⟩ := hc _ (getD_mem (d := []) hi)
  exact bird_true h2 h3 (fun x hx => (hP.2 x).1 (List.mem_flatten.2 ⟨_, getD_mem (d := []) hi, hx⟩)) (hn i hi) (hf i hi)
theorem birdsTo_map (n : Nat) (out : List Int) : birdsTo n out n = (birdsM n out).map natZ := by
  unfold birdsTo birdsM
  rw [List.map_map]
  rfl
theorem map_getD_natZ (P : List (List Nat)) (i : Nat) : (P.map natZ).getD i [] = natZ (P.getD i []) := by
  simp only [List.getD_eq_getElem?_getD, List.getElem?_map]
  cases P[i]? <;> simp [natZ]
theorem Apart_ok (s : Int) (n cap : Nat) (A : Option Addr) (X Y T : Nat → Int) (w : World) (W : Watch n s X Y T) (hp : IsChs w A n X Y T) :
    Calls Try.prog 9 #[.slice A n cap, .int .i64 s] w (PostIE w (natZ (apartM n (opnM (leadsR s X Y T) (matM (leadsR s X Y T) n n) n n))) 0) := by
  have VA := Lib.hid fun (V : World) (h : IsChs V A n X Y T) => watch_iff.2 W ▸ kvalid_any s A n cap X Y T V fun _ => h
  have LO : Hid (∀ (V : World), IsChs V A n X Y T → GivesI 24 #[.agg #[.slice A n cap, .int .i64 s]] V (natZ (apartM n (opnM (leadsR s X Y T) (matM (leadsR s X Y T) n n) n n)))) := fun V h => apartW_any s n cap A X Y T V W h
  have HP := Lib.hid hp
  generalize natZ (apartM n (opnM (leadsR s X Y T) (matM (leadsR s X Y T) n n) n n)) = res at *
  clear hp W
  go_enter Try.func9, Try.ntmps9
  go_wp2_with (first
    | (go_at_call 21; (first | (with_reducible show Calls _ _ _ (Later.val _) _; with_reducible refine Calls.mono (Later.call _ (VA.out _ (HP.out.below (by repeat (first | exact Below.refl _ _ | (with_reducible assumption) | apply below_later | apply below_alloc | apply below_drew | apply below_drewN))))) ?_) | (with_reducible refine Calls.mono (Gives.calls (VA.out _ (HP.out.below (by repeat (first | exact Below.refl _ _ | (with_reducible assumption) | apply below_later | apply below_alloc | apply below_drew | apply below_drewN))))) ?_)); rintro e w1 ⟨rfl, z, rfl⟩)
    | (go_at_call 24; with_reducible refine Calls.mono (GivesI.calls (LO.out _ (HP.out.below (by repeat (first | exact Below.refl _ _ | (with_reducible assumption) | apply below_later | apply below_alloc | apply below_drew | apply below_drewN))))) ?_; rintro e w1 ⟨v, rfl, z2, rfl, ho⟩; have HO := Lib.hid ho; clear ho))
  go_ret2
  exact ⟨_, rfl, ⟨_, by repeat (first | exact Below.refl _ _ | (with_reducible assumption) | apply below_later | apply below_alloc | apply below_drew | apply below_drewN)⟩, rfl, HO.out.mono z.size⟩
theorem Apart_bad (s : Int) (n cap : Nat) (A : Option Addr) (X Y T : Nat → Int) (w : World) (hp : n ≤ 30 → IsChs w A n X Y T) (hv : validW n s X Y T = false) :
    Gives Try.prog 9 #[.slice A n cap, .int .i64 s] w (.tuple #[.slice none 0 0, .int .i64 60]) := by
  have VA := Lib.hid fun (V : World) (h : n ≤ 30 → IsChs V A n X Y T) => hv ▸ kvalid_any s A n cap X Y T V h
  have HP := Lib.hid hp
  clear hp hv
  go_enter Try.func9, Try.ntmps9
  go_wp2_with (go_at_call 21; (first | (with_reducible show Calls _ _ _ (Later.val _) _; with_reducible refine Calls.mono (Later.call _ (VA.out _ (fun h => (HP.out h).below (by repeat (first | exact Below.refl _ _ | (with_reducible assumption) | apply below_later | apply below_alloc | apply below_drew | apply below_drewN))))) ?_) | (with_reducible refine Calls.mono (Gives.calls (VA.out _ (fun h => (HP.out h).below (by repeat (first | exact Below.refl _ _ | (with_reducible assumption) | apply below_later | apply below_alloc | apply below_drew | apply below_drewN))))) ?_)); rintro e w1 ⟨rfl, z, rfl⟩)
  go_ret2
  exact ⟨rfl, later_of (by repeat (first | exact Below.refl _ _ | (with_reducible assumption) | apply below_later | apply below_alloc | apply below_drew | apply below_drewN))⟩
end Go.Proofs.Ytlljjaafejjeeaa
