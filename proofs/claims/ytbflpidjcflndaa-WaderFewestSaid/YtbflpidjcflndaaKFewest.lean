/- Apart; the law of the fewest: walked. -/
import Derived.Test.YtbflpidjcflndaaKApartW
import Derived.Test.YtbflpidjcflndaaKBirdsLaw
namespace Go.Proofs.Ytbflpidjcflndaa
open Go.RowKit

theorem getD_mem {α : Type} {l : List α} {i : Nat} {d : α} (h : i < l.length) : l.getD i d ∈ l := by
  rw [List.getD_eq_getElem?_getD, List.getElem?_eq_getElem h]
  exact List.getElem_mem h
theorem getD_get {α : Type} {l : List α} {i : Nat} {d : α} (h : i < l.length) : l.getD i d = l[i] := by
  rw [List.getD_eq_getElem?_getD, List.getElem?_eq_getElem h]
  rfl
theorem bird_true {L : Nat → Nat → Bool} {n m : Nat} {p : List Nat} {c : Nat → Int} (hc : Chain L p) (hne : p ≠ []) (hlt : ∀ x ∈ p, x < n) (hm : m = p.length) (hv : ∀ j, c j = (p.getD j 0 : Nat)) : birdB L n c m = true := by
  subst hm
  unfold birdB
  have h0 : 0 < p.length := List.length_pos_iff.2 hne
  rw [decide_eq_true h0, Bool.and_true, allB_iff]
  intro i hi
  unfold okB
  rw [hv i, hv (i - 1), Int.toNat_natCast, Int.toNat_natCast, inS_nat (hlt _ (getD_mem hi)), Bool.true_and]
  by_cases e : i = 0
  · simp [e]
  · have h1 := List.pairwise_iff_getElem.1 hc (i - 1) i (by omega) hi (by omega)
    rw [getD_get hi, getD_get (show i - 1 < p.length by omega), h1]
    simp
theorem apart_true {L : Nat → Nat → Bool} {n m : Nat} {l : List Nat} {c : Nat → Int} (h : ApartL L n l) (hm : m = l.length) (hv : ∀ j, c j = (l.getD j 0 : Nat)) : apartB L n c m = true := by
  subst hm
  unfold apartB
  rw [allB_iff]
  intro i hi
  unfold okA
  rw [hv i, hv (i - 1), Int.toNat_natCast, inS_nat (h.1 _ (getD_mem hi)), Bool.true_and, Bool.and_eq_true]
  refine ⟨?_, allB_iff.2 fun k hk => ?_⟩
  · by_cases e : i = 0
    · simp [e]
    · have h1 := List.pairwise_iff_getElem.1 h.2.1 (i - 1) i (by omega) hi (by omega)
      rw [getD_get hi, getD_get (show i - 1 < l.length by omega)]
      simp [h1]
  · have hk' : k < l.length := by omega
    rw [hv k, Int.toNat_natCast, h.2.2 _ (getD_mem hi) _ (getD_mem hk'), h.2.2 _ (getD_mem hk') _ (getD_mem hi)]
    rfl
theorem row_list {r : Row} {p : List Nat} (hn : r.n = p.length) (hf : ∀ j, r.f j = (p.getD j 0 : Nat)) : rowTo r r.n = p := by
  apply List.ext_getElem
  · rw [rowTo_len, hn]
  · intro i h1 h2
    simp only [rowTo, List.getElem_map, List.getElem_range]
    rw [hf, Int.toNat_natCast, getD_get h2]
theorem flat_rows {R : Nat → Row} {P : List (List Nat)} (hn : ∀ i, i < P.length → (R i).n = (P.getD i []).length) (hf : ∀ i, i < P.length → ∀ j, (R i).f j = ((P.getD i []).getD j 0 : Nat)) : ∀ k, k ≤ P.length → flatN R k = (P.take k).flatten := by
  intro k
  induction k with
  | zero => intro _; simp [flatN]
  | succ k ih =>
    intro hk
    have h1 := row_list (hn k (by omega)) (hf k (by omega))
    rw [flatN, ih (by omega), h1, List.take_add_one, List.flatten_append, List.getD_eq_getElem?_getD, List.getElem?_eq_getElem (show k < P.length by omega)]
    simp
theorem exp_true {L : Nat → Nat → Bool} {n k : Nat} {R : Nat → Row} {P : List (List Nat)} (hP : Once n P) (hc : ∀ p ∈ P, Chain L p ∧ p ≠ []) (hk : k = P.length) (hn : ∀ i, i < P.length → (R i).n = (P.getD i []).length) (hf : ∀ i, i < P.length → ∀ j, (R i).f j = ((P.getD i []).getD j 0 : Nat)) : expB L n k R = true := by
  subst hk
  unfold expB divB
  have h1 := flat_rows hn hf P.length (Nat.le_refl _)
  rw [List.take_length] at h1
  rw [h1, decide_eq_true hP.1, decide_eq_true (once_length hP), Bool.and_true, Bool.and_true, allB_iff]
  intro i hi
  obtain ⟨h2, h3⟩ := hc _ (getD_mem (d := []) hi)
  exact bird_true h2 h3 (fun x hx => (hP.2 x).1 (List.mem_flatten.2 ⟨_, getD_mem (d := []) hi, hx⟩)) (hn i hi) (hf i hi)
theorem birdsTo_map (n : Nat) (out : List Int) : birdsTo n out n = (birdsM n out).map natZ := by
  unfold birdsTo birdsM
  rw [List.map_map]
  rfl
theorem map_getD_natZ (P : List (List Nat)) (i : Nat) : (P.map natZ).getD i [] = natZ (P.getD i []) := by
  simp only [List.getD_eq_getElem?_getD, List.getElem?_map]
  cases P[i]? <;> simp [natZ]
theorem Apart_ok (s : Int) (n cap : Nat) (A : Option Addr) (X Y T : Nat → Int) (w : World) (W : Watch n s X Y T) (hp : IsChs w A n X Y T) :
    Calls Try.prog 26 #[.slice A n cap, .int .i64 s] w (PostIE w (natZ (apartM n (opnM (leadsR s X Y T) (matM (leadsR s X Y T) n n) n n))) 0) := by
  have VA := Lib.hid fun (V : World) (h : IsChs V A n X Y T) => watch_iff.2 W ▸ kvalid_any s A n cap X Y T V fun _ => h
  have LO : Hid (∀ (V : World), IsChs V A n X Y T → GivesI 64 #[.agg #[.slice A n cap, .int .i64 s]] V (natZ (apartM n (opnM (leadsR s X Y T) (matM (leadsR s X Y T) n n) n n)))) := fun V h => apartW_any s n cap A X Y T V W h
  have HP := Lib.hid hp
  generalize natZ (apartM n (opnM (leadsR s X Y T) (matM (leadsR s X Y T) n n) n n)) = res at *
  clear hp W
  go_enter Try.func26, Try.ntmps26
  go_wp2_with (first
    | (go_at_call 17; (first | (with_reducible show Calls _ _ _ (Later.val _) _; with_reducible refine Calls.mono (Later.call _ (VA.out _ (HP.out.below (by repeat (first | exact Below.refl _ _ | (with_reducible assumption) | apply below_later | apply below_alloc | apply below_drew | apply below_drewN))))) ?_) | (with_reducible refine Calls.mono (Gives.calls (VA.out _ (HP.out.below (by repeat (first | exact Below.refl _ _ | (with_reducible assumption) | apply below_later | apply below_alloc | apply below_drew | apply below_drewN))))) ?_)); rintro e w1 ⟨rfl, z, rfl⟩)
    | (go_at_call 64; with_reducible refine Calls.mono (GivesI.calls (LO.out _ (HP.out.below (by repeat (first | exact Below.refl _ _ | (with_reducible assumption) | apply below_later | apply below_alloc | apply below_drew | apply below_drewN))))) ?_; rintro e w1 ⟨v, rfl, z2, rfl, ho⟩; have HO := Lib.hid ho; clear ho))
  go_ret2
  exact ⟨_, rfl, ⟨_, by repeat (first | exact Below.refl _ _ | (with_reducible assumption) | apply below_later | apply below_alloc | apply below_drew | apply below_drewN)⟩, rfl, HO.out.mono z.size⟩
theorem Apart_bad (s : Int) (n cap : Nat) (A : Option Addr) (X Y T : Nat → Int) (w : World) (hp : n ≤ 30 → IsChs w A n X Y T) (hv : validW n s X Y T = false) :
    Gives Try.prog 26 #[.slice A n cap, .int .i64 s] w (.tuple #[.slice none 0 0, .int .i64 60]) := by
  have VA := Lib.hid fun (V : World) (h : n ≤ 30 → IsChs V A n X Y T) => hv ▸ kvalid_any s A n cap X Y T V h
  have HP := Lib.hid hp
  clear hp hv
  go_enter Try.func26, Try.ntmps26
  go_wp2_with (go_at_call 17; (first | (with_reducible show Calls _ _ _ (Later.val _) _; with_reducible refine Calls.mono (Later.call _ (VA.out _ (fun h => (HP.out h).below (by repeat (first | exact Below.refl _ _ | (with_reducible assumption) | apply below_later | apply below_alloc | apply below_drew | apply below_drewN))))) ?_) | (with_reducible refine Calls.mono (Gives.calls (VA.out _ (fun h => (HP.out h).below (by repeat (first | exact Below.refl _ _ | (with_reducible assumption) | apply below_later | apply below_alloc | apply below_drew | apply below_drewN))))) ?_)); rintro e w1 ⟨rfl, z, rfl⟩)
  go_ret2
  exact ⟨rfl, later_of (by repeat (first | exact Below.refl _ _ | (with_reducible assumption) | apply below_later | apply below_alloc | apply below_drew | apply below_drewN))⟩
set_option maxRecDepth 100000 in
set_option maxHeartbeats 6400000 in
theorem fewest_law (A : Option Addr) (n cap : Nat) (s : Int) (X Y T : Nat → Int) (w : World) (hp : n ≤ 60 → IsChs w A n X Y T) :
    Gives Try.prog 5 #[.slice A n cap, .int .i64 s] w (.bool true) := by
  have AW := Lib.hid awake_law
  have MN := Lib.hid fun V => Many_nil A n cap V
  by_cases h : 40 < n
  · rw [decide_eq_true h] at MN
    clear hp
    go_enter Try.func5, Try.ntmps5
    go_wp2_with (first | (go_at_call 13; with_reducible refine Calls.mono (Gives.calls (MN.out _)) ?_; rintro e w1 ⟨rfl, z, rfl⟩) | (go_at_call 14; with_reducible refine Calls.mono (Gives.calls (AW.out _)) ?_; rintro e w1 ⟨rfl, z2, rfl⟩))
    go_ret
    exact ⟨rfl, later_of (by repeat (first | exact Below.refl _ _ | (with_reducible assumption) | apply below_later | apply below_alloc | apply below_drew | apply below_drewN))⟩
  rw [decide_eq_false h] at MN
  have hp' := hp (by omega)
  cases hv : validW n s X Y T
  case false =>
    have F1 := Lib.hid fun V (h : Below w.heap.size w V) => Fewest_bad s n cap A X Y T V (fun _ => hp'.below h) hv
    have F2 := Lib.hid fun V (h : Below w.heap.size w V) => RFewest_bad s n cap A X Y T V hv (by omega) (hp'.below h)
    have B1 := Lib.hid fun V (h : Below w.heap.size w V) => Birds_bad s n cap A X Y T V (fun _ => hp'.below h) hv
    have A1 := Lib.hid fun V (h : Below w.heap.size w V) => Apart_bad s n cap A X Y T V (fun _ => hp'.below h) hv
    clear hp hp' hv
    go_enter Try.func5, Try.ntmps5
    go_wp2_with (first
      | (go_at_call 13; with_reducible refine Calls.mono (Gives.calls (MN.out _)) ?_; rintro e w1 ⟨rfl, z, rfl⟩)
      | (go_at_call 23; with_reducible refine Calls.mono (Gives.calls (F1.out _ (by repeat (first | exact Below.refl _ _ | (with_reducible assumption) | apply below_later | apply below_alloc | apply below_drew | apply below_drewN)))) ?_; rintro e w1 ⟨rfl, z2, rfl⟩)
      | (go_at_call 24; with_reducible refine Calls.mono (Gives.calls (F2.out _ (by repeat (first | exact Below.refl _ _ | (with_reducible assumption) | apply below_later | apply below_alloc | apply below_drew | apply below_drewN)))) ?_; rintro e w1 ⟨rfl, z3, rfl⟩)
      | (go_at_call 25; with_reducible refine Calls.mono (Gives.calls (B1.out _ (by repeat (first | exact Below.refl _ _ | (with_reducible assumption) | apply below_later | apply below_alloc | apply below_drew | apply below_drewN)))) ?_; rintro e w1 ⟨rfl, z4, rfl⟩)
      | (go_at_call 26; with_reducible refine Calls.mono (Gives.calls (A1.out _ (by repeat (first | exact Below.refl _ _ | (with_reducible assumption) | apply below_later | apply below_alloc | apply below_drew | apply below_drewN)))) ?_; rintro e w1 ⟨rfl, z5, rfl⟩)
      | (go_at_call 14; with_reducible refine Calls.mono (Gives.calls (AW.out _)) ?_; rintro e w1 ⟨rfl, z6, rfl⟩))
    go_ret
    exact ⟨rfl, later_of (by repeat (first | exact Below.refl _ _ | (with_reducible assumption) | apply below_later | apply below_alloc | apply below_drew | apply below_drewN))⟩
  case true =>
    have W := watch_iff.1 hv
    have hn30 := W.n30
    have O := watch_ord W
    have I := mat_inv (leadsR s X Y T) n n (Nat.le_refl _)
    obtain ⟨bo1, bo2, bo3⟩ := birds_ok O I
    obtain ⟨ao1, ao2⟩ := apart_ok O I
    have F1 := Lib.hid fun V (h : Below w.heap.size w V) => Fewest_ok s n cap A X Y T V W (hp'.below h)
    have F2 := Lib.hid fun V (h : Below w.heap.size w V) => RFewest_ok s n cap A X Y T V W (hp'.below h)
    have B1 : Hid (∀ V, Below w.heap.size w V → Calls Try.prog 25 #[.slice A n cap, .int .i64 s] V fun e w' => ∃ B c, e = .returned (.tuple #[.slice B ((matM (leadsR s X Y T) n n).count (-1)) c, .int .i64 0]) ∧ (∃ x : Later V, w' = x.val) ∧
        ∀ U, Below w'.heap.size w' U → Gives Try.prog 20 #[.slice A n cap, .int .i64 s, .slice B ((matM (leadsR s X Y T) n n).count (-1)) c] U (.tuple #[.bool true, .int .i64 0])) := fun V h => by
      refine Calls.mono (Birds_ok s n cap A X Y T V W (hp'.below h)) ?_
      rintro e w2 ⟨v, rfl, x, rfl, ho⟩
      have hlen : (birdsTo n (matM (leadsR s X Y T) n n) n).length = (matM (leadsR s X Y T) n n).count (-1) := by rw [birdsTo_length]; exact bo3
      have hcl : (matM (leadsR s X Y T) n n).count (-1) ≤ n := by have := List.count_le_length (a := (-1 : Int)) (l := matM (leadsR s X Y T) n n); rw [I.len] at this; exact this
      have hrl : ∀ i, i < (birdsM n (matM (leadsR s X Y T) n n)).length → ((birdsM n (matM (leadsR s X Y T) n n)).getD i []).length ≤ n := fun i hi =>
        nodup_le ((List.sublist_flatten_of_mem (getD_mem hi)).nodup bo1.1) fun y hy => (bo1.2 y).1 (List.mem_flatten.2 ⟨_, getD_mem hi, hy⟩)
      obtain ⟨B, c, R, rfl, ht, hr⟩ := ho.tab (by omega) fun i hi => by
        rw [birdsTo_map] at hi ⊢
        rw [List.length_map] at hi
        rw [map_getD_natZ, natZ_length]
        have := hrl i hi
        omega
      rw [hlen] at ht ⊢
      rw [birdsTo_map] at hr
      rw [List.length_map, bo3] at hr
      refine ⟨B, c, rfl, ⟨x, rfl⟩, fun U hU => ?_⟩
      have hR1 : ∀ i, i < (birdsM n (matM (leadsR s X Y T) n n)).length → (R i).n = ((birdsM n (matM (leadsR s X Y T) n n)).getD i []).length := fun i hi => by
        rw [(hr i (by omega)).1, map_getD_natZ, natZ_length]
      have hR2 : ∀ i, i < (birdsM n (matM (leadsR s X Y T) n n)).length → ∀ j, (R i).f j = (((birdsM n (matM (leadsR s X Y T) n n)).getD i []).getD j 0 : Nat) := fun i hi j => by
        rw [(hr i (by omega)).2 j, map_getD_natZ, natZ_getD]
      have g := RExplain_ok A B n cap ((matM (leadsR s X Y T) n n).count (-1)) c s X Y T R U W (by omega) (fun i hi => by rw [hR1 i (by omega)]; have := hrl i (by omega); omega) (hp'.below (below_more h (below_more x.ok hU))) (ht.below hU)
      rw [exp_true bo1 bo2 bo3.symm hR1 hR2] at g
      exact g
    have A1 : Hid (∀ V, Below w.heap.size w V → Calls Try.prog 26 #[.slice A n cap, .int .i64 s] V fun e w' => ∃ B c, e = .returned (.tuple #[.slice B ((matM (leadsR s X Y T) n n).count (-1)) c, .int .i64 0]) ∧ (∃ x : Later V, w' = x.val) ∧
        ∀ U, Below w'.heap.size w' U → Gives Try.prog 27 #[.slice A n cap, .int .i64 s, .slice B ((matM (leadsR s X Y T) n n).count (-1)) c] U (.tuple #[.bool true, .int .i64 0])) := fun V h => by
      refine Calls.mono (Apart_ok s n cap A X Y T V W (hp'.below h)) ?_
      rintro e w2 ⟨v, rfl, x, rfl, ho⟩
      have hcl : (matM (leadsR s X Y T) n n).count (-1) ≤ n := by have := List.count_le_length (a := (-1 : Int)) (l := matM (leadsR s X Y T) n n); rw [I.len] at this; exact this
      obtain ⟨B, c, rfl, hi⟩ := own_isInts ho (by rw [natZ_length, ao2]; omega)
      rw [natZ_length, ao2] at hi ⊢
      refine ⟨B, c, rfl, ⟨x, rfl⟩, fun U hU => ?_⟩
      have g := RAreApart_ok A B n cap ((matM (leadsR s X Y T) n n).count (-1)) c s X Y T _ U W (by omega) (hp'.below (below_more h (below_more x.ok hU))) (hi.below hU)
      rw [apart_true ao1 ao2.symm fun j => natZ_getD _ j] at g
      exact g
    clear bo1 bo2 bo3 ao1 ao2 I O W hp hp' hv
    generalize (matM (leadsR s X Y T) n n).count (-1) = q at *
    go_enter Try.func5, Try.ntmps5
    go_wp2_with (first
      | (go_at_call 13; with_reducible refine Calls.mono (Gives.calls (MN.out _)) ?_; rintro e w1 ⟨rfl, z, rfl⟩)
      | (go_at_call 23; with_reducible refine Calls.mono (Gives.calls (F1.out _ (by repeat (first | exact Below.refl _ _ | (with_reducible assumption) | apply below_later | apply below_alloc | apply below_drew | apply below_drewN)))) ?_; rintro e w1 ⟨rfl, z2, rfl⟩)
      | (go_at_call 24; with_reducible refine Calls.mono (Gives.calls (F2.out _ (by repeat (first | exact Below.refl _ _ | (with_reducible assumption) | apply below_later | apply below_alloc | apply below_drew | apply below_drewN)))) ?_; rintro e w1 ⟨rfl, z3, rfl⟩)
      | (go_at_call 25; with_reducible refine Calls.mono (B1.out _ (by repeat (first | exact Below.refl _ _ | (with_reducible assumption) | apply below_later | apply below_alloc | apply below_drew | apply below_drewN))) ?_; rintro e w1 ⟨B, c, rfl, ⟨z4, rfl⟩, hE⟩; have HE := Lib.hid hE; clear hE)
      | (go_at_call 26; with_reducible refine Calls.mono (A1.out _ (by repeat (first | exact Below.refl _ _ | (with_reducible assumption) | apply below_later | apply below_alloc | apply below_drew | apply below_drewN))) ?_; rintro e w1 ⟨B', c', rfl, ⟨z5, rfl⟩, hA⟩; have HA := Lib.hid hA; clear hA)
      | (go_at_call 20; with_reducible refine Calls.mono (Gives.calls (HE.out _ (by repeat (first | exact Below.refl _ _ | (with_reducible assumption) | apply below_later | apply below_alloc | apply below_drew | apply below_drewN)))) ?_; rintro e w1 ⟨rfl, z6, rfl⟩)
      | (go_at_call 27; with_reducible refine Calls.mono (Gives.calls (HA.out _ (by repeat (first | exact Below.refl _ _ | (with_reducible assumption) | apply below_later | apply below_alloc | apply below_drew | apply below_drewN)))) ?_; rintro e w1 ⟨rfl, z7, rfl⟩)
      | (go_at_call 14; with_reducible refine Calls.mono (Gives.calls (AW.out _)) ?_; rintro e w1 ⟨rfl, z8, rfl⟩))
    go_ret
    exact ⟨rfl, later_of (by repeat (first | exact Below.refl _ _ | (with_reducible assumption) | apply below_later | apply below_alloc | apply below_drew | apply below_drewN))⟩
end Go.Proofs.Ytbflpidjcflndaa
