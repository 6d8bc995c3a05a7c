/- The law of birds and rounds: walked. -/
import Derived.Test.YtlljjaafejjeeaaKTopOpen
namespace Go.Proofs.Ytlljjaafejjeeaa
open Go.RowKit

/-- What the law asks of a watch. -/
structure TopF (L : Nat → Nat → Bool) (n q G : Nat) : Prop where
  a : ∀ k R, expB L n k R = true → q ≤ k
  b : ∀ r : Row, apartB L n r.f r.n = true → r.n ≤ q
  c : ∀ k R (r : Row), expB L n k R = true → apartB L n r.f r.n = true → r.n ≤ k
  d : ∀ k R, rndsB L n k R = true → G ≤ k
  e : ∀ r : Row, birdB L n r.f r.n = true → r.n ≤ G
  f : ∀ k R (r : Row), rndsB L n k R = true → birdB L n r.f r.n = true → r.n ≤ k
theorem top_facts {n : Nat} {s : Int} {X Y T : Nat → Int} (W : Watch n s X Y T) : TopF (leadsR s X Y T) n ((matM (leadsR s X Y T) n n).count (-1)) (grt (hgt (onF s X Y T) n) n) := by
  have O := watch_ord W
  have I := mat_inv (leadsR s X Y T) n n (Nat.le_refl _)
  obtain ⟨bo1, bo2, bo3⟩ := birds_ok O I
  obtain ⟨ao1, ao2⟩ := apart_ok O I
  obtain ⟨l1, l2, l3⟩ := longW_bird W
  have hL : Once n (lvls n (hgt (onF s X Y T) n) (grt (hgt (onF s X Y T) n) n)) := lvls_once (fun i hi => hgt_pos (down_F W) hi) fun i hi => maxTo_ge (p := fun _ => true) (g := hgt (onF s X Y T) n) n i hi rfl
  have hLl : (lvls n (hgt (onF s X Y T) n) (grt (hgt (onF s X Y T) n) n)).length = grt (hgt (onF s X Y T) n) n := by simp [lvls]
  have hLa : ∀ p ∈ lvls n (hgt (onF s X Y T) n) (grt (hgt (onF s X Y T) n) n), ApartL (leadsR s X Y T) n p := fun p hp => by
    obtain ⟨d, _, rfl⟩ := List.mem_map.1 hp
    exact lvls_apart W d
  have row : ∀ r : Row, (rowTo r r.n).length = r.n := fun r => rowTo_len r r.n
  refine ⟨fun k R h => ?_, fun r h => ?_, fun k R r h h2 => ?_, fun k R h => ?_, fun r h => ?_, fun k R r h h2 => ?_⟩
  · obtain ⟨P, h1, h2, h3⟩ := exp_list O h
    rw [← ao2, ← h3]
    exact apart_le ao1 h1 h2
  · rw [← bo3, ← row r]
    exact apart_le (apart_list O h) bo1 fun p hp => (bo2 p hp).1
  · obtain ⟨P, h3, h4, h5⟩ := exp_list O h
    rw [← row r, ← h5]
    exact apart_le (apart_list O h2) h3 h4
  · obtain ⟨P, h1, h2, h3⟩ := rnd_list O h
    rw [← l3, ← h3]
    exact bird_le O l1 l2 h1 h2
  · obtain ⟨h1, h2⟩ := row_chain O h
    have h3 := bird_le O h1 h2 hL hLa
    rw [row, hLl] at h3
    exact h3
  · obtain ⟨P, h3, h4, h5⟩ := rnd_list O h
    obtain ⟨h6, h7⟩ := row_chain O h2
    have h8 := bird_le O h6 h7 h3 h4
    rw [row, h5] at h8
    exact h8
set_option maxRecDepth 100000 in
set_option maxHeartbeats 1600000 in
theorem birds_post {n cap : Nat} {s : Int} {A : Option Addr} {X Y T : Nat → Int} {V : World} (W : Watch n s X Y T) (hp : IsChs V A n X Y T) :
    Calls Try.prog 8 #[.slice A n cap, .int .i64 s] V fun e w' => ∃ B c, e = .returned (.tuple #[.slice B ((matM (leadsR s X Y T) n n).count (-1)) c, .int .i64 0]) ∧ (∃ x : Later V, w' = x.val) ∧
        ∀ U, Below w'.heap.size w' U → Gives Try.prog 12 #[.slice A n cap, .int .i64 s, .slice B ((matM (leadsR s X Y T) n n).count (-1)) c] U (.tuple #[.bool true, .int .i64 0]) := by
  have hn30 := W.n30
  have O := watch_ord W
  have I := mat_inv (leadsR s X Y T) n n (Nat.le_refl _)
  obtain ⟨bo1, bo2, bo3⟩ := birds_ok O I
  refine Calls.mono (Birds_ok s n cap A X Y T V W hp) ?_
  rintro e w2 ⟨v, rfl, x, rfl, ho⟩
  have hlen : (birdsTo n (matM (leadsR s X Y T) n n) n).length = (matM (leadsR s X Y T) n n).count (-1) := by rw [birdsTo_length]; exact bo3
  have hcl : (matM (leadsR s X Y T) n n).count (-1) ≤ n := by have := List.count_le_length (a := (-1 : Int)) (l := matM (leadsR s X Y T) n n); rw [I.len] at this; exact this
  have hrl : ∀ i, i < (birdsM n (matM (leadsR s X Y T) n n)).length → ((birdsM n (matM (leadsR s X Y T) n n)).getD i []).length ≤ n := fun i hi =>
    nodup_le ((List.sublist_flatten_of_mem (getD_mem hi)).nodup bo1.1) fun y hy => (bo1.2 y).1 (List.mem_flatten.2 ⟨_, getD_mem hi, hy⟩)
  obtain ⟨B, c, R, rfl, ht, hr⟩ := ho.tab (by omega) fun i hi => by
    rw [birdsTo_map] at hi ⊢
    rw [List.length_map] at hi
    rw [map_getD_natZ, natZ_length]
    have := hrl i hi
    omega
  rw [hlen] at ht ⊢
  rw [birdsTo_map] at hr
  rw [List.length_map, bo3] at hr
  refine ⟨B, c, rfl, ⟨x, rfl⟩, fun U hU => ?_⟩
  have hR1 : ∀ i, i < (birdsM n (matM (leadsR s X Y T) n n)).length → (R i).n = ((birdsM n (matM (leadsR s X Y T) n n)).getD i []).length := fun i hi => by
    rw [(hr i (by omega)).1, map_getD_natZ, natZ_length]
  have hR2 : ∀ i, i < (birdsM n (matM (leadsR s X Y T) n n)).length → ∀ j, (R i).f j = (((birdsM n (matM (leadsR s X Y T) n n)).getD i []).getD j 0 : Nat) := fun i hi j => by
    rw [(hr i (by omega)).2 j, map_getD_natZ, natZ_getD]
  have g := Explain_ok A B n cap ((matM (leadsR s X Y T) n n).count (-1)) c s X Y T R U W (by omega) (fun i hi => by rw [hR1 i (by omega)]; have := hrl i (by omega); omega) (hp.below (below_more x.ok hU)) (ht.below hU)
  rw [exp_true bo1 bo2 bo3.symm hR1 hR2] at g
  exact g
set_option maxRecDepth 100000 in
set_option maxHeartbeats 1600000 in
theorem rounds_post {n cap : Nat} {s : Int} {A : Option Addr} {X Y T : Nat → Int} {V : World} (W : Watch n s X Y T) (hp : IsChs V A n X Y T) :
    Calls Try.prog 11 #[.slice A n cap, .int .i64 s] V fun e w' => ∃ B c, e = .returned (.tuple #[.slice B (grt (hgt (onF s X Y T) n) n) c, .int .i64 0]) ∧ (∃ x : Later V, w' = x.val) ∧
        ∀ U, Below w'.heap.size w' U → Gives Try.prog 14 #[.slice A n cap, .int .i64 s, .slice B (grt (hgt (onF s X Y T) n) n) c] U (.tuple #[.bool true, .int .i64 0]) := by
  have hn30 := W.n30
  have hG : grt (hgt (onF s X Y T) n) n ≤ n := maxTo_top fun k => hgt_le _ n k
  have hL : Once n (lvls n (hgt (onF s X Y T) n) (grt (hgt (onF s X Y T) n) n)) := lvls_once (fun i hi => hgt_pos (down_F W) hi) fun i hi => maxTo_ge (p := fun _ => true) (g := hgt (onF s X Y T) n) n i hi rfl
  have hLl : (lvls n (hgt (onF s X Y T) n) (grt (hgt (onF s X Y T) n) n)).length = grt (hgt (onF s X Y T) n) n := by simp [lvls]
  have hLa : ∀ p ∈ lvls n (hgt (onF s X Y T) n) (grt (hgt (onF s X Y T) n) n), ApartL (leadsR s X Y T) n p ∧ 0 < p.length := fun p hp => by
    obtain ⟨d, hd, rfl⟩ := List.mem_map.1 hp
    exact ⟨lvls_apart W d, rowD_some (down_F W) (by simpa using hd)⟩
  refine Calls.mono (Rounds_ok s n cap A X Y T V W hp) ?_
  rintro e w2 ⟨v, rfl, x, rfl, ho⟩
  generalize hGe : grt (hgt (onF s X Y T) n) n = G at *
  obtain ⟨B, c, R, rfl, ht, hr⟩ := ho.tab (by rw [rdsTo_length]; omega) fun i hi => by
    have := rdsTo_row (n := n) (k := G) (i := i) (H := hgt (onF s X Y T) n)
    omega
  rw [rdsTo_length] at ht hr ⊢
  rw [rdsTo_map] at hr
  refine ⟨B, c, rfl, ⟨x, rfl⟩, fun U hU => ?_⟩
  have hR1 : ∀ i, i < (lvls n (hgt (onF s X Y T) n) G).length → (R i).n = ((lvls n (hgt (onF s X Y T) n) G).getD i []).length := fun i hi => by
    rw [(hr i (by omega)).1, map_getD_natZ, natZ_length]
  have hR2 : ∀ i, i < (lvls n (hgt (onF s X Y T) n) G).length → ∀ j, (R i).f j = (((lvls n (hgt (onF s X Y T) n) G).getD i []).getD j 0 : Nat) := fun i hi j => by
    rw [(hr i (by omega)).2 j, map_getD_natZ, natZ_getD]
  have g := AreRounds_ok A B n cap G c s X Y T R U W (by omega) (fun i hi => by
    rw [(hr i hi).1, ← rdsTo_map]
    have := rdsTo_row (n := n) (k := G) (i := i) (H := hgt (onF s X Y T) n)
    omega) (hp.below (below_more x.ok hU)) (ht.below hU)
  rw [rnds_true hL hLa hLl.symm hR1 hR2] at g
  exact g
set_option maxRecDepth 100000 in
theorem apart_post {n cap : Nat} {s : Int} {A : Option Addr} {X Y T : Nat → Int} {V : World} (W : Watch n s X Y T) (hp : IsChs V A n X Y T) :
    Calls Try.prog 9 #[.slice A n cap, .int .i64 s] V fun e w' => ∃ B c, e = .returned (.tuple #[.slice B ((matM (leadsR s X Y T) n n).count (-1)) c, .int .i64 0]) ∧ (∃ x : Later V, w' = x.val) ∧
        ∀ U, Below w'.heap.size w' U → Gives Try.prog 13 #[.slice A n cap, .int .i64 s, .slice B ((matM (leadsR s X Y T) n n).count (-1)) c] U (.tuple #[.bool true, .int .i64 0]) := by
  have hn30 := W.n30
  have I := mat_inv (leadsR s X Y T) n n (Nat.le_refl _)
  obtain ⟨ao1, ao2⟩ := apart_ok (watch_ord W) I
  have hcl : (matM (leadsR s X Y T) n n).count (-1) ≤ n := by have := List.count_le_length (a := (-1 : Int)) (l := matM (leadsR s X Y T) n n); rw [I.len] at this; exact this
  refine Calls.mono (Apart_ok s n cap A X Y T V W hp) ?_
  rintro e w2 ⟨v, rfl, x, rfl, ho⟩
  obtain ⟨B, c, rfl, hi⟩ := own_isInts ho (by rw [natZ_length, ao2]; omega)
  have hcc : (matM (leadsR s X Y T) n n).count (-1) ≤ c := by
    rcases ho.2 with ⟨e1, h0⟩ | ⟨g', cap', cur, e1, _, _, hn, _⟩
    · rw [natZ_length, ao2] at h0; omega
    · simp only [Value.slice.injEq] at e1
      obtain ⟨_, _, rfl⟩ := e1
      rw [natZ_length, ao2] at hn
      exact hn
  rw [natZ_length, ao2] at hi ⊢
  refine ⟨B, c, rfl, ⟨x, rfl⟩, fun U hU => ?_⟩
  have g := AreApart_ok A B n cap ((matM (leadsR s X Y T) n n).count (-1)) c s X Y T _ U W (by omega) hcc (hp.below (below_more x.ok hU)) (hi.below hU)
  rw [apart_true ao1 ao2.symm fun j => natZ_getD _ j] at g
  exact g
set_option maxRecDepth 100000 in
theorem longest_post {n cap : Nat} {s : Int} {A : Option Addr} {X Y T : Nat → Int} {V : World} (W : Watch n s X Y T) (hp : IsChs V A n X Y T) :
    Calls Try.prog 10 #[.slice A n cap, .int .i64 s] V fun e w' => ∃ B c, e = .returned (.tuple #[.slice B (grt (hgt (onF s X Y T) n) n) c, .int .i64 0]) ∧ (∃ x : Later V, w' = x.val) ∧
        ∀ U, 0 < n → Below w'.heap.size w' U → Gives Try.prog 15 #[.slice A n cap, .int .i64 s, .slice B (grt (hgt (onF s X Y T) n) n) c] U (.bool true) := by
  have hn30 := W.n30
  have hG : grt (hgt (onF s X Y T) n) n ≤ n := maxTo_top fun k => hgt_le _ n k
  obtain ⟨l1, l2, l3⟩ := longW_bird W
  refine Calls.mono (Longest_ok s n cap A X Y T V W hp) ?_
  rintro e w2 ⟨v, rfl, x, rfl, ho⟩
  obtain ⟨B, c, rfl, hi⟩ := own_isInts ho (by rw [natZ_length, l3]; omega)
  rw [natZ_length, l3] at hi ⊢
  refine ⟨B, c, rfl, ⟨x, rfl⟩, fun U hn hU => ?_⟩
  have h0 : 0 < grt (hgt (onF s X Y T) n) n := by
    have h1 := hgt_pos (down_F W) hn
    have h2 := maxTo_ge (p := fun _ => true) (g := hgt (onF s X Y T) n) n 0 hn rfl
    unfold grt
    omega
  have g := topBird_any A B n cap (grt (hgt (onF s X Y T) n) n) c s X Y T _ U W (by omega) (hp.below (below_more x.ok hU)) (hi.below hU)
  rw [bird_true l2 (by rw [← List.length_pos_iff, l3]; exact h0) l1 l3.symm fun j => natZ_getD _ j] at g
  exact g
end Go.Proofs.Ytlljjaafejjeeaa
