/- wader's lengths, greatest: walked. -/
import Derived.Test.YtlljjaafejjeeaaKLens
import Derived.Laws.EntriesVeiled
namespace Go.Proofs.Ytlljjaafejjeeaa
open Go.RowKit

/-- The lengths as a list. -/
def lensN (H : Nat → Nat) (n : Nat) : List Nat := (List.range n).map H
theorem lensN_length (H : Nat → Nat) (n : Nat) : (lensN H n).length = n := by simp [lensN]
theorem lensZ_get {H : Nat → Nat} {n k : Nat} (hk : k < n) : (natZ (lensN H n)).getD k 0 = (H k : Nat) := by
  rw [natZ_getD]
  simp [lensN, List.getD_eq_getElem?_getD, hk]
theorem known_all {n : Nat} {H : Nat → Nat} {out : List Int} (h : Known n H out) (ha : ∀ k, k < n → out.getD k 0 ≠ 0) : out = natZ (lensN H n) := by
  apply List.ext_getElem
  · rw [h.len, natZ_length, lensN_length]
  · intro k h1 h2
    have hk : k < n := h.len ▸ h1
    have e1 := (h.at_ k hk).resolve_left (ha k hk)
    have e2 := lensZ_get (H := H) hk
    rw [List.getD_eq_getElem?_getD, List.getElem?_eq_getElem h1] at e1
    rw [List.getD_eq_getElem?_getD, List.getElem?_eq_getElem h2] at e2
    simp only [Option.getD_some] at e1 e2
    rw [e1, e2]
theorem kbox_chain (B : World) (go : Nat) (n : Nat) (F : Value) (tf : TypeId) (hg : B.heap.size = go) :
    Below B.heap.size B ((((B.alloc (.cells (madeCells #[Value.int .i64 0] n) 3)).alloc (.cells #[.slice (some ⟨go, 0, none⟩) n n] 24)).alloc (.cells #[F] tf))) ∧
    ((((B.alloc (.cells (madeCells #[Value.int .i64 0] n) 3)).alloc (.cells #[.slice (some ⟨go, 0, none⟩) n n] 24)).alloc (.cells #[F] tf))).heap[go + 1]? = some (.cells #[.slice (some ⟨go, 0, none⟩) n n] 24 (0, 0)) ∧
    ((((B.alloc (.cells (madeCells #[Value.int .i64 0] n) 3)).alloc (.cells #[.slice (some ⟨go, 0, none⟩) n n] 24)).alloc (.cells #[F] tf))).heap[go + 1 + 1]? = some (.cells #[F] tf (0, 0)) := by
  refine ⟨below_alloc (below_alloc (below_alloc (Below.refl _ _))), ?_, ?_⟩
  · have h := one_box (B.alloc (.cells (madeCells #[Value.int .i64 0] n) 3)) (.slice (some ⟨go, 0, none⟩) n n) 24
    rw [World.size_alloc, hg] at h
    exact (Below.heap_alloc _ _ _ (by simp only [World.size_alloc]; omega)).trans h
  · have h := one_box ((B.alloc (.cells (madeCells #[Value.int .i64 0] n) 3)).alloc (.cells #[.slice (some ⟨go, 0, none⟩) n n] 24)) F tf
    rw [World.size_alloc, World.size_alloc, hg] at h
    exact h
set_option maxRecDepth 100000 in
set_option maxHeartbeats 6400000 in
theorem lengths_leads (n cap : Nat) (A : Option Addr) (s : Int) (X Y T : Nat → Int) (μ : Nat → Nat) (w : World) (W : Watch n s X Y T) (hp : IsChs w A n X Y T) (D : Down (onL s X Y T) n μ) :
    GivesI 26 #[.agg #[.slice A n cap, .int .i64 s], .func (.func 43) #[.agg #[.slice A n cap, .int .i64 s]] #[]] w (natZ (lensN (hgt (onL s X Y T) n) n)) := by
  have hn30 := W.n30
  have hb : Below w.heap.size w ((w.alloc (.cells #[.slice A n cap, .int .i64 s] 53)).alloc (.cells #[.func (.func 43) #[.agg #[.slice A n cap, .int .i64 s]] #[]] 42)) := below_alloc (below_alloc (Below.refl _ _))
  have hf := kbox_two w (.cells #[.slice A n cap, .int .i64 s] 53) (.func (.func 43) #[.agg #[.slice A n cap, .int .i64 s]] #[]) 42
  have hw : ((w.alloc (.cells #[.slice A n cap, .int .i64 s] 53)).alloc (.cells #[.func (.func 43) #[.agg #[.slice A n cap, .int .i64 s]] #[]] 42)).heap[w.heap.size]? = some (.cells #[.slice A n cap, .int .i64 s] 53 (0, 0)) :=
    (Below.heap_alloc _ _ _ (by simp only [World.size_alloc]; omega)).trans (World.alloc_heap_new _ _)
  have hs : ((w.alloc (.cells #[.slice A n cap, .int .i64 s] 53)).alloc (.cells #[.func (.func 43) #[.agg #[.slice A n cap, .int .i64 s]] #[]] 42)).heap.size = w.heap.size + 1 + 1 := by simp only [World.size_alloc]
  have hp1 := hp.below hb
  have LE := Lib.hid fun (bo bf bk go i : Nat) (out : List Int) (V : World) (hi : i < n) (hk : Known n (hgt (onL s X Y T) n) out) (h : LS ((w.alloc (.cells #[.slice A n cap, .int .i64 s] 53)).alloc (.cells #[.func (.func 43) #[.agg #[.slice A n cap, .int .i64 s]] #[]] 42)) V 43 bo bf bk go n cap A s out) =>
    len_leads _ bo bf bk go n cap A s X Y T μ W hp1 _ rfl D (μ i + 1) i out V hi (by omega) hk h
  have HP : Hid (∀ i, i < n → 1 ≤ hgt (onL s X Y T) n i) := fun i hi => hgt_pos D hi
  have HB := Lib.hid hb
  have MK : ∀ w', (Instr.makeSlice 24 (.int .i64 (n : Int)) (.int .i64 (n : Int))).run Try.prog w' = .ok (.slice (some ⟨w'.heap.size, 0, none⟩) n n) (w'.alloc (.cells (madeCells #[Value.int .i64 0] n) 3)) := fun w' => make_ints w' n (by omega)
  generalize hgt (onL s X Y T) n = H at *
  clear hp hp1 hb W D
  have c0 := cell_of_heap hw 0 _ rfl
  have c1 := cell_of_heap hw 1 _ rfl
  have l0 := get_lt hw
  have HF := Lib.hid hf
  clear hw hf
  go_enter Try.func26, Try.ntmps26
  go_wp2_with fail
  clear c0 c1 l0
  obtain ⟨bf, hbf⟩ : ∃ bf, w.heap.size + 1 = bf := ⟨_, rfl⟩
  have hf := HF.out
  rw [hbf] at hs hf ⊢
  obtain ⟨go, hgo⟩ : ∃ go, bf + 1 = go := ⟨_, rfl⟩
  rw [hgo] at hs ⊢
  have HS := Lib.hid hs
  have HFB := Lib.hid hf
  clear hs hf
  generalize (w.alloc (.cells #[.slice A n cap, .int .i64 s] 53)).alloc (.cells #[.func (.func 43) #[.agg #[.slice A n cap, .int .i64 s]] #[]] 42) = B at *
  have hch := kbox_chain B go n (.func (.func 45) #[] #[.pointer (some ⟨go + 1, 0, none⟩), .pointer (some ⟨bf, 0, none⟩), .pointer (some ⟨go + 1 + 1, 0, none⟩)]) 67 HS.out
  have hmd := made_own B n B.heap.size (Nat.le_refl _) (by omega)
  rw [HS.out] at hmd
  obtain ⟨bo, hbo⟩ : ∃ bo, go + 1 = bo := ⟨_, rfl⟩
  rw [hbo] at hch ⊢
  obtain ⟨bk, hbk⟩ : ∃ bk, bo + 1 = bk := ⟨_, rfl⟩
  rw [hbk] at hch ⊢
  have LS0 : Hid (LS B (((B.alloc (.cells (madeCells #[Value.int .i64 0] n) 3)).alloc (.cells #[.slice (some ⟨go, 0, none⟩) n n] 24)).alloc (.cells #[.func (.func 45) #[] #[.pointer (some ⟨bo, 0, none⟩), .pointer (some ⟨bf, 0, none⟩), .pointer (some ⟨bk, 0, none⟩)]] 67)) 43 bo bf bk go n cap A s (List.replicate n 0)) :=
    ⟨hch.1, hch.2.1, (hch.1.block _ (by rw [HS.out]; omega)).trans HFB.out, hch.2.2, by rw [HS.out]; exact (hmd.alloc _).alloc _, by omega⟩
  have K0 : Hid (Known n H (List.replicate n 0)) := ⟨by simp, fun k hk => .inl (by simp [List.getD_eq_getElem?_getD, hk])⟩
  clear hch hmd MK
  generalize ((B.alloc (.cells (madeCells #[Value.int .i64 0] n) 3)).alloc (.cells #[.slice (some ⟨go, 0, none⟩) n n] 24)).alloc (.cells #[.func (.func 45) #[] #[.pointer (some ⟨bo, 0, none⟩), .pointer (some ⟨bf, 0, none⟩), .pointer (some ⟨bk, 0, none⟩)]] 67) = Q at *
  go_loopw [15] (fun v wr => ∃ (k : Nat) (out : List Int), v = .int .i64 (k : Nat) ∧ k ≤ n ∧ Known n H out ∧ LS B wr 43 bo bf bk go n cap A s out ∧ ∀ j, j < k → out.getD j 0 ≠ 0) (fun v _ => n - (intOf v).toNat)
  case atStart => exact ⟨0, _, rfl, by omega, K0.out, LS0.out, fun j hj => by omega⟩
  case round =>
    obtain ⟨k, out, rfl, hk, hkn, hls, hnz⟩ := hrel
    have HK := Lib.hid hkn
    have HLS := Lib.hid hls
    have HNZ := Lib.hid hnz
    obtain ⟨x0, _, x2⟩ := box_facts hls.xo
    obtain ⟨k0, _, k2⟩ := box_facts hls.xk
    clear LS0 K0 hkn hls hnz
    by_cases hlt : k < n
    · have hpk := HP.out k hlt
      have LE1 := Lib.hid (LE.out bo bf bk go k out wr hlt HK.out HLS.out)
      go_wp2_with (go_at_call 45; with_reducible refine Calls.mono LE1.out ?_; rintro e w' ⟨out2, rfl, hls2, hkn2, hat2, hmo2⟩; have HLS2 := Lib.hid hls2; have HKN2 := Lib.hid hkn2; have HMO2 := Lib.hid hmo2; have HAT2 := Lib.hid hat2; clear hls2 hkn2 hat2 hmo2)
      go_roundw
      case rel => exact ⟨k + 1, out2, by go_num, by omega, HKN2.out, HLS2.out, fun j hj => by
        by_cases e : j = k
        · subst e; rw [HAT2.out]; omega
        · exact HMO2.out j (by omega) (HNZ.out j (by omega))⟩
      case measure => simp [intOf]; omega
    · obtain rfl : k = n := by omega
      have HE := Lib.hid (known_all HK.out HNZ.out)
      go_wp2_with fail
      go_ret
      exact ⟨_, rfl, ⟨_, below_more HB.out HLS.out.below⟩, rfl, by rw [← HE.out]; exact HLS.out.oo.mono HB.out.size⟩
set_option maxRecDepth 100000 in
set_option maxHeartbeats 6400000 in
theorem lengths_follows (n cap : Nat) (A : Option Addr) (s : Int) (X Y T : Nat → Int) (μ : Nat → Nat) (w : World) (W : Watch n s X Y T) (hp : IsChs w A n X Y T) (D : Down (onF s X Y T) n μ) :
    GivesI 26 #[.agg #[.slice A n cap, .int .i64 s], .func (.func 27) #[.agg #[.slice A n cap, .int .i64 s]] #[]] w (natZ (lensN (hgt (onF s X Y T) n) n)) := by
  have hn30 := W.n30
  have hb : Below w.heap.size w ((w.alloc (.cells #[.slice A n cap, .int .i64 s] 53)).alloc (.cells #[.func (.func 27) #[.agg #[.slice A n cap, .int .i64 s]] #[]] 42)) := below_alloc (below_alloc (Below.refl _ _))
  have hf := kbox_two w (.cells #[.slice A n cap, .int .i64 s] 53) (.func (.func 27) #[.agg #[.slice A n cap, .int .i64 s]] #[]) 42
  have hw : ((w.alloc (.cells #[.slice A n cap, .int .i64 s] 53)).alloc (.cells #[.func (.func 27) #[.agg #[.slice A n cap, .int .i64 s]] #[]] 42)).heap[w.heap.size]? = some (.cells #[.slice A n cap, .int .i64 s] 53 (0, 0)) :=
    (Below.heap_alloc _ _ _ (by simp only [World.size_alloc]; omega)).trans (World.alloc_heap_new _ _)
  have hs : ((w.alloc (.cells #[.slice A n cap, .int .i64 s] 53)).alloc (.cells #[.func (.func 27) #[.agg #[.slice A n cap, .int .i64 s]] #[]] 42)).heap.size = w.heap.size + 1 + 1 := by simp only [World.size_alloc]
  have hp1 := hp.below hb
  have LE := Lib.hid fun (bo bf bk go i : Nat) (out : List Int) (V : World) (hi : i < n) (hk : Known n (hgt (onF s X Y T) n) out) (h : LS ((w.alloc (.cells #[.slice A n cap, .int .i64 s] 53)).alloc (.cells #[.func (.func 27) #[.agg #[.slice A n cap, .int .i64 s]] #[]] 42)) V 27 bo bf bk go n cap A s out) =>
    len_follows _ bo bf bk go n cap A s X Y T μ W hp1 _ rfl D (μ i + 1) i out V hi (by omega) hk h
  have HP : Hid (∀ i, i < n → 1 ≤ hgt (onF s X Y T) n i) := fun i hi => hgt_pos D hi
  have HB := Lib.hid hb
  have MK : ∀ w', (Instr.makeSlice 24 (.int .i64 (n : Int)) (.int .i64 (n : Int))).run Try.prog w' = .ok (.slice (some ⟨w'.heap.size, 0, none⟩) n n) (w'.alloc (.cells (madeCells #[Value.int .i64 0] n) 3)) := fun w' => make_ints w' n (by omega)
  generalize hgt (onF s X Y T) n = H at *
  clear hp hp1 hb W D
  have c0 := cell_of_heap hw 0 _ rfl
  have c1 := cell_of_heap hw 1 _ rfl
  have l0 := get_lt hw
  have HF := Lib.hid hf
  clear hw hf
  go_enter Try.func26, Try.ntmps26
  go_wp2_with fail
  clear c0 c1 l0
  obtain ⟨bf, hbf⟩ : ∃ bf, w.heap.size + 1 = bf := ⟨_, rfl⟩
  have hf := HF.out
  rw [hbf] at hs hf ⊢
  obtain ⟨go, hgo⟩ : ∃ go, bf + 1 = go := ⟨_, rfl⟩
  rw [hgo] at hs ⊢
  have HS := Lib.hid hs
  have HFB := Lib.hid hf
  clear hs hf
  generalize (w.alloc (.cells #[.slice A n cap, .int .i64 s] 53)).alloc (.cells #[.func (.func 27) #[.agg #[.slice A n cap, .int .i64 s]] #[]] 42) = B at *
  have hch := kbox_chain B go n (.func (.func 45) #[] #[.pointer (some ⟨go + 1, 0, none⟩), .pointer (some ⟨bf, 0, none⟩), .pointer (some ⟨go + 1 + 1, 0, none⟩)]) 67 HS.out
  have hmd := made_own B n B.heap.size (Nat.le_refl _) (by omega)
  rw [HS.out] at hmd
  obtain ⟨bo, hbo⟩ : ∃ bo, go + 1 = bo := ⟨_, rfl⟩
  rw [hbo] at hch ⊢
  obtain ⟨bk, hbk⟩ : ∃ bk, bo + 1 = bk := ⟨_, rfl⟩
  rw [hbk] at hch ⊢
  have LS0 : Hid (LS B (((B.alloc (.cells (madeCells #[Value.int .i64 0] n) 3)).alloc (.cells #[.slice (some ⟨go, 0, none⟩) n n] 24)).alloc (.cells #[.func (.func 45) #[] #[.pointer (some ⟨bo, 0, none⟩), .pointer (some ⟨bf, 0, none⟩), .pointer (some ⟨bk, 0, none⟩)]] 67)) 27 bo bf bk go n cap A s (List.replicate n 0)) :=
    ⟨hch.1, hch.2.1, (hch.1.block _ (by rw [HS.out]; omega)).trans HFB.out, hch.2.2, by rw [HS.out]; exact (hmd.alloc _).alloc _, by omega⟩
  have K0 : Hid (Known n H (List.replicate n 0)) := ⟨by simp, fun k hk => .inl (by simp [List.getD_eq_getElem?_getD, hk])⟩
  clear hch hmd MK
  generalize ((B.alloc (.cells (madeCells #[Value.int .i64 0] n) 3)).alloc (.cells #[.slice (some ⟨go, 0, none⟩) n n] 24)).alloc (.cells #[.func (.func 45) #[] #[.pointer (some ⟨bo, 0, none⟩), .pointer (some ⟨bf, 0, none⟩), .pointer (some ⟨bk, 0, none⟩)]] 67) = Q at *
  go_loopw [15] (fun v wr => ∃ (k : Nat) (out : List Int), v = .int .i64 (k : Nat) ∧ k ≤ n ∧ Known n H out ∧ LS B wr 27 bo bf bk go n cap A s out ∧ ∀ j, j < k → out.getD j 0 ≠ 0) (fun v _ => n - (intOf v).toNat)
  case atStart => exact ⟨0, _, rfl, by omega, K0.out, LS0.out, fun j hj => by omega⟩
  case round =>
    obtain ⟨k, out, rfl, hk, hkn, hls, hnz⟩ := hrel
    have HK := Lib.hid hkn
    have HLS := Lib.hid hls
    have HNZ := Lib.hid hnz
    obtain ⟨x0, _, x2⟩ := box_facts hls.xo
    obtain ⟨k0, _, k2⟩ := box_facts hls.xk
    clear LS0 K0 hkn hls hnz
    by_cases hlt : k < n
    · have hpk := HP.out k hlt
      have LE1 := Lib.hid (LE.out bo bf bk go k out wr hlt HK.out HLS.out)
      go_wp2_with (go_at_call 45; with_reducible refine Calls.mono LE1.out ?_; rintro e w' ⟨out2, rfl, hls2, hkn2, hat2, hmo2⟩; have HLS2 := Lib.hid hls2; have HKN2 := Lib.hid hkn2; have HMO2 := Lib.hid hmo2; have HAT2 := Lib.hid hat2; clear hls2 hkn2 hat2 hmo2)
      go_roundw
      case rel => exact ⟨k + 1, out2, by go_num, by omega, HKN2.out, HLS2.out, fun j hj => by
        by_cases e : j = k
        · subst e; rw [HAT2.out]; omega
        · exact HMO2.out j (by omega) (HNZ.out j (by omega))⟩
      case measure => simp [intOf]; omega
    · obtain rfl : k = n := by omega
      have HE := Lib.hid (known_all HK.out HNZ.out)
      go_wp2_with fail
      go_ret
      exact ⟨_, rfl, ⟨_, below_more HB.out HLS.out.below⟩, rfl, by rw [← HE.out]; exact HLS.out.oo.mono HB.out.size⟩
end Go.Proofs.Ytlljjaafejjeeaa
