/- wader's withOne: walked. -/
import Derived.Test.YtlljjaafejjeeaaKAug
import Derived.Laws.EntriesVeiled
namespace Go.Proofs.Ytlljjaafejjeeaa
open Go.RowKit

theorem map_range_getD (l : List Int) : (List.range l.length).map (fun i => l.getD i 0) = l := by
  apply List.ext_getElem
  · simp
  · intro i h1 h2
    simp [List.getD_eq_getElem?_getD, h2]
/-- The next matching. -/
def oneM (L : Nat → Nat → Bool) (n i : Nat) (out : List Int) : List Int := (aug L n (n + 1) i (List.replicate n false) out).2.2
set_option maxRecDepth 100000 in
set_option maxHeartbeats 3200000 in
theorem withOne_any (s : Int) (n cap i c0 : Nat) (A O : Option Addr) (X Y T : Nat → Int) (out : List Int) (w : World) (hi : i < n) (W : Watch n s X Y T) (hp : IsChs w A n X Y T) (hl : out.length = n) (hok : OkM (leadsR s X Y T) n out) (ho : IsInts w O n fun i => out.getD i 0) :
    GivesI 40 #[.agg #[.slice A n cap, .int .i64 s], .slice O n c0, .int .i64 i] w (oneM (leadsR s X Y T) n i out) := by
  have hn30 := W.n30
  have hb : Below w.heap.size w (w.alloc (.cells #[.slice A n cap, .int .i64 s] 53)) := (Below.refl _ _).alloc (Nat.le_refl _) _
  have hb1 : (w.alloc (.cells #[.slice A n cap, .int .i64 s] 53)).heap[w.heap.size]? = some (.cells #[.slice A n cap, .int .i64 s] 53 (0, 0)) := World.alloc_heap_new _ _
  have hp1 := hp.below hb
  have ho1 := ho.below hb
  have hsz := World.size_alloc w (.cells #[.slice A n cap, .int .i64 s] 53)
  have CL : Hid (GivesI 51 #[.slice O n c0] (w.alloc (.cells #[.slice A n cap, .int .i64 s] 53)) out) := by
    obtain ⟨b1, o1, rfl, p1⟩ := ho1.at_ (by omega)
    have k := clone_ints b1 o1 n c0 _ _ (by omega) (by omega) p1
    rw [← hl, map_range_getD] at k
    rw [hl] at k
    exact k
  have AU := Lib.hid (fun (bo bt bw bk go co gt : Nat) (V : World) (h : AS (w.alloc (.cells #[.slice A n cap, .int .i64 s] 53)) V bo bt bw bk go co gt n cap A s out (List.replicate n false)) => aug_any _ bo bt bw bk go co gt n cap A s X Y T W hp1 (n + 1) i out (List.replicate n false) V hi (by simp) hl hok (by simp [List.count_replicate]) h)
  have HB := Lib.hid hb
  have MK : ∀ w', (Instr.makeSlice 64 (.int .i64 (n : Int)) (.int .i64 (n : Int))).run Try.prog w' = .ok (.slice (some ⟨w'.heap.size, 0, none⟩) n n) (w'.alloc (.cells (madeCells #[Value.bool false] n) 4)) := fun w' => make_bools w' n (by omega)
  have HL := Lib.hid hl
  unfold oneM
  generalize aug (leadsR s X Y T) n (n + 1) i (List.replicate n false) out = res at *
  clear hp ho hp1 ho1 hb W hok hl
  go_enter Try.func40, Try.ntmps40
  go_wp2_with fail
  have HB1 := Lib.hid hb1
  have HSZ := Lib.hid hsz
  clear hb1 hsz
  generalize w.alloc (.cells #[.slice A n cap, .int .i64 s] 53) = B at *
  go_wp2_with (go_at_call 51; with_reducible refine Calls.mono (GivesI.calls CL.out) ?_; rintro e w1 ⟨v, rfl, z, rfl, ho⟩; obtain ⟨go, co, rfl, hg1, hg2, hg3⟩ := ho.form HL.out (by omega); have HO := Lib.hid ho; clear ho)
  obtain ⟨c, hc⟩ : ∃ c, z.val.heap.size = c := ⟨_, rfl⟩
  have HBZ : Hid (Below B.heap.size B z.val) := z.ok
  have hgb : w.heap.size < go := by have := HSZ.out; omega
  have M1 : Hid (OwnBl ((z.val.alloc (.cells #[.slice (some ⟨go, 0, none⟩) n co] 24)).alloc (.cells (madeCells #[Value.bool false] n) 4)) B.heap.size (.slice (some ⟨c + 1, 0, none⟩) n n) (List.replicate n false)) := by
    have h := made_ownBl (z.val.alloc (.cells #[.slice (some ⟨go, 0, none⟩) n co] 24)) n B.heap.size (by have := z.ok.size; simp only [World.size_alloc]; omega) (by omega)
    rw [World.size_alloc, hc] at h
    exact h
  have hzs := z.ok.size
  rw [hc] at hzs hg2 ⊢
  obtain ⟨V1, hV1⟩ : ∃ V1, (((z.val.alloc (.cells #[.slice (some ⟨go, 0, none⟩) n co] 24)).alloc (.cells (madeCells #[Value.bool false] n) 4)).alloc (.cells #[.slice (some ⟨c + 1, 0, none⟩) n n] 64)) = V1 := ⟨_, rfl⟩
  have e1 : Below B.heap.size B V1 := by rw [← hV1]; exact below_alloc (below_alloc (below_alloc HBZ.out))
  have e2 : OwnI V1 B.heap.size (.slice (some ⟨go, 0, none⟩) n co) out := by rw [← hV1]; exact ((HO.out.alloc _).alloc _).alloc _
  have e3 : OwnBl V1 B.heap.size (.slice (some ⟨c + 1, 0, none⟩) n n) (List.replicate n false) := by rw [← hV1]; exact World.ownsRow.alloc M1.out _
  have e4 : V1.heap[c]? = some (.cells #[.slice (some ⟨go, 0, none⟩) n co] 24 (0, 0)) := by
    have h := one_box z.val (.slice (some ⟨go, 0, none⟩) n co) 24
    rw [hc] at h
    rw [← hV1]
    exact (Below.heap_alloc _ _ _ (by simp only [World.size_alloc]; omega)).trans ((Below.heap_alloc _ _ _ (by simp only [World.size_alloc]; omega)).trans h)
  have e5 : V1.heap[c + 1 + 1]? = some (.cells #[.slice (some ⟨c + 1, 0, none⟩) n n] 64 (0, 0)) := by
    have h := one_box ((z.val.alloc (.cells #[.slice (some ⟨go, 0, none⟩) n co] 24)).alloc (.cells (madeCells #[Value.bool false] n) 4)) (.slice (some ⟨c + 1, 0, none⟩) n n) 64
    rw [World.size_alloc, World.size_alloc, hc] at h
    rw [← hV1]
    exact h
  have e6 : V1.heap.size = c + 1 + 1 + 1 := by rw [← hV1]; simp only [World.size_alloc]; omega
  rw [hV1]
  obtain ⟨gt, hgt⟩ : ∃ gt, c + 1 = gt := ⟨_, rfl⟩
  obtain ⟨bt, hbt⟩ : ∃ bt, gt + 1 = bt := ⟨_, rfl⟩
  obtain ⟨bk, hbk⟩ : ∃ bk, bt + 1 = bk := ⟨_, rfl⟩
  rw [hgt] at e3 e5 e6 ⊢
  rw [hbt] at e5 e6 ⊢
  rw [hbk] at e6 ⊢
  have AS0 : Hid (AS B (V1.alloc (.cells #[.func (.func 52) #[] #[.pointer (some ⟨c, 0, none⟩), .pointer (some ⟨bt, 0, none⟩), .pointer (some ⟨w.heap.size, 0, none⟩), .pointer (some ⟨bk, 0, none⟩)]] 45)) c bt w.heap.size bk go co gt n cap A s out (List.replicate n false)) := by
    have HQ : Below V1.heap.size V1 (V1.alloc (.cells #[.func (.func 52) #[] #[.pointer (some ⟨c, 0, none⟩), .pointer (some ⟨bt, 0, none⟩), .pointer (some ⟨w.heap.size, 0, none⟩), .pointer (some ⟨bk, 0, none⟩)]] 45)) := (Below.refl _ _).alloc (Nat.le_refl _) _
    have E7 : (V1.alloc (.cells #[.func (.func 52) #[] #[.pointer (some ⟨c, 0, none⟩), .pointer (some ⟨bt, 0, none⟩), .pointer (some ⟨w.heap.size, 0, none⟩), .pointer (some ⟨bk, 0, none⟩)]] 45)).heap[bk]? = some (.cells #[.func (.func 52) #[] #[.pointer (some ⟨c, 0, none⟩), .pointer (some ⟨bt, 0, none⟩), .pointer (some ⟨w.heap.size, 0, none⟩), .pointer (some ⟨bk, 0, none⟩)]] 45 (0, 0)) := by
      have h := one_box V1 (.func (.func 52) #[] #[.pointer (some ⟨c, 0, none⟩), .pointer (some ⟨bt, 0, none⟩), .pointer (some ⟨w.heap.size, 0, none⟩), .pointer (some ⟨bk, 0, none⟩)]) 45
      rw [e6] at h
      exact h
    generalize V1.alloc (.cells #[.func (.func 52) #[] #[.pointer (some ⟨c, 0, none⟩), .pointer (some ⟨bt, 0, none⟩), .pointer (some ⟨w.heap.size, 0, none⟩), .pointer (some ⟨bk, 0, none⟩)]] 45) = Q at *
    have h1 := HB1.out
    have h2 := HSZ.out
    have h3 := get_lt e4
    have h4 := get_lt e5
    have h5 := get_lt h1
    have hq := below_more e1 HQ
    exact ⟨hq, (HQ.block _ h3).trans e4, (HQ.block _ h4).trans e5, E7, (hq.block _ h5).trans h1, e2.later ⟨Q, HQ⟩, e3.below HQ, by omega⟩
  clear e1 e2 e3 e4 e5 e6 hV1 M1 HO
  generalize V1.alloc (.cells #[.func (.func 52) #[] #[.pointer (some ⟨c, 0, none⟩), .pointer (some ⟨bt, 0, none⟩), .pointer (some ⟨w.heap.size, 0, none⟩), .pointer (some ⟨bk, 0, none⟩)]] 45) = Q at *
  refine Calls.mono (AU.out _ _ _ _ _ _ _ _ AS0.out) ?_
  rintro e w' ⟨rfl, as1⟩
  have AS1 := Lib.hid as1
  obtain ⟨y0, _, y2⟩ := box_facts as1.xo
  clear as1
  go_wp2_with fail
  go_ret
  exact ⟨_, rfl, ⟨_, below_more HB.out AS1.out.below⟩, rfl, AS1.out.oo.mono HB.out.size⟩
end Go.Proofs.Ytlljjaafejjeeaa
