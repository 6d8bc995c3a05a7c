/- bed.groups: the sets of squares that hang together, numbered by their first squares. -/
import Derived.Test.YtajfepogecakbaaDoorNets
import Derived.RegionIn
import Derived.Sort.CutIn
namespace Go.Proofs.YtajfepogecakbaaDoor
open Go.RowKit
attribute [local go_sem] Oper.semAt_some

theorem getD_set {l : List Int} {i j : Nat} {x : Int} (hi : i < l.length) : (l.set i x).getD j 0 = upd (fun k => l.getD k 0) i x j := by
  simp only [List.getD_eq_getElem?_getD, List.getElem?_set]
  by_cases e : i = j
  · subst e; simp [hi, upd]
  · have : j ≠ i := fun h => e h.symm
    simp [e, upd, this]
theorem set_fun {l : List Int} {i : Nat} {x : Int} (hi : i < l.length) : (fun j => (l.set i x).getD j 0) = upd (fun k => l.getD k 0) i x := funext fun _ => getD_set hi
/-- What bed.groups answers. -/
def PostG (w : World) (n : Nat) (es : List (Nat × Nat)) (bel : Nat → Bool) (e : Ending) (w' : World) : Prop :=
  ∃ v nums, e = .returned (.tuple #[v, .int .i64 ((setsTo es bel n : Nat) : Int)]) ∧ ∃ x : Later w, w' = x.val ∧ OwnI w' w.heap.size v nums ∧ nums.length = n ∧ ∀ i, i < n → nums.getD i 0 = grp es bel i

set_option maxRecDepth 100000 in
set_option maxHeartbeats 6400000 in
theorem groupsPools (W H n cap b off bm : Nat) (f : Nat → Int) (w : World) (es : List (Nat × Nat)) (hW : 1 ≤ W) (hW2 : W ≤ 30) (hH1 : 1 ≤ H) (hH : H ≤ 30) (hn : n = W * H) (p : Ints w b off n f)
    (c0 : w.cell? ⟨bm, 0, none⟩ = some (.int .i64 W)) (c1 : w.cell? ⟨bm, 1, none⟩ = some (.int .i64 H)) (c2 : w.cell? ⟨bm, 2, none⟩ = some (.slice (some ⟨b, off, none⟩) n cap)) (net : Net es (belPools f) n (nxPools W H)) :
    Calls Tryd.prog 74 #[.agg #[.int .i64 W, .int .i64 H, .slice (some ⟨b, off, none⟩) n cap], .func (.func 75) #[] #[.pointer (some ⟨bm, 0, none⟩)], .func (.func 76) #[] #[.pointer (some ⟨bm, 0, none⟩)]] w (PostG w n es (belPools f)) := by
  have lm := World.block_lt_of_cell? _ _ c0
  have hn9 : n ≤ 900 := by rw [hn]; exact Nat.mul_le_mul hW2 hH
  have hn1 : 1 ≤ n := by rw [hn]; exact Nat.mul_le_mul hW hH1
  have hmul : (W : Int) * (H : Int) = (n : Int) := by rw [hn, Int.natCast_mul]
  have hmb : (W : Int) * (H : Int) ≤ 900 := by omega
  have hm0 : 0 ≤ (W : Int) * (H : Int) := by omega
  have RP : Hid (∀ (w : World) (g0 : Nat), w.cell? ⟨g0, 0, none⟩ = some (.int .i64 (-1)) → Calls Tryd.prog 102 #[.slice (some ⟨g0, 0, none⟩) 1 1, .int .i64 ((W : Int) * (H : Int))] w fun e w' => ∃ g, e = .returned (.slice (some ⟨g, 0, none⟩) n n) ∧ g = w.heap.size ∧ ∃ y : Later w, w' = y.val ∧ OwnI w' w.heap.size (.slice (some ⟨g, 0, none⟩) n n) (List.replicate n (-1))) := fun w g0 h => by
    rw [hmul]; exact repeat_any g0 0 1 n (-1) w hn1 (by omega) h
  have BL : Hid (∀ (V : World), Below w.heap.size w V → ∀ i, i < n → Gives Tryd.prog 75 #[.int .i64 i, .pointer (some ⟨bm, 0, none⟩)] V (.bool (belPools f i))) := fun V hV i hi =>
    belPools_any W H n cap b off bm i f V hi (by omega) (p.later ⟨V, hV⟩) ((hV.cell (p := ⟨bm, 2, none⟩) lm).trans c2)
  have NX : Hid (∀ (V : World), Below w.heap.size w V → ∀ at_ : Nat, Calls Tryd.prog 76 #[.int .i64 at_, .pointer (some ⟨bm, 0, none⟩)] V fun e w' => e = .returned (.func (.func 103) #[] (lbPools V.heap.size)) ∧ w' = (V.alloc (.cells #[.int .i64 W, .int .i64 H, .slice (some ⟨b, off, none⟩) n cap] 24)).alloc (.cells #[.int .i64 at_] 3)) := fun V hV at_ =>
    nextPools_any W H at_ n cap bm _ V ((hV.cell (p := ⟨bm, 0, none⟩) lm).trans c0) ((hV.cell (p := ⟨bm, 1, none⟩) lm).trans c1) ((hV.cell (p := ⟨bm, 2, none⟩) lm).trans c2)
  have hc4 : (((((w.alloc (.cells #[.int .i64 W, .int .i64 H, .slice (some ⟨b, off, none⟩) n cap] 24)).alloc (.cells #[.func (.func 75) #[] #[.pointer (some ⟨bm, 0, none⟩)]] 65)).alloc (.cells #[.slice none 0 0] 22)).alloc (.cells #[.int .i64 0] 3)).alloc (.cells #[.int .i64 (-1)] 3)).cell? ⟨w.heap.size + 1 + 1 + 1 + 1, 0, none⟩ = some (.int .i64 (-1)) := cell_of_heap (by rw [get_alloc, if_pos (by simp only [World.size_alloc])]) 0 _ rfl
  have RP1 := Lib.hid (RP.out _ _ hc4)
  clear hc4
  have NET := Lib.hid net
  have HM := Lib.hid hmul
  have HN := Lib.hid hn
  clear p c0 c1 c2 net hmul hn
  refine (callsIn_wide (n := 0)).1 ?_
  refine callsIn_of_wp_marks Tryd.func74 rfl trivial ?_ rfl
  simp only [Tryd.ntmps74, List.size_toArray, List.length_cons, List.length_nil, Nat.reduceAdd, Nat.reduceSub, Array.replicate_succ, Array.replicate_zero, List.push_toArray, List.append_toArray, List.nil_append, List.cons_append]
  gi_wp2_with (gi_at_call 102; refine (callsIn_wide.2 RP1.out).mono ?_; rintro e w1 ⟨g, rfl, hg, y, rfl, ho⟩)
  obtain rfl : w.heap.size + 1 + 1 + 1 + 1 + 1 = g := by rw [hg]; simp only [World.size_alloc]
  clear hg
  have q0 : y.val.heap[w.heap.size]? = some (.cells #[.int .i64 W, .int .i64 H, .slice (some ⟨b, off, none⟩) n cap] 24) := (y.ok.block _ (by simp only [World.size_alloc]; omega)).trans (by repeat (first | (rw [get_alloc, if_neg (by simp only [World.size_alloc]; omega)]) | (rw [get_alloc, if_pos (by simp only [World.size_alloc])])))
  have q1 : y.val.heap[w.heap.size + 1]? = some (.cells #[.func (.func 75) #[] #[.pointer (some ⟨bm, 0, none⟩)]] 65) := (y.ok.block _ (by simp only [World.size_alloc]; omega)).trans (by repeat (first | (rw [get_alloc, if_neg (by simp only [World.size_alloc]; omega)]) | (rw [get_alloc, if_pos (by simp only [World.size_alloc])])))
  have q2 : y.val.heap[w.heap.size + 1 + 1]? = some (.cells #[.slice none 0 0] 22) := (y.ok.block _ (by simp only [World.size_alloc]; omega)).trans (by repeat (first | (rw [get_alloc, if_neg (by simp only [World.size_alloc]; omega)]) | (rw [get_alloc, if_pos (by simp only [World.size_alloc])])))
  have q3 : y.val.heap[w.heap.size + 1 + 1 + 1]? = some (.cells #[.int .i64 0] 3) := (y.ok.block _ (by simp only [World.size_alloc]; omega)).trans (by repeat (first | (rw [get_alloc, if_neg (by simp only [World.size_alloc]; omega)]) | (rw [get_alloc, if_pos (by simp only [World.size_alloc])])))
  have hby : Below w.heap.size w y.val := by repeat (first | exact Below.refl _ _ | (with_reducible assumption) | apply below_later | apply below_alloc | apply below_drew | apply below_drewN)
  have ho2 : OwnI y.val (w.heap.size + 4) (.slice (some ⟨w.heap.size + 1 + 1 + 1 + 1 + 1, 0, none⟩) n n) (List.replicate n (-1)) := by
    exact ho.mono (by simp only [World.size_alloc]; omega)
  have gk0 : GKeep (.cells #[.int .i64 W, .int .i64 H, .slice (some ⟨b, off, none⟩) n cap] 24) (.func (.func 75) #[] #[.pointer (some ⟨bm, 0, none⟩)]) n (w.heap.size + 1 + 1 + 1 + 1 + 1) (List.replicate n (-1)) (setsTo es (belPools f) 0) (fun _ => False) w (y.val.setCell ⟨w.heap.size + 1 + 1, 0, none⟩ (.slice (some ⟨w.heap.size + 1 + 1 + 1 + 1 + 1, 0, none⟩) n n)) := by
    refine ⟨⟨fun p hp => ⟨?_, fun k => k⟩, hby.setCell (p := ⟨w.heap.size + 1 + 1, 0, none⟩) (by simp; omega) _, fun b k => k.elim⟩, ho2.moved fun g' hg' => Below.heap_setCell _ _ _ _ (fun e => own_kind ho2 q2 (by decide) g' hg' e.symm), List.length_replicate .., fun k => k⟩
    simp only [List.mem_cons, List.not_mem_nil, or_false] at hp
    rcases hp with rfl | rfl | rfl | rfl
    · exact one_setCell q2
    · exact (Below.heap_setCell _ _ _ _ (by simp)).trans q3
    · exact (Below.heap_setCell _ _ _ _ (by simp; omega)).trans q0
    · exact (Below.heap_setCell _ _ _ _ (by simp)).trans q1
  have GK0 := Lib.hid gk0
  clear gk0 ho2 ho q0 q1 q2 q3
  refine wpIn_loop_ghost_k (fun num a V => ∃ (k0 : Nat) (u5 u8 u9 u10 u11 u12 u13 u14 u15 u16 u17 u18 u19 u20 u21 u22 u25 u26 u27 u28 u29 u30 u31 u32 u33 u34 u35 u36 u37 u38 u39 u40 u41 u42 u43 u44 u45 u46 u47 u48 u49 u50 u51 u52 u53 u54 u55 u56 u57 u58 u59 u60 u61 u62 u63 u64 u65 u66 u67 u68 u69 u70 u71 u72 u73 u74 u75 u76 u77 u78 u79 u80 u81 u82 u83 u84 : Value) (ds : List Deferred), a = { tmps := #[.agg #[.int .i64 W, .int .i64 H, .slice (some ⟨b, off, none⟩) n cap], .func (.func 75) #[] #[.pointer (some ⟨bm, 0, none⟩)], .func (.func 76) #[] #[.pointer (some ⟨bm, 0, none⟩)], .pointer (some ⟨w.heap.size, 0, none⟩), .pointer (some ⟨w.heap.size + 1, 0, none⟩), u5, .pointer (some ⟨w.heap.size + 1 + 1, 0, none⟩), .pointer (some ⟨w.heap.size + 1 + 1 + 1, 0, none⟩), u8, u9, u10, u11, u12, u13, u14, u15, u16, u17, u18, u19, u20, u21, u22, .int .i64 ((W : Int) * (H : Int)), .int .i64 (k0 : Nat), u25, u26, u27, u28, u29, u30, u31, u32, u33, u34, u35, u36, u37, u38, u39, u40, u41, u42, u43, u44, u45, u46, u47, u48, u49, u50, u51, u52, u53, u54, u55, u56, u57, u58, u59, u60, u61, u62, u63, u64, u65, u66, u67, u68, u69, u70, u71, u72, u73, u74, u75, u76, u77, u78, u79, u80, u81, u82, u83, u84], defers := ds } ∧ num = n - k0 ∧ k0 ≤ n ∧ ∃ nums : List Int, GKeep (.cells #[.int .i64 W, .int .i64 H, .slice (some ⟨b, off, none⟩) n cap] 24) (.func (.func 75) #[] #[.pointer (some ⟨bm, 0, none⟩)]) n (w.heap.size + 1 + 1 + 1 + 1 + 1) nums (setsTo es (belPools f) k0) (fun _ => False) w V ∧ Marks ds (fun _ => False) w V ∧ Outer es (belPools f) n (fun i => nums.getD i 0) k0) n ?start ?round
  case start =>
    refine ⟨0, ?_⟩
    repeat apply Exists.intro
    refine ⟨rfl, by omega, by omega, _, GK0.out, Marks.nil _ _ _, ⟨fun i hi => ?_⟩⟩
    rw [if_neg (by omega), List.getD_eq_getElem?_getD, List.getElem?_replicate, if_pos hi]; rfl
  case round =>
    intro num a V hinv
    obtain ⟨k0, hinv⟩ := hinv
    obtain ⟨u5, hinv⟩ := hinv
    obtain ⟨u8, hinv⟩ := hinv
    obtain ⟨u9, hinv⟩ := hinv
    obtain ⟨u10, hinv⟩ := hinv
    obtain ⟨u11, hinv⟩ := hinv
    obtain ⟨u12, hinv⟩ := hinv
    obtain ⟨u13, hinv⟩ := hinv
    obtain ⟨u14, hinv⟩ := hinv
    obtain ⟨u15, hinv⟩ := hinv
    obtain ⟨u16, hinv⟩ := hinv
    obtain ⟨u17, hinv⟩ := hinv
    obtain ⟨u18, hinv⟩ := hinv
    obtain ⟨u19, hinv⟩ := hinv
    obtain ⟨u20, hinv⟩ := hinv
    obtain ⟨u21, hinv⟩ := hinv
    obtain ⟨u22, hinv⟩ := hinv
    obtain ⟨u25, hinv⟩ := hinv
    obtain ⟨u26, hinv⟩ := hinv
    obtain ⟨u27, hinv⟩ := hinv
    obtain ⟨u28, hinv⟩ := hinv
    obtain ⟨u29, hinv⟩ := hinv
    obtain ⟨u30, hinv⟩ := hinv
    obtain ⟨u31, hinv⟩ := hinv
    obtain ⟨u32, hinv⟩ := hinv
    obtain ⟨u33, hinv⟩ := hinv
    obtain ⟨u34, hinv⟩ := hinv
    obtain ⟨u35, hinv⟩ := hinv
    obtain ⟨u36, hinv⟩ := hinv
    obtain ⟨u37, hinv⟩ := hinv
    obtain ⟨u38, hinv⟩ := hinv
    obtain ⟨u39, hinv⟩ := hinv
    obtain ⟨u40, hinv⟩ := hinv
    obtain ⟨u41, hinv⟩ := hinv
    obtain ⟨u42, hinv⟩ := hinv
    obtain ⟨u43, hinv⟩ := hinv
    obtain ⟨u44, hinv⟩ := hinv
    obtain ⟨u45, hinv⟩ := hinv
    obtain ⟨u46, hinv⟩ := hinv
    obtain ⟨u47, hinv⟩ := hinv
    obtain ⟨u48, hinv⟩ := hinv
    obtain ⟨u49, hinv⟩ := hinv
    obtain ⟨u50, hinv⟩ := hinv
    obtain ⟨u51, hinv⟩ := hinv
    obtain ⟨u52, hinv⟩ := hinv
    obtain ⟨u53, hinv⟩ := hinv
    obtain ⟨u54, hinv⟩ := hinv
    obtain ⟨u55, hinv⟩ := hinv
    obtain ⟨u56, hinv⟩ := hinv
    obtain ⟨u57, hinv⟩ := hinv
    obtain ⟨u58, hinv⟩ := hinv
    obtain ⟨u59, hinv⟩ := hinv
    obtain ⟨u60, hinv⟩ := hinv
    obtain ⟨u61, hinv⟩ := hinv
    obtain ⟨u62, hinv⟩ := hinv
    obtain ⟨u63, hinv⟩ := hinv
    obtain ⟨u64, hinv⟩ := hinv
    obtain ⟨u65, hinv⟩ := hinv
    obtain ⟨u66, hinv⟩ := hinv
    obtain ⟨u67, hinv⟩ := hinv
    obtain ⟨u68, hinv⟩ := hinv
    obtain ⟨u69, hinv⟩ := hinv
    obtain ⟨u70, hinv⟩ := hinv
    obtain ⟨u71, hinv⟩ := hinv
    obtain ⟨u72, hinv⟩ := hinv
    obtain ⟨u73, hinv⟩ := hinv
    obtain ⟨u74, hinv⟩ := hinv
    obtain ⟨u75, hinv⟩ := hinv
    obtain ⟨u76, hinv⟩ := hinv
    obtain ⟨u77, hinv⟩ := hinv
    obtain ⟨u78, hinv⟩ := hinv
    obtain ⟨u79, hinv⟩ := hinv
    obtain ⟨u80, hinv⟩ := hinv
    obtain ⟨u81, hinv⟩ := hinv
    obtain ⟨u82, hinv⟩ := hinv
    obtain ⟨u83, hinv⟩ := hinv
    obtain ⟨u84, hinv⟩ := hinv
    obtain ⟨ds, ha, hnum, hk, nums, gk, mk, out⟩ := hinv
    subst ha
    subst hnum
    intro J K hJ hK
    have d2 := cell_of_heap gk.b2 0 _ rfl
    have d3 := cell_of_heap gk.b3 0 _ rfl
    have d1 := cell_of_heap gk.b1 0 _ rfl
    have f3 := thaw_get gk.b3 0
    have f2 := thaw_get gk.b2 0
    have l2 := lt_of_get gk.b2
    have l3 := lt_of_get gk.b3
    have l1 := lt_of_get gk.b1
    have lg := gk.gp.2
    have GK := Lib.hid gk
    have MK := Lib.hid mk
    have OUT := Lib.hid out
    have HJ := Lib.hid hJ
    have HK := Lib.hid hK
    clear gk mk out hJ hK
    generalize hall : setsTo es (belPools f) k0 = all at *
    have hall9 : all ≤ n := by rw [← hall]; exact Nat.le_trans (num_le_n _ _) hk
    have HALL := Lib.hid hall
    clear hall
    by_cases hlt : k0 < n
    · have hlt' : (k0 : Int) < (W : Int) * (H : Int) := by rw [HM.out]; omega
      obtain ⟨e1, e2⟩ := GK.out.own.cell GK.out.len hlt
      have e3 := e2 k0
      clear e2
      have hbl := BL.out V GK.out.bx.below k0 hlt
      have SKIP : Hid (belPools f k0 = false ∨ nums.getD k0 0 ≠ -1 → ∀ V', (∃ z : Later V, V' = z.val) → ∃ nums', GKeep (.cells #[.int .i64 W, .int .i64 H, .slice (some ⟨b, off, none⟩) n cap] 24) (.func (.func 75) #[] #[.pointer (some ⟨bm, 0, none⟩)]) n (w.heap.size + 1 + 1 + 1 + 1 + 1) nums' (setsTo es (belPools f) (k0 + 1)) (fun _ => False) w V' ∧ Marks ds (fun _ => False) w V' ∧ Outer es (belPools f) n (fun i => nums'.getD i 0) (k0 + 1)) := by
        rintro hs V' ⟨z, rfl⟩
        obtain ⟨o1, o2⟩ := OUT.out.skip NET.out hlt hs
        refine ⟨nums, ?_, MK.out.later z, o1⟩
        rw [o2, HALL.out]
        exact GK.out.later z
      cases hb : belPools f k0
      · have HB := Lib.hid hb
        rw [hb] at hbl
        have HBL := Lib.hid hbl
        clear hb hbl
        gi_wp2_with (gi_at_call 75; refine (callsIn_wide.2 (Gives.calls HBL.out)).mono ?_; rintro e w1 ⟨rfl, z, rfl⟩)
        refine HK.out _ _ (Handed.intro (n - (k0 + 1)) (by omega) (HJ.out _ _ _ ?_))
        obtain ⟨nums', g1, m1, o1⟩ := SKIP.out (.inl HB.out) _ ⟨z, rfl⟩
        refine ⟨k0 + 1, ?_⟩
        repeat apply Exists.intro
        exact ⟨rfl, rfl, by omega, nums', g1, m1, o1⟩
      · rw [hb] at hbl
        have HB := Lib.hid hb
        have HBL := Lib.hid hbl
        clear hb hbl
        obtain ⟨nv, hnv⟩ : ∃ nv, nums.getD k0 0 = nv := ⟨_, rfl⟩
        have HNV := Lib.hid hnv
        rw [hnv] at e1
        clear hnv
        by_cases hm : nv = -1
        · rw [hm] at e1 HNV
          clear hm
          clear SKIP
          obtain ⟨hroot, hdfs⟩ := OUT.out.begin NET.out hlt HB.out HNV.out
          have HROOT := Lib.hid hroot
          have HDFS := Lib.hid hdfs
          clear hroot hdfs
          gi_wp2_with (gi_at_call 75; refine (callsIn_wide.2 (Gives.calls HBL.out)).mono ?_; rintro e w1 ⟨rfl, z, rfl⟩)
          obtain ⟨cur, hcur⟩ := (GK.out.later z).own.block
          have gk1 := ((GK.out.later z).setN k0 all).begin_ k0 z.val.heap.size (by simp)
          have mk1 : Marks ds (fun _ => False) w (((z.val.setCell ⟨w.heap.size + 1 + 1 + 1 + 1 + 1, k0, none⟩ (.int .i64 all)).alloc (.cells #[.int .i64 k0] 3)).alloc (.cells #[.slice (some ⟨z.val.heap.size, 0, none⟩) 1 1] 22)) := ((MK.out.later z).set (j := k0) (v := .int .i64 all) hcur).later ⟨((z.val.setCell ⟨w.heap.size + 1 + 1 + 1 + 1 + 1, k0, none⟩ (.int .i64 all)).alloc (.cells #[.int .i64 k0] 3)).alloc (.cells #[.slice (some ⟨z.val.heap.size, 0, none⟩) 1 1] 22), by repeat (first | exact Below.refl _ _ | (with_reducible assumption) | apply below_later | apply below_alloc | apply below_drew | apply below_drewN)⟩
          have hdf : Dfs es (belPools f) n (nxPools W H) (fun i => (nums.set k0 all).getD i 0) k0 [k0] (fun _ => False) := by
            have h := HDFS.out
            rw [HALL.out] at h
            rw [set_fun (by rw [GK.out.len]; exact hlt)]
            exact h
          generalize z.val.heap.size + 1 = bA at *
          generalize (((z.val.setCell ⟨w.heap.size + 1 + 1 + 1 + 1 + 1, k0, none⟩ (.int .i64 all)).alloc (.cells #[.int .i64 k0] 3)).alloc (.cells #[.slice (some ⟨z.val.heap.size, 0, none⟩) 1 1] 22)) = V1 at *
          have hbd : 2 * unnum (fun i => (nums.set k0 all).getD i 0) n + [k0].length ≤ 2 * n := by
            rw [set_fun (by rw [GK.out.len]; exact hlt)]
            have u1 := unnum_upd (nm := fun k => nums.getD k 0) (v := (all : Int)) hlt HNV.out (by omega)
            have u2 := unnum_le (fun k => nums.getD k 0) n
            simp only [List.length_cons, List.length_nil]
            omega
          have HBD := Lib.hid hbd
          clear hbd
          have GK1 := Lib.hid gk1
          have MK1 := Lib.hid mk1
          have HDF := Lib.hid hdf
          clear gk1 mk1 hdf hcur
          refine wpIn_loop_ghost_k (fun num a V => ∃ (v5 v10 v11 v12 v13 v14 v15 v16 v17 v18 v19 v20 v21 v22 v25 v26 v27 v28 v29 v30 v31 v32 v33 v34 v35 v36 v37 v38 v39 v40 v41 v42 v43 v44 v45 v46 v47 v48 v49 v50 v51 v52 v53 v54 v55 v56 v57 v58 v59 v60 v61 v62 v63 v64 v65 v66 v67 v68 v69 v70 v71 v72 v73 v74 v75 v76 v77 v78 v79 v80 v81 v82 v83 v84 : Value) (ds2 : List Deferred), a = { tmps := #[.agg #[.int .i64 W, .int .i64 H, .slice (some ⟨b, off, none⟩) n cap], .func (.func 75) #[] #[.pointer (some ⟨bm, 0, none⟩)], .func (.func 76) #[] #[.pointer (some ⟨bm, 0, none⟩)], .pointer (some ⟨w.heap.size, 0, none⟩), .pointer (some ⟨w.heap.size + 1, 0, none⟩), v5, .pointer (some ⟨w.heap.size + 1 + 1, 0, none⟩), .pointer (some ⟨w.heap.size + 1 + 1 + 1, 0, none⟩), .int .i64 (k0 : Nat), .pointer (some ⟨bA, 0, none⟩), v10, v11, v12, v13, v14, v15, v16, v17, v18, v19, v20, v21, v22, .int .i64 ((W : Int) * (H : Int)), .int .i64 (k0 : Nat), v25, v26, v27, v28, v29, v30, v31, v32, v33, v34, v35, v36, v37, v38, v39, v40, v41, v42, v43, v44, v45, v46, v47, v48, v49, v50, v51, v52, v53, v54, v55, v56, v57, v58, v59, v60, v61, v62, v63, v64, v65, v66, v67, v68, v69, v70, v71, v72, v73, v74, v75, v76, v77, v78, v79, v80, v81, v82, v83, v84], defers := ds2 } ∧ ∃ (nums2 : List Int) (ah : List Nat) (va : Value), num = 2 * unnum (fun i => nums2.getD i 0) n + ah.length ∧ 2 * unnum (fun i => nums2.getD i 0) n + ah.length ≤ 2 * n ∧ AKeep (.cells #[.int .i64 W, .int .i64 H, .slice (some ⟨b, off, none⟩) n cap] 24) (.func (.func 75) #[] #[.pointer (some ⟨bm, 0, none⟩)]) n (w.heap.size + 1 + 1 + 1 + 1 + 1) nums2 all bA va ah (fun _ => False) w V ∧ Marks ds2 (fun _ => False) w V ∧ Dfs es (belPools f) n (nxPools W H) (fun i => nums2.getD i 0) k0 ah (fun _ => False)) (2 * unnum (fun i => (nums.set k0 all).getD i 0) n + [k0].length) ?start2 ?round2
          case start2 =>
            repeat apply Exists.intro
            exact ⟨rfl, _, _, _, rfl, HBD.out, GK1.out, MK1.out, HDF.out⟩
          case round2 =>
            intro num a V2 hinv
            obtain ⟨v5, hinv⟩ := hinv
            obtain ⟨v10, hinv⟩ := hinv
            obtain ⟨v11, hinv⟩ := hinv
            obtain ⟨v12, hinv⟩ := hinv
            obtain ⟨v13, hinv⟩ := hinv
            obtain ⟨v14, hinv⟩ := hinv
            obtain ⟨v15, hinv⟩ := hinv
            obtain ⟨v16, hinv⟩ := hinv
            obtain ⟨v17, hinv⟩ := hinv
            obtain ⟨v18, hinv⟩ := hinv
            obtain ⟨v19, hinv⟩ := hinv
            obtain ⟨v20, hinv⟩ := hinv
            obtain ⟨v21, hinv⟩ := hinv
            obtain ⟨v22, hinv⟩ := hinv
            obtain ⟨v25, hinv⟩ := hinv
            obtain ⟨v26, hinv⟩ := hinv
            obtain ⟨v27, hinv⟩ := hinv
            obtain ⟨v28, hinv⟩ := hinv
            obtain ⟨v29, hinv⟩ := hinv
            obtain ⟨v30, hinv⟩ := hinv
            obtain ⟨v31, hinv⟩ := hinv
            obtain ⟨v32, hinv⟩ := hinv
            obtain ⟨v33, hinv⟩ := hinv
            obtain ⟨v34, hinv⟩ := hinv
            obtain ⟨v35, hinv⟩ := hinv
            obtain ⟨v36, hinv⟩ := hinv
            obtain ⟨v37, hinv⟩ := hinv
            obtain ⟨v38, hinv⟩ := hinv
            obtain ⟨v39, hinv⟩ := hinv
            obtain ⟨v40, hinv⟩ := hinv
            obtain ⟨v41, hinv⟩ := hinv
            obtain ⟨v42, hinv⟩ := hinv
            obtain ⟨v43, hinv⟩ := hinv
            obtain ⟨v44, hinv⟩ := hinv
            obtain ⟨v45, hinv⟩ := hinv
            obtain ⟨v46, hinv⟩ := hinv
            obtain ⟨v47, hinv⟩ := hinv
            obtain ⟨v48, hinv⟩ := hinv
            obtain ⟨v49, hinv⟩ := hinv
            obtain ⟨v50, hinv⟩ := hinv
            obtain ⟨v51, hinv⟩ := hinv
            obtain ⟨v52, hinv⟩ := hinv
            obtain ⟨v53, hinv⟩ := hinv
            obtain ⟨v54, hinv⟩ := hinv
            obtain ⟨v55, hinv⟩ := hinv
            obtain ⟨v56, hinv⟩ := hinv
            obtain ⟨v57, hinv⟩ := hinv
            obtain ⟨v58, hinv⟩ := hinv
            obtain ⟨v59, hinv⟩ := hinv
            obtain ⟨v60, hinv⟩ := hinv
            obtain ⟨v61, hinv⟩ := hinv
            obtain ⟨v62, hinv⟩ := hinv
            obtain ⟨v63, hinv⟩ := hinv
            obtain ⟨v64, hinv⟩ := hinv
            obtain ⟨v65, hinv⟩ := hinv
            obtain ⟨v66, hinv⟩ := hinv
            obtain ⟨v67, hinv⟩ := hinv
            obtain ⟨v68, hinv⟩ := hinv
            obtain ⟨v69, hinv⟩ := hinv
            obtain ⟨v70, hinv⟩ := hinv
            obtain ⟨v71, hinv⟩ := hinv
            obtain ⟨v72, hinv⟩ := hinv
            obtain ⟨v73, hinv⟩ := hinv
            obtain ⟨v74, hinv⟩ := hinv
            obtain ⟨v75, hinv⟩ := hinv
            obtain ⟨v76, hinv⟩ := hinv
            obtain ⟨v77, hinv⟩ := hinv
            obtain ⟨v78, hinv⟩ := hinv
            obtain ⟨v79, hinv⟩ := hinv
            obtain ⟨v80, hinv⟩ := hinv
            obtain ⟨v81, hinv⟩ := hinv
            obtain ⟨v82, hinv⟩ := hinv
            obtain ⟨v83, hinv⟩ := hinv
            obtain ⟨v84, hinv⟩ := hinv
            obtain ⟨ds2, ha, nums2, ah, va, hnum, hbd, ak, mk2, df⟩ := hinv
            subst ha
            subst hnum
            intro J2 K2 hJ2 hK2
            have e9 := cell_of_heap ak.atA 0 _ rfl
            have f9 := thaw_get ak.atA 0
            have lA := lt_of_get ak.atA
            have c3 := cell_of_heap ak.gk.b3 0 _ rfl
            have g3 := thaw_get ak.gk.b3 0
            have k3 := lt_of_get ak.gk.b3
            have HJ2 := Lib.hid hJ2
            have HK2 := Lib.hid hK2
            have MK2 := Lib.hid mk2
            have DF := Lib.hid df
            clear hJ2 hK2 mk2 df
            clear d1 d2 d3 f2 f3 l1 l2 l3 lg e1 e3
            rcases List.eq_nil_or_concat ah with hah | ⟨ah', x, hah⟩
            · subst hah
              obtain ⟨A, cap2, hva⟩ := ak.own.shape_n (n := 0) rfl
              subst hva
              have AK := Lib.hid ak
              clear ak
              gi_wp2
              obtain ⟨o1, o2⟩ := DF.out.end_ NET.out hlt HROOT.out
              refine HK.out _ _ (Handed.intro (n - (k0 + 1)) (by omega) (HJ.out _ _ _ ?_))
              refine ⟨k0 + 1, ?_⟩
              repeat apply Exists.intro
              refine ⟨rfl, rfl, by omega, nums2, ?_, MK2.out.set AK.out.gk.b3, o1⟩
              rw [o2, HALL.out]
              exact AK.out.gk.setA (all + 1)
            · rw [List.concat_eq_append] at hah
              subst hah
              obtain ⟨m, hmm⟩ : ∃ m, ah'.length = m := ⟨_, rfl⟩
              have hlen : (natL (ah' ++ [x])).length = m + 1 := by rw [natL_length, List.length_append, hmm]; rfl
              have hlen2 : (ah' ++ [x]).length = m + 1 := by rw [List.length_append, hmm]; rfl
              obtain ⟨gA, cap2, hva, hgA, hgL, hcap⟩ := ak.own.form hlen (by omega)
              subst hva
              obtain ⟨ex, fx⟩ := ak.own.cell hlen (show m < m + 1 by omega)
              have el := natL_last ah' x
              rw [hmm] at el
              rw [el] at ex
              have ocut := ak.own.cut (j := m) (by omega)
              rw [← natL_take, List.take_left' hmm] at ocut
              have hbd2 : 2 * unnum (fun i => nums2.getD i 0) n + m + 1 ≤ 2 * n := by rw [hlen2] at hbd; omega
              have akp := ak.put ocut (fun g' hg => ak.no g' hg)
              have hxn := (DF.out.st x (by simp)).1
              have hxm := (DF.out.st x (by simp)).2
              have mkp := MK2.out.set (j := 0) (v := .slice (some ⟨gA, 0, none⟩) m cap2) ak.atA
              have AK := Lib.hid ak
              have AKP := Lib.hid akp
              have MKP := Lib.hid mkp
              have HXM := Lib.hid hxm
              have HLEN2 := Lib.hid hlen2
              have HMM := Lib.hid hmm
              clear ak akp mkp ocut hlen hlen2 el hmm fx hbd hxm
              gi_wp2_with fail
              obtain ⟨V3, hV3⟩ : ∃ V3, V2.setCell ⟨bA, 0, none⟩ (.slice (some ⟨gA, 0, none⟩) m cap2) = V3 := ⟨_, rfl⟩
              rw [hV3] at AKP MKP ⊢
              clear hV3
              refine (callsIn_wide.2 (NX.out V3 AKP.out.gk.bx.below x)).mono ?_
              rintro e w' ⟨rfl, rfl⟩
              gi_wp2_with fail
              have hxn2 : x < W * H := by rw [← HN.out]; exact hxn
              have hbl3 := AKP.out.gk.bx.below.size
              have onW : Only (fun _ => False) V3 ((V3.alloc (.cells #[.int .i64 W, .int .i64 H, .slice (some ⟨b, off, none⟩) n cap] 24)).alloc (.cells #[.int .i64 x] 3)) := (Only.alloc _ _ _).trans (Only.alloc _ _ _)
              have tkW : Takes (fun _ => False) (fun b => b = V3.heap.size + 1 ∨ b = V3.heap.size) V3 ((V3.alloc (.cells #[.int .i64 W, .int .i64 H, .slice (some ⟨b, off, none⟩) n cap] 24)).alloc (.cells #[.int .i64 x] 3)) := ⟨fun _ k => k.elim, fun b k => .inr (by simp; omega)⟩
              have hgi : GInv (.cells #[.int .i64 W, .int .i64 H, .slice (some ⟨b, off, none⟩) n cap] 24) (.func (.func 75) #[] #[.pointer (some ⟨bm, 0, none⟩)]) n (w.heap.size + 1 + 1 + 1 + 1 + 1) all bA es (belPools f) (nxPools W H) k0 x (2 * unnum (fun i => nums2.getD i 0) n + m) ds2 w (fun b => b = V3.heap.size + 1 ∨ b = V3.heap.size) 0 ((V3.alloc (.cells #[.int .i64 W, .int .i64 H, .slice (some ⟨b, off, none⟩) n cap] 24)).alloc (.cells #[.int .i64 x] 3)) :=
                ⟨nums2, ah', _, AKP.out.stab tkW onW, MKP.out.stab tkW onW, DF.out.pop, HXM.out, by rw [HMM.out]; exact Nat.le_refl _⟩
              have it := iterPools W H x hW hW2 hH hxn2 (some ⟨b, off, none⟩) n cap V3
              have szW : ((V3.alloc (.cells #[.int .i64 W, .int .i64 H, .slice (some ⟨b, off, none⟩) n cap] 24)).alloc (.cells #[.int .i64 x] 3)).heap.size = V3.heap.size + 2 := by simp
              obtain ⟨V4, hV4⟩ : ∃ V4, (V3.alloc (.cells #[.int .i64 W, .int .i64 H, .slice (some ⟨b, off, none⟩) n cap] 24)).alloc (.cells #[.int .i64 x] 3) = V4 := ⟨_, rfl⟩
              rw [hV4] at it hgi szW ⊢
              have IT := Lib.hid it
              have HGI := Lib.hid hgi
              have SZW := Lib.hid szW
              clear it hgi onW tkW szW hV4 e9 f9 ex lA c3 g3 k3
              refine' range_law (gf := 103) (lb := lbPools V3.heap.size) rfl (enters_of Tryd.func103 (by kernel_rfl) rfl)
                IT.out (fun y hy => by rw [SZW.out]; omega) (fun k hk => valsOf_size hk)
                (GInv (.cells #[.int .i64 W, .int .i64 H, .slice (some ⟨b, off, none⟩) n cap] 24) (.func (.func 75) #[] #[.pointer (some ⟨bm, 0, none⟩)]) n (w.heap.size + 1 + 1 + 1 + 1 + 1) all bA es (belPools f) (nxPools W H) k0 x (2 * unnum (fun i => nums2.getD i 0) n + m) ds2 w)
                (fun _ _ _ _ => False)
                (fun S T k V V' h ht ho => h.stab ht ho) (fun _ _ _ _ _ _ h _ _ => h.elim) HGI.out _ ?assign ?body ?done ?stop
              case assign =>
                intro l2 k V5 K5 hk hK5
                rw [valsOf_length] at hk
                rw [valsOf_at hk]
                gi_wp2
                exact hK5
              case body =>
                rintro l2 T k V5 hk ⟨nums3, ah3, va3, ak3, mk3, df3, hx3, hm3⟩
                rw [valsOf_length] at hk
                have hx := nthL_at hk
                obtain ⟨near, hnear⟩ : ∃ near, nthL (nxPools W H x) k = near := ⟨_, rfl⟩
                rw [hnear] at hx ⊢
                clear hnear
                have hnn : near < n := by rw [HN.out]; exact nxPools_lt (List.mem_of_getElem? hx)
                have HX := Lib.hid hx
                have bln := BL.out V5 ak3.gk.bx.below near hnn
                have d1 := cell_of_heap ak3.gk.b1 0 _ rfl
                have d2 := cell_of_heap ak3.gk.b2 0 _ rfl
                have d3 := cell_of_heap ak3.gk.b3 0 _ rfl
                have dA := cell_of_heap ak3.atA 0 _ rfl
                have fA := thaw_get ak3.atA 0
                have l1 := lt_of_get ak3.gk.b1
                have l2' := lt_of_get ak3.gk.b2
                have l3 := lt_of_get ak3.gk.b3
                have lA := lt_of_get ak3.atA
                have gp := ak3.gk.gp
                obtain ⟨en, fn⟩ := ak3.gk.own.cell ak3.gk.len hnn
                have fn0 := fn near
                obtain ⟨nv3, hnv3⟩ : ∃ nv3, nums3.getD near 0 = nv3 := ⟨_, rfl⟩
                have HNV3 := Lib.hid hnv3
                rw [hnv3] at en
                have AK3 := Lib.hid ak3
                have MK3 := Lib.hid mk3
                have DF3 := Lib.hid df3
                have HX3 := Lib.hid hx3
                clear hx hnv3 ak3 mk3 df3 hx3 fn
                have LEAVE : Hid (belPools f near = false ∨ nv3 ≠ -1 → ∀ z3 : Later V5, leftBy (GInv (.cells #[.int .i64 W, .int .i64 H, .slice (some ⟨b, off, none⟩) n cap] 24) (.func (.func 75) #[] #[.pointer (some ⟨bm, 0, none⟩)]) n (w.heap.size + 1 + 1 + 1 + 1 + 1) all bA es (belPools f) (nxPools W H) k0 x (2 * unnum (fun i => nums2.getD i 0) n + m) ds2 w) (fun _ _ _ _ => False) T k V5 .normal { tmps := #[], defers := [] } z3.val) := fun hor z3 => by
                  rw [← HNV3.out] at hor
                  exact ⟨Kept.later z3, nums3, ah3, va3, AK3.out.later z3, MK3.out.later z3, DF3.out.leave NET.out hxn HX3.out HX.out hor, HX3.out, hm3⟩
                cases hbn : belPools f near
                · rw [hbn] at bln
                  have LV := Lib.hid (LEAVE.out (.inl hbn))
                  have BLN := Lib.hid bln
                  clear hbn bln LEAVE
                  gi_wp2_with (gi_at_call 75; refine (CallsIn.inRound l2 (callsIn_wide.2 (Gives.calls BLN.out))).mono ?_; rintro e w1 ⟨rfl, z3, rfl⟩)
                  exact LV.out z3
                · rw [hbn] at bln
                  have HBN := Lib.hid hbn
                  have BLN := Lib.hid bln
                  clear hbn bln
                  by_cases hv3 : nv3 = -1
                  · rw [hv3] at en HNV3
                    clear hv3 LEAVE
                    obtain ⟨i0, hi0, hz0, hz1, hz2⟩ := info_int
                    gi_upto_region 15 with (gi_at_call 75; refine (CallsIn.inRound l2 (callsIn_wide.2 (Gives.calls BLN.out))).mono ?_; rintro e w1 ⟨rfl, z3, rfl⟩)
                    obtain ⟨cur5, hcur5⟩ := (AK3.out.later z3).gk.own.block
                    have ak4 := (AK3.out.later z3).setN near all
                    have mk4 := (MK3.out.later z3).set (j := near) (v := .int .i64 all) hcur5
                    have kp4 := (Kept.later (S := T) z3).trans (Kept.setCell (p := ⟨w.heap.size + 1 + 1 + 1 + 1 + 1, near, none⟩) (.int .i64 all) AK3.out.gk.no)
                    have vis := DF3.out.visit NET.out hxn HX3.out HX.out HBN.out HNV3.out
                    have hu := unnum_upd (nm := fun i => nums3.getD i 0) (v := ((setsTo es (belPools f) k0 : Nat) : Int)) hnn HNV3.out (by omega)
                    rw [HALL.out] at vis hu
                    have hnx : (nums3.set near (all : Int)).getD x 0 = ((setsTo es (belPools f) k0 : Nat) : Int) := by
                      rw [getD_set (by rw [AK3.out.gk.len]; exact hnn), HALL.out]
                      by_cases e : x = near
                      · rw [e]; exact upd_same _ _ _
                      · rw [upd_ne _ _ e, HX3.out, HALL.out]
                    obtain ⟨V6, hV6⟩ : ∃ V6, z3.val.setCell ⟨w.heap.size + 1 + 1 + 1 + 1 + 1, near, none⟩ (.int .i64 all) = V6 := ⟨_, rfl⟩
                    rw [hV6] at ak4 mk4 kp4 ⊢
                    have sz6 := kp4.size
                    have AK4 := Lib.hid ak4
                    have MK4 := Lib.hid mk4
                    have KP4 := Lib.hid kp4
                    have VIS := Lib.hid vis
                    have HU := Lib.hid hu
                    have HNX := Lib.hid hnx
                    have dA := cell_of_heap AK4.out.atA 0 _ rfl
                    have fA := thaw_get AK4.out.atA 0
                    have lA := lt_of_get AK4.out.atA
                    have hown5 := own_row (n := ah3.length) AK4.out.own (natL_length _)
                    clear hV6 hcur5 ak4 mk4 kp4 vis hu hnx d1 d2 d3 l1 l2' l3 en fn0
                    obtain ⟨i0, hi0, hz0, hz1, hz2⟩ := info_int
                    gi_wp2_with (gi_at_builtin; refine wpListIn_append_own_at _ rfl _ _ 22 rfl (w.heap.size + 4) 3 i0 (.int .i64 0) 1 8 Tryd.underlying22 hi0 hz0 hz1 hz2 rfl (by decide) _ _ _ rfl (hown5.alloc _) ⟨V6.heap.size, 0, none⟩ 1 1 [.int .i64 near] rfl rfl ?c1 ?c2 ?c3 ?c4 ?c5 ?_)
                    case c1 =>
                      intro j u hj
                      match j, hj with
                      | 0, hj => simp at hj; subst hj; simp [Addr.add]
                    case c2 => intro u hu; simp at hu; subst hu; rfl
                    case c3 => unfold maxLen; omega
                    case c4 => omega
                    case c5 => simp; omega
                    intro vv5 w5 hown6 hgrow _ hat
                    have ho6 : OwnI w5 (w.heap.size + 4) vv5 (natL (ah3 ++ [near])) := by
                      unfold OwnI
                      rw [natL_append, cellsI_append, List.length_append, natL_length]
                      exact hown6
                    obtain ⟨A6, cap6, hvv⟩ := ho6.shape_n (n := ah3.length + 1) (by rw [natL_length, List.length_append]; rfl)
                    subst hvv
                    obtain ⟨r1, r2, r3, r4⟩ := AK4.out.grown hgrow ho6 (by rw [World.size_alloc]; exact hat)
                    have r5 := AK4.out.marks MK4.out hgrow (.slice A6 (ah3.length + 1) cap6)
                    have R1 := Lib.hid r1
                    have R2 := Lib.hid r2
                    have R5 := Lib.hid r5
                    have dA2 := cell_of_heap r3 0 _ rfl
                    have fA2 := thaw_get r3 0
                    clear hown6 hgrow hat ho6 r1 r2 r5 hown5 dA fA lA
                    gi_wp2
                    have hset : (fun i => (nums3.set near (all : Int)).getD i 0) = upd (fun k => nums3.getD k 0) near all := set_fun (by rw [AK3.out.gk.len]; exact hnn)
                    have hset1 : ∀ j, (nums3.set near (all : Int)).getD j 0 = upd (fun k => nums3.getD k 0) near all j := fun j => congrFun hset j
                    refine ⟨KP4.out.trans R2.out, nums3.set near all, ah3 ++ [near], _, R1.out, R5.out, ?_, HNX.out, ?_⟩
                    · simp only [hset, hset1, HALL.out]
                      exact VIS.out.2
                    · rw [hset, List.length_append]
                      have := HU.out
                      simp only [List.length_cons, List.length_nil]
                      omega
                  · have hv4 : (nv3 == -1) = false := by simpa using hv3
                    have LV := Lib.hid (LEAVE.out (.inr hv3))
                    clear hv3 LEAVE
                    gi_wp2_with (gi_at_call 75; refine (CallsIn.inRound l2 (callsIn_wide.2 (Gives.calls BLN.out))).mono ?_; rintro e w1 ⟨rfl, z3, rfl⟩)
                    exact LV.out z3
              case done =>
                rintro D T V5 hD hTD hT0 ⟨nums3, ah3, va3, ak3, mk3, df3, hx3, hm3⟩ hKD
                rw [valsOf_length] at df3
                refine HK2.out _ _ (Handed.intro (2 * unnum (fun i => nums3.getD i 0) n + ah3.length) (by have := HLEN2.out; omega) (HJ2.out _ _ _ ?_))
                repeat apply Exists.intro
                exact ⟨rfl, nums3, ah3, va3, rfl, by have := HLEN2.out; omega, ak3.free, mk3.cons hTD hKD (by have := SZW.out; omega), df3.done (Nat.le_refl _)⟩
              case stop => rintro _ _ _ _ _ _ _ _ _ h; exact h.elim
        · have hm2 : (nv != -1) = true := by simpa using hm
          have HM1 := Lib.hid (show nums.getD k0 0 ≠ -1 by rw [HNV.out]; exact hm)
          clear hm HNV
          gi_wp2_with (gi_at_call 75; refine (callsIn_wide.2 (Gives.calls HBL.out)).mono ?_; rintro e w1 ⟨rfl, z, rfl⟩)
          refine HK.out _ _ (Handed.intro (n - (k0 + 1)) (by omega) (HJ.out _ _ _ ?_))
          obtain ⟨nums', g1, m1, o1⟩ := SKIP.out (.inr HM1.out) _ ⟨z, rfl⟩
          refine ⟨k0 + 1, ?_⟩
          repeat apply Exists.intro
          exact ⟨rfl, rfl, by omega, nums', g1, m1, o1⟩
    · obtain rfl : k0 = n := by omega
      have hlt' : ¬ (k0 : Int) < (W : Int) * (H : Int) := by rw [HM.out]; omega
      gi_wp2_with fail
      gi_region
      gi_wp2
      have hb2 : ((V.setCell ⟨w.heap.size + 1 + 1, 0, none⟩ (.slice (some ⟨w.heap.size + 1 + 1 + 1 + 1 + 1, 0, none⟩) k0 k0)).setCell ⟨w.heap.size + 1 + 1 + 1, 0, none⟩ (.int .i64 all)).heap[w.heap.size + 1 + 1]? = some (.cells #[.slice (some ⟨w.heap.size + 1 + 1 + 1 + 1 + 1, 0, none⟩) k0 k0] 22) :=
        (Below.heap_setCell _ _ _ _ (by simp)).trans (one_setCell GK.out.b2)
      have hb3 : ((V.setCell ⟨w.heap.size + 1 + 1, 0, none⟩ (.slice (some ⟨w.heap.size + 1 + 1 + 1 + 1 + 1, 0, none⟩) k0 k0)).setCell ⟨w.heap.size + 1 + 1 + 1, 0, none⟩ (.int .i64 all)).heap[w.heap.size + 1 + 1 + 1]? = some (.cells #[.int .i64 all] 3) :=
        one_setCell ((Below.heap_setCell _ _ _ _ (by simp)).trans GK.out.b3)
      have ho := (GK.out.own.far (p := ⟨w.heap.size + 1 + 1, 0, none⟩) (u := .slice (some ⟨w.heap.size + 1 + 1 + 1 + 1 + 1, 0, none⟩) k0 k0) (fun g hg => by simp [Value.ownBlock] at hg; simp; omega)).far (p := ⟨w.heap.size + 1 + 1 + 1, 0, none⟩) (u := .int .i64 all) (fun g hg => by simp [Value.ownBlock] at hg; simp; omega)
      have hm := (MK.out.set (j := 0) (v := .slice (some ⟨w.heap.size + 1 + 1 + 1 + 1 + 1, 0, none⟩) k0 k0) GK.out.b2).set (j := 0) (v := .int .i64 all) ((Below.heap_setCell _ _ _ _ (by simp)).trans GK.out.b3)
      have hbb := (GK.out.bx.below.setCell (p := ⟨w.heap.size + 1 + 1, 0, none⟩) (by simp; omega) (.slice (some ⟨w.heap.size + 1 + 1 + 1 + 1 + 1, 0, none⟩) k0 k0)).setCell (p := ⟨w.heap.size + 1 + 1 + 1, 0, none⟩) (by simp; omega) (.int .i64 all)
      generalize (V.setCell ⟨w.heap.size + 1 + 1, 0, none⟩ (.slice (some ⟨w.heap.size + 1 + 1 + 1 + 1 + 1, 0, none⟩) k0 k0)).setCell ⟨w.heap.size + 1 + 1 + 1, 0, none⟩ (.int .i64 all) = V9 at *
      refine leaves_marks ds V9.drew (hm.stab (Takes.refl _ _) (Only.drew _ _)) hbb.drew fun V' hV' hk' => ?_
      obtain ⟨cur9, hcur9⟩ := ho.block
      have r2 := cell_of_heap (hk' _ _ _ _ hb2) 0 _ rfl
      have r3 := cell_of_heap (hk' _ _ _ _ hb3) 0 _ rfl
      refine ⟨.tuple #[.slice (some ⟨w.heap.size + 1 + 1 + 1 + 1 + 1, 0, none⟩) k0 k0, .int .i64 all], by simp [results, Tryd.results74, go_sem, r2, r3], ?_⟩
      refine ⟨_, nums, by rw [HALL.out], ⟨V', hV'⟩, rfl, (ho.drew.moved fun g hg => ?_).mono (by omega), GK.out.len, fun i hi => OUT.out.whole hi⟩
      obtain rfl : g = w.heap.size + 1 + 1 + 1 + 1 + 1 := by simpa [Value.ownBlock] using hg.symm
      exact (hk' _ _ _ _ hcur9).trans hcur9.symm
set_option maxRecDepth 100000 in
set_option maxHeartbeats 6400000 in
theorem groupsBeds (W H n cap b off bm : Nat) (f : Nat → Int) (w : World) (es : List (Nat × Nat)) (hW : 1 ≤ W) (hW2 : W ≤ 30) (hH1 : 1 ≤ H) (hH : H ≤ 30) (hn : n = W * H) (p : Ints w b off n f)
    (c0 : w.cell? ⟨bm, 0, none⟩ = some (.int .i64 W)) (c1 : w.cell? ⟨bm, 1, none⟩ = some (.int .i64 H)) (c2 : w.cell? ⟨bm, 2, none⟩ = some (.slice (some ⟨b, off, none⟩) n cap)) (net : Net es (belBeds f) n (nxBeds W H)) :
    Calls Tryd.prog 74 #[.agg #[.int .i64 W, .int .i64 H, .slice (some ⟨b, off, none⟩) n cap], .func (.func 99) #[] #[.pointer (some ⟨bm, 0, none⟩)], .func (.func 100) #[] #[.pointer (some ⟨bm, 0, none⟩)]] w (PostG w n es (belBeds f)) := by
  have lm := World.block_lt_of_cell? _ _ c0
  have hn9 : n ≤ 900 := by rw [hn]; exact Nat.mul_le_mul hW2 hH
  have hn1 : 1 ≤ n := by rw [hn]; exact Nat.mul_le_mul hW hH1
  have hmul : (W : Int) * (H : Int) = (n : Int) := by rw [hn, Int.natCast_mul]
  have hmb : (W : Int) * (H : Int) ≤ 900 := by omega
  have hm0 : 0 ≤ (W : Int) * (H : Int) := by omega
  have RP : Hid (∀ (w : World) (g0 : Nat), w.cell? ⟨g0, 0, none⟩ = some (.int .i64 (-1)) → Calls Tryd.prog 102 #[.slice (some ⟨g0, 0, none⟩) 1 1, .int .i64 ((W : Int) * (H : Int))] w fun e w' => ∃ g, e = .returned (.slice (some ⟨g, 0, none⟩) n n) ∧ g = w.heap.size ∧ ∃ y : Later w, w' = y.val ∧ OwnI w' w.heap.size (.slice (some ⟨g, 0, none⟩) n n) (List.replicate n (-1))) := fun w g0 h => by
    rw [hmul]; exact repeat_any g0 0 1 n (-1) w hn1 (by omega) h
  have BL : Hid (∀ (V : World), Below w.heap.size w V → ∀ i, i < n → Gives Tryd.prog 99 #[.int .i64 i, .pointer (some ⟨bm, 0, none⟩)] V (.bool (belBeds f i))) := fun V hV i hi =>
    belBeds_any W H n cap b off bm i f V hi (by omega) (p.later ⟨V, hV⟩) ((hV.cell (p := ⟨bm, 2, none⟩) lm).trans c2)
  have NX : Hid (∀ (V : World), Below w.heap.size w V → ∀ at_ : Nat, Calls Tryd.prog 100 #[.int .i64 at_, .pointer (some ⟨bm, 0, none⟩)] V fun e w' => e = .returned (.func (.func 109) #[] (lbBeds V.heap.size)) ∧ w' = (V.alloc (.cells #[.int .i64 W, .int .i64 H, .slice (some ⟨b, off, none⟩) n cap] 24)).alloc (.cells #[.int .i64 at_] 3)) := fun V hV at_ =>
    nextBeds_any W H at_ n cap bm _ V ((hV.cell (p := ⟨bm, 0, none⟩) lm).trans c0) ((hV.cell (p := ⟨bm, 1, none⟩) lm).trans c1) ((hV.cell (p := ⟨bm, 2, none⟩) lm).trans c2)
  have hc4 : (((((w.alloc (.cells #[.int .i64 W, .int .i64 H, .slice (some ⟨b, off, none⟩) n cap] 24)).alloc (.cells #[.func (.func 99) #[] #[.pointer (some ⟨bm, 0, none⟩)]] 65)).alloc (.cells #[.slice none 0 0] 22)).alloc (.cells #[.int .i64 0] 3)).alloc (.cells #[.int .i64 (-1)] 3)).cell? ⟨w.heap.size + 1 + 1 + 1 + 1, 0, none⟩ = some (.int .i64 (-1)) := cell_of_heap (by rw [get_alloc, if_pos (by simp only [World.size_alloc])]) 0 _ rfl
  have RP1 := Lib.hid (RP.out _ _ hc4)
  clear hc4
  have NET := Lib.hid net
  have HM := Lib.hid hmul
  have HN := Lib.hid hn
  clear p c0 c1 c2 net hmul hn
  refine (callsIn_wide (n := 0)).1 ?_
  refine callsIn_of_wp_marks Tryd.func74 rfl trivial ?_ rfl
  simp only [Tryd.ntmps74, List.size_toArray, List.length_cons, List.length_nil, Nat.reduceAdd, Nat.reduceSub, Array.replicate_succ, Array.replicate_zero, List.push_toArray, List.append_toArray, List.nil_append, List.cons_append]
  gi_wp2_with (gi_at_call 102; refine (callsIn_wide.2 RP1.out).mono ?_; rintro e w1 ⟨g, rfl, hg, y, rfl, ho⟩)
  obtain rfl : w.heap.size + 1 + 1 + 1 + 1 + 1 = g := by rw [hg]; simp only [World.size_alloc]
  clear hg
  have q0 : y.val.heap[w.heap.size]? = some (.cells #[.int .i64 W, .int .i64 H, .slice (some ⟨b, off, none⟩) n cap] 24) := (y.ok.block _ (by simp only [World.size_alloc]; omega)).trans (by repeat (first | (rw [get_alloc, if_neg (by simp only [World.size_alloc]; omega)]) | (rw [get_alloc, if_pos (by simp only [World.size_alloc])])))
  have q1 : y.val.heap[w.heap.size + 1]? = some (.cells #[.func (.func 99) #[] #[.pointer (some ⟨bm, 0, none⟩)]] 65) := (y.ok.block _ (by simp only [World.size_alloc]; omega)).trans (by repeat (first | (rw [get_alloc, if_neg (by simp only [World.size_alloc]; omega)]) | (rw [get_alloc, if_pos (by simp only [World.size_alloc])])))
  have q2 : y.val.heap[w.heap.size + 1 + 1]? = some (.cells #[.slice none 0 0] 22) := (y.ok.block _ (by simp only [World.size_alloc]; omega)).trans (by repeat (first | (rw [get_alloc, if_neg (by simp only [World.size_alloc]; omega)]) | (rw [get_alloc, if_pos (by simp only [World.size_alloc])])))
  have q3 : y.val.heap[w.heap.size + 1 + 1 + 1]? = some (.cells #[.int .i64 0] 3) := (y.ok.block _ (by simp only [World.size_alloc]; omega)).trans (by repeat (first | (rw [get_alloc, if_neg (by simp only [World.size_alloc]; omega)]) | (rw [get_alloc, if_pos (by simp only [World.size_alloc])])))
  have hby : Below w.heap.size w y.val := by repeat (first | exact Below.refl _ _ | (with_reducible assumption) | apply below_later | apply below_alloc | apply below_drew | apply below_drewN)
  have ho2 : OwnI y.val (w.heap.size + 4) (.slice (some ⟨w.heap.size + 1 + 1 + 1 + 1 + 1, 0, none⟩) n n) (List.replicate n (-1)) := by
    exact ho.mono (by simp only [World.size_alloc]; omega)
  have gk0 : GKeep (.cells #[.int .i64 W, .int .i64 H, .slice (some ⟨b, off, none⟩) n cap] 24) (.func (.func 99) #[] #[.pointer (some ⟨bm, 0, none⟩)]) n (w.heap.size + 1 + 1 + 1 + 1 + 1) (List.replicate n (-1)) (setsTo es (belBeds f) 0) (fun _ => False) w (y.val.setCell ⟨w.heap.size + 1 + 1, 0, none⟩ (.slice (some ⟨w.heap.size + 1 + 1 + 1 + 1 + 1, 0, none⟩) n n)) := by
    refine ⟨⟨fun p hp => ⟨?_, fun k => k⟩, hby.setCell (p := ⟨w.heap.size + 1 + 1, 0, none⟩) (by simp; omega) _, fun b k => k.elim⟩, ho2.moved fun g' hg' => Below.heap_setCell _ _ _ _ (fun e => own_kind ho2 q2 (by decide) g' hg' e.symm), List.length_replicate .., fun k => k⟩
    simp only [List.mem_cons, List.not_mem_nil, or_false] at hp
    rcases hp with rfl | rfl | rfl | rfl
    · exact one_setCell q2
    · exact (Below.heap_setCell _ _ _ _ (by simp)).trans q3
    · exact (Below.heap_setCell _ _ _ _ (by simp; omega)).trans q0
    · exact (Below.heap_setCell _ _ _ _ (by simp)).trans q1
  have GK0 := Lib.hid gk0
  clear gk0 ho2 ho q0 q1 q2 q3
  refine wpIn_loop_ghost_k (fun num a V => ∃ (k0 : Nat) (u5 u8 u9 u10 u11 u12 u13 u14 u15 u16 u17 u18 u19 u20 u21 u22 u25 u26 u27 u28 u29 u30 u31 u32 u33 u34 u35 u36 u37 u38 u39 u40 u41 u42 u43 u44 u45 u46 u47 u48 u49 u50 u51 u52 u53 u54 u55 u56 u57 u58 u59 u60 u61 u62 u63 u64 u65 u66 u67 u68 u69 u70 u71 u72 u73 u74 u75 u76 u77 u78 u79 u80 u81 u82 u83 u84 : Value) (ds : List Deferred), a = { tmps := #[.agg #[.int .i64 W, .int .i64 H, .slice (some ⟨b, off, none⟩) n cap], .func (.func 99) #[] #[.pointer (some ⟨bm, 0, none⟩)], .func (.func 100) #[] #[.pointer (some ⟨bm, 0, none⟩)], .pointer (some ⟨w.heap.size, 0, none⟩), .pointer (some ⟨w.heap.size + 1, 0, none⟩), u5, .pointer (some ⟨w.heap.size + 1 + 1, 0, none⟩), .pointer (some ⟨w.heap.size + 1 + 1 + 1, 0, none⟩), u8, u9, u10, u11, u12, u13, u14, u15, u16, u17, u18, u19, u20, u21, u22, .int .i64 ((W : Int) * (H : Int)), .int .i64 (k0 : Nat), u25, u26, u27, u28, u29, u30, u31, u32, u33, u34, u35, u36, u37, u38, u39, u40, u41, u42, u43, u44, u45, u46, u47, u48, u49, u50, u51, u52, u53, u54, u55, u56, u57, u58, u59, u60, u61, u62, u63, u64, u65, u66, u67, u68, u69, u70, u71, u72, u73, u74, u75, u76, u77, u78, u79, u80, u81, u82, u83, u84], defers := ds } ∧ num = n - k0 ∧ k0 ≤ n ∧ ∃ nums : List Int, GKeep (.cells #[.int .i64 W, .int .i64 H, .slice (some ⟨b, off, none⟩) n cap] 24) (.func (.func 99) #[] #[.pointer (some ⟨bm, 0, none⟩)]) n (w.heap.size + 1 + 1 + 1 + 1 + 1) nums (setsTo es (belBeds f) k0) (fun _ => False) w V ∧ Marks ds (fun _ => False) w V ∧ Outer es (belBeds f) n (fun i => nums.getD i 0) k0) n ?start ?round
  case start =>
    refine ⟨0, ?_⟩
    repeat apply Exists.intro
    refine ⟨rfl, by omega, by omega, _, GK0.out, Marks.nil _ _ _, ⟨fun i hi => ?_⟩⟩
    rw [if_neg (by omega), List.getD_eq_getElem?_getD, List.getElem?_replicate, if_pos hi]; rfl
  case round =>
    intro num a V hinv
    obtain ⟨k0, hinv⟩ := hinv
    obtain ⟨u5, hinv⟩ := hinv
    obtain ⟨u8, hinv⟩ := hinv
    obtain ⟨u9, hinv⟩ := hinv
    obtain ⟨u10, hinv⟩ := hinv
    obtain ⟨u11, hinv⟩ := hinv
    obtain ⟨u12, hinv⟩ := hinv
    obtain ⟨u13, hinv⟩ := hinv
    obtain ⟨u14, hinv⟩ := hinv
    obtain ⟨u15, hinv⟩ := hinv
    obtain ⟨u16, hinv⟩ := hinv
    obtain ⟨u17, hinv⟩ := hinv
    obtain ⟨u18, hinv⟩ := hinv
    obtain ⟨u19, hinv⟩ := hinv
    obtain ⟨u20, hinv⟩ := hinv
    obtain ⟨u21, hinv⟩ := hinv
    obtain ⟨u22, hinv⟩ := hinv
    obtain ⟨u25, hinv⟩ := hinv
    obtain ⟨u26, hinv⟩ := hinv
    obtain ⟨u27, hinv⟩ := hinv
    obtain ⟨u28, hinv⟩ := hinv
    obtain ⟨u29, hinv⟩ := hinv
    obtain ⟨u30, hinv⟩ := hinv
    obtain ⟨u31, hinv⟩ := hinv
    obtain ⟨u32, hinv⟩ := hinv
    obtain ⟨u33, hinv⟩ := hinv
    obtain ⟨u34, hinv⟩ := hinv
    obtain ⟨u35, hinv⟩ := hinv
    obtain ⟨u36, hinv⟩ := hinv
    obtain ⟨u37, hinv⟩ := hinv
    obtain ⟨u38, hinv⟩ := hinv
    obtain ⟨u39, hinv⟩ := hinv
    obtain ⟨u40, hinv⟩ := hinv
    obtain ⟨u41, hinv⟩ := hinv
    obtain ⟨u42, hinv⟩ := hinv
    obtain ⟨u43, hinv⟩ := hinv
    obtain ⟨u44, hinv⟩ := hinv
    obtain ⟨u45, hinv⟩ := hinv
    obtain ⟨u46, hinv⟩ := hinv
    obtain ⟨u47, hinv⟩ := hinv
    obtain ⟨u48, hinv⟩ := hinv
    obtain ⟨u49, hinv⟩ := hinv
    obtain ⟨u50, hinv⟩ := hinv
    obtain ⟨u51, hinv⟩ := hinv
    obtain ⟨u52, hinv⟩ := hinv
    obtain ⟨u53, hinv⟩ := hinv
    obtain ⟨u54, hinv⟩ := hinv
    obtain ⟨u55, hinv⟩ := hinv
    obtain ⟨u56, hinv⟩ := hinv
    obtain ⟨u57, hinv⟩ := hinv
    obtain ⟨u58, hinv⟩ := hinv
    obtain ⟨u59, hinv⟩ := hinv
    obtain ⟨u60, hinv⟩ := hinv
    obtain ⟨u61, hinv⟩ := hinv
    obtain ⟨u62, hinv⟩ := hinv
    obtain ⟨u63, hinv⟩ := hinv
    obtain ⟨u64, hinv⟩ := hinv
    obtain ⟨u65, hinv⟩ := hinv
    obtain ⟨u66, hinv⟩ := hinv
    obtain ⟨u67, hinv⟩ := hinv
    obtain ⟨u68, hinv⟩ := hinv
    obtain ⟨u69, hinv⟩ := hinv
    obtain ⟨u70, hinv⟩ := hinv
    obtain ⟨u71, hinv⟩ := hinv
    obtain ⟨u72, hinv⟩ := hinv
    obtain ⟨u73, hinv⟩ := hinv
    obtain ⟨u74, hinv⟩ := hinv
    obtain ⟨u75, hinv⟩ := hinv
    obtain ⟨u76, hinv⟩ := hinv
    obtain ⟨u77, hinv⟩ := hinv
    obtain ⟨u78, hinv⟩ := hinv
    obtain ⟨u79, hinv⟩ := hinv
    obtain ⟨u80, hinv⟩ := hinv
    obtain ⟨u81, hinv⟩ := hinv
    obtain ⟨u82, hinv⟩ := hinv
    obtain ⟨u83, hinv⟩ := hinv
    obtain ⟨u84, hinv⟩ := hinv
    obtain ⟨ds, ha, hnum, hk, nums, gk, mk, out⟩ := hinv
    subst ha
    subst hnum
    intro J K hJ hK
    have d2 := cell_of_heap gk.b2 0 _ rfl
    have d3 := cell_of_heap gk.b3 0 _ rfl
    have d1 := cell_of_heap gk.b1 0 _ rfl
    have f3 := thaw_get gk.b3 0
    have f2 := thaw_get gk.b2 0
    have l2 := lt_of_get gk.b2
    have l3 := lt_of_get gk.b3
    have l1 := lt_of_get gk.b1
    have lg := gk.gp.2
    have GK := Lib.hid gk
    have MK := Lib.hid mk
    have OUT := Lib.hid out
    have HJ := Lib.hid hJ
    have HK := Lib.hid hK
    clear gk mk out hJ hK
    generalize hall : setsTo es (belBeds f) k0 = all at *
    have hall9 : all ≤ n := by rw [← hall]; exact Nat.le_trans (num_le_n _ _) hk
    have HALL := Lib.hid hall
    clear hall
    by_cases hlt : k0 < n
    · have hlt' : (k0 : Int) < (W : Int) * (H : Int) := by rw [HM.out]; omega
      obtain ⟨e1, e2⟩ := GK.out.own.cell GK.out.len hlt
      have e3 := e2 k0
      clear e2
      have hbl := BL.out V GK.out.bx.below k0 hlt
      have SKIP : Hid (belBeds f k0 = false ∨ nums.getD k0 0 ≠ -1 → ∀ V', (∃ z : Later V, V' = z.val) → ∃ nums', GKeep (.cells #[.int .i64 W, .int .i64 H, .slice (some ⟨b, off, none⟩) n cap] 24) (.func (.func 99) #[] #[.pointer (some ⟨bm, 0, none⟩)]) n (w.heap.size + 1 + 1 + 1 + 1 + 1) nums' (setsTo es (belBeds f) (k0 + 1)) (fun _ => False) w V' ∧ Marks ds (fun _ => False) w V' ∧ Outer es (belBeds f) n (fun i => nums'.getD i 0) (k0 + 1)) := by
        rintro hs V' ⟨z, rfl⟩
        obtain ⟨o1, o2⟩ := OUT.out.skip NET.out hlt hs
        refine ⟨nums, ?_, MK.out.later z, o1⟩
        rw [o2, HALL.out]
        exact GK.out.later z
      cases hb : belBeds f k0
      · have HB := Lib.hid hb
        rw [hb] at hbl
        have HBL := Lib.hid hbl
        clear hb hbl
        gi_wp2_with (gi_at_call 99; refine (callsIn_wide.2 (Gives.calls HBL.out)).mono ?_; rintro e w1 ⟨rfl, z, rfl⟩)
        refine HK.out _ _ (Handed.intro (n - (k0 + 1)) (by omega) (HJ.out _ _ _ ?_))
        obtain ⟨nums', g1, m1, o1⟩ := SKIP.out (.inl HB.out) _ ⟨z, rfl⟩
        refine ⟨k0 + 1, ?_⟩
        repeat apply Exists.intro
        exact ⟨rfl, rfl, by omega, nums', g1, m1, o1⟩
      · rw [hb] at hbl
        have HB := Lib.hid hb
        have HBL := Lib.hid hbl
        clear hb hbl
        obtain ⟨nv, hnv⟩ : ∃ nv, nums.getD k0 0 = nv := ⟨_, rfl⟩
        have HNV := Lib.hid hnv
        rw [hnv] at e1
        clear hnv
        by_cases hm : nv = -1
        · rw [hm] at e1 HNV
          clear hm
          clear SKIP
          obtain ⟨hroot, hdfs⟩ := OUT.out.begin NET.out hlt HB.out HNV.out
          have HROOT := Lib.hid hroot
          have HDFS := Lib.hid hdfs
          clear hroot hdfs
          gi_wp2_with (gi_at_call 99; refine (callsIn_wide.2 (Gives.calls HBL.out)).mono ?_; rintro e w1 ⟨rfl, z, rfl⟩)
          obtain ⟨cur, hcur⟩ := (GK.out.later z).own.block
          have gk1 := ((GK.out.later z).setN k0 all).begin_ k0 z.val.heap.size (by simp)
          have mk1 : Marks ds (fun _ => False) w (((z.val.setCell ⟨w.heap.size + 1 + 1 + 1 + 1 + 1, k0, none⟩ (.int .i64 all)).alloc (.cells #[.int .i64 k0] 3)).alloc (.cells #[.slice (some ⟨z.val.heap.size, 0, none⟩) 1 1] 22)) := ((MK.out.later z).set (j := k0) (v := .int .i64 all) hcur).later ⟨((z.val.setCell ⟨w.heap.size + 1 + 1 + 1 + 1 + 1, k0, none⟩ (.int .i64 all)).alloc (.cells #[.int .i64 k0] 3)).alloc (.cells #[.slice (some ⟨z.val.heap.size, 0, none⟩) 1 1] 22), by repeat (first | exact Below.refl _ _ | (with_reducible assumption) | apply below_later | apply below_alloc | apply below_drew | apply below_drewN)⟩
          have hdf : Dfs es (belBeds f) n (nxBeds W H) (fun i => (nums.set k0 all).getD i 0) k0 [k0] (fun _ => False) := by
            have h := HDFS.out
            rw [HALL.out] at h
            rw [set_fun (by rw [GK.out.len]; exact hlt)]
            exact h
          generalize z.val.heap.size + 1 = bA at *
          generalize (((z.val.setCell ⟨w.heap.size + 1 + 1 + 1 + 1 + 1, k0, none⟩ (.int .i64 all)).alloc (.cells #[.int .i64 k0] 3)).alloc (.cells #[.slice (some ⟨z.val.heap.size, 0, none⟩) 1 1] 22)) = V1 at *
          have hbd : 2 * unnum (fun i => (nums.set k0 all).getD i 0) n + [k0].length ≤ 2 * n := by
            rw [set_fun (by rw [GK.out.len]; exact hlt)]
            have u1 := unnum_upd (nm := fun k => nums.getD k 0) (v := (all : Int)) hlt HNV.out (by omega)
            have u2 := unnum_le (fun k => nums.getD k 0) n
            simp only [List.length_cons, List.length_nil]
            omega
          have HBD := Lib.hid hbd
          clear hbd
          have GK1 := Lib.hid gk1
          have MK1 := Lib.hid mk1
          have HDF := Lib.hid hdf
          clear gk1 mk1 hdf hcur
          refine wpIn_loop_ghost_k (fun num a V => ∃ (v5 v10 v11 v12 v13 v14 v15 v16 v17 v18 v19 v20 v21 v22 v25 v26 v27 v28 v29 v30 v31 v32 v33 v34 v35 v36 v37 v38 v39 v40 v41 v42 v43 v44 v45 v46 v47 v48 v49 v50 v51 v52 v53 v54 v55 v56 v57 v58 v59 v60 v61 v62 v63 v64 v65 v66 v67 v68 v69 v70 v71 v72 v73 v74 v75 v76 v77 v78 v79 v80 v81 v82 v83 v84 : Value) (ds2 : List Deferred), a = { tmps := #[.agg #[.int .i64 W, .int .i64 H, .slice (some ⟨b, off, none⟩) n cap], .func (.func 99) #[] #[.pointer (some ⟨bm, 0, none⟩)], .func (.func 100) #[] #[.pointer (some ⟨bm, 0, none⟩)], .pointer (some ⟨w.heap.size, 0, none⟩), .pointer (some ⟨w.heap.size + 1, 0, none⟩), v5, .pointer (some ⟨w.heap.size + 1 + 1, 0, none⟩), .pointer (some ⟨w.heap.size + 1 + 1 + 1, 0, none⟩), .int .i64 (k0 : Nat), .pointer (some ⟨bA, 0, none⟩), v10, v11, v12, v13, v14, v15, v16, v17, v18, v19, v20, v21, v22, .int .i64 ((W : Int) * (H : Int)), .int .i64 (k0 : Nat), v25, v26, v27, v28, v29, v30, v31, v32, v33, v34, v35, v36, v37, v38, v39, v40, v41, v42, v43, v44, v45, v46, v47, v48, v49, v50, v51, v52, v53, v54, v55, v56, v57, v58, v59, v60, v61, v62, v63, v64, v65, v66, v67, v68, v69, v70, v71, v72, v73, v74, v75, v76, v77, v78, v79, v80, v81, v82, v83, v84], defers := ds2 } ∧ ∃ (nums2 : List Int) (ah : List Nat) (va : Value), num = 2 * unnum (fun i => nums2.getD i 0) n + ah.length ∧ 2 * unnum (fun i => nums2.getD i 0) n + ah.length ≤ 2 * n ∧ AKeep (.cells #[.int .i64 W, .int .i64 H, .slice (some ⟨b, off, none⟩) n cap] 24) (.func (.func 99) #[] #[.pointer (some ⟨bm, 0, none⟩)]) n (w.heap.size + 1 + 1 + 1 + 1 + 1) nums2 all bA va ah (fun _ => False) w V ∧ Marks ds2 (fun _ => False) w V ∧ Dfs es (belBeds f) n (nxBeds W H) (fun i => nums2.getD i 0) k0 ah (fun _ => False)) (2 * unnum (fun i => (nums.set k0 all).getD i 0) n + [k0].length) ?start2 ?round2
          case start2 =>
            repeat apply Exists.intro
            exact ⟨rfl, _, _, _, rfl, HBD.out, GK1.out, MK1.out, HDF.out⟩
          case round2 =>
            intro num a V2 hinv
            obtain ⟨v5, hinv⟩ := hinv
            obtain ⟨v10, hinv⟩ := hinv
            obtain ⟨v11, hinv⟩ := hinv
            obtain ⟨v12, hinv⟩ := hinv
            obtain ⟨v13, hinv⟩ := hinv
            obtain ⟨v14, hinv⟩ := hinv
            obtain ⟨v15, hinv⟩ := hinv
            obtain ⟨v16, hinv⟩ := hinv
            obtain ⟨v17, hinv⟩ := hinv
            obtain ⟨v18, hinv⟩ := hinv
            obtain ⟨v19, hinv⟩ := hinv
            obtain ⟨v20, hinv⟩ := hinv
            obtain ⟨v21, hinv⟩ := hinv
            obtain ⟨v22, hinv⟩ := hinv
            obtain ⟨v25, hinv⟩ := hinv
            obtain ⟨v26, hinv⟩ := hinv
            obtain ⟨v27, hinv⟩ := hinv
            obtain ⟨v28, hinv⟩ := hinv
            obtain ⟨v29, hinv⟩ := hinv
            obtain ⟨v30, hinv⟩ := hinv
            obtain ⟨v31, hinv⟩ := hinv
            obtain ⟨v32, hinv⟩ := hinv
            obtain ⟨v33, hinv⟩ := hinv
            obtain ⟨v34, hinv⟩ := hinv
            obtain ⟨v35, hinv⟩ := hinv
            obtain ⟨v36, hinv⟩ := hinv
            obtain ⟨v37, hinv⟩ := hinv
            obtain ⟨v38, hinv⟩ := hinv
            obtain ⟨v39, hinv⟩ := hinv
            obtain ⟨v40, hinv⟩ := hinv
            obtain ⟨v41, hinv⟩ := hinv
            obtain ⟨v42, hinv⟩ := hinv
            obtain ⟨v43, hinv⟩ := hinv
            obtain ⟨v44, hinv⟩ := hinv
            obtain ⟨v45, hinv⟩ := hinv
            obtain ⟨v46, hinv⟩ := hinv
            obtain ⟨v47, hinv⟩ := hinv
            obtain ⟨v48, hinv⟩ := hinv
            obtain ⟨v49, hinv⟩ := hinv
            obtain ⟨v50, hinv⟩ := hinv
            obtain ⟨v51, hinv⟩ := hinv
            obtain ⟨v52, hinv⟩ := hinv
            obtain ⟨v53, hinv⟩ := hinv
            obtain ⟨v54, hinv⟩ := hinv
            obtain ⟨v55, hinv⟩ := hinv
            obtain ⟨v56, hinv⟩ := hinv
            obtain ⟨v57, hinv⟩ := hinv
            obtain ⟨v58, hinv⟩ := hinv
            obtain ⟨v59, hinv⟩ := hinv
            obtain ⟨v60, hinv⟩ := hinv
            obtain ⟨v61, hinv⟩ := hinv
            obtain ⟨v62, hinv⟩ := hinv
            obtain ⟨v63, hinv⟩ := hinv
            obtain ⟨v64, hinv⟩ := hinv
            obtain ⟨v65, hinv⟩ := hinv
            obtain ⟨v66, hinv⟩ := hinv
            obtain ⟨v67, hinv⟩ := hinv
            obtain ⟨v68, hinv⟩ := hinv
            obtain ⟨v69, hinv⟩ := hinv
            obtain ⟨v70, hinv⟩ := hinv
            obtain ⟨v71, hinv⟩ := hinv
            obtain ⟨v72, hinv⟩ := hinv
            obtain ⟨v73, hinv⟩ := hinv
            obtain ⟨v74, hinv⟩ := hinv
            obtain ⟨v75, hinv⟩ := hinv
            obtain ⟨v76, hinv⟩ := hinv
            obtain ⟨v77, hinv⟩ := hinv
            obtain ⟨v78, hinv⟩ := hinv
            obtain ⟨v79, hinv⟩ := hinv
            obtain ⟨v80, hinv⟩ := hinv
            obtain ⟨v81, hinv⟩ := hinv
            obtain ⟨v82, hinv⟩ := hinv
            obtain ⟨v83, hinv⟩ := hinv
            obtain ⟨v84, hinv⟩ := hinv
            obtain ⟨ds2, ha, nums2, ah, va, hnum, hbd, ak, mk2, df⟩ := hinv
            subst ha
            subst hnum
            intro J2 K2 hJ2 hK2
            have e9 := cell_of_heap ak.atA 0 _ rfl
            have f9 := thaw_get ak.atA 0
            have lA := lt_of_get ak.atA
            have c3 := cell_of_heap ak.gk.b3 0 _ rfl
            have g3 := thaw_get ak.gk.b3 0
            have k3 := lt_of_get ak.gk.b3
            have HJ2 := Lib.hid hJ2
            have HK2 := Lib.hid hK2
            have MK2 := Lib.hid mk2
            have DF := Lib.hid df
            clear hJ2 hK2 mk2 df
            clear d1 d2 d3 f2 f3 l1 l2 l3 lg e1 e3
            rcases List.eq_nil_or_concat ah with hah | ⟨ah', x, hah⟩
            · subst hah
              obtain ⟨A, cap2, hva⟩ := ak.own.shape_n (n := 0) rfl
              subst hva
              have AK := Lib.hid ak
              clear ak
              gi_wp2
              obtain ⟨o1, o2⟩ := DF.out.end_ NET.out hlt HROOT.out
              refine HK.out _ _ (Handed.intro (n - (k0 + 1)) (by omega) (HJ.out _ _ _ ?_))
              refine ⟨k0 + 1, ?_⟩
              repeat apply Exists.intro
              refine ⟨rfl, rfl, by omega, nums2, ?_, MK2.out.set AK.out.gk.b3, o1⟩
              rw [o2, HALL.out]
              exact AK.out.gk.setA (all + 1)
            · rw [List.concat_eq_append] at hah
              subst hah
              obtain ⟨m, hmm⟩ : ∃ m, ah'.length = m := ⟨_, rfl⟩
              have hlen : (natL (ah' ++ [x])).length = m + 1 := by rw [natL_length, List.length_append, hmm]; rfl
              have hlen2 : (ah' ++ [x]).length = m + 1 := by rw [List.length_append, hmm]; rfl
              obtain ⟨gA, cap2, hva, hgA, hgL, hcap⟩ := ak.own.form hlen (by omega)
              subst hva
              obtain ⟨ex, fx⟩ := ak.own.cell hlen (show m < m + 1 by omega)
              have el := natL_last ah' x
              rw [hmm] at el
              rw [el] at ex
              have ocut := ak.own.cut (j := m) (by omega)
              rw [← natL_take, List.take_left' hmm] at ocut
              have hbd2 : 2 * unnum (fun i => nums2.getD i 0) n + m + 1 ≤ 2 * n := by rw [hlen2] at hbd; omega
              have akp := ak.put ocut (fun g' hg => ak.no g' hg)
              have hxn := (DF.out.st x (by simp)).1
              have hxm := (DF.out.st x (by simp)).2
              have mkp := MK2.out.set (j := 0) (v := .slice (some ⟨gA, 0, none⟩) m cap2) ak.atA
              have AK := Lib.hid ak
              have AKP := Lib.hid akp
              have MKP := Lib.hid mkp
              have HXM := Lib.hid hxm
              have HLEN2 := Lib.hid hlen2
              have HMM := Lib.hid hmm
              clear ak akp mkp ocut hlen hlen2 el hmm fx hbd hxm
              gi_wp2_with fail
              obtain ⟨V3, hV3⟩ : ∃ V3, V2.setCell ⟨bA, 0, none⟩ (.slice (some ⟨gA, 0, none⟩) m cap2) = V3 := ⟨_, rfl⟩
              rw [hV3] at AKP MKP ⊢
              clear hV3
              refine (callsIn_wide.2 (NX.out V3 AKP.out.gk.bx.below x)).mono ?_
              rintro e w' ⟨rfl, rfl⟩
              gi_wp2_with fail
              have hxn2 : x < W * H := by rw [← HN.out]; exact hxn
              have hbl3 := AKP.out.gk.bx.below.size
              have onW : Only (fun _ => False) V3 ((V3.alloc (.cells #[.int .i64 W, .int .i64 H, .slice (some ⟨b, off, none⟩) n cap] 24)).alloc (.cells #[.int .i64 x] 3)) := (Only.alloc _ _ _).trans (Only.alloc _ _ _)
              have tkW : Takes (fun _ => False) (fun b => b = V3.heap.size + 1 ∨ b = V3.heap.size) V3 ((V3.alloc (.cells #[.int .i64 W, .int .i64 H, .slice (some ⟨b, off, none⟩) n cap] 24)).alloc (.cells #[.int .i64 x] 3)) := ⟨fun _ k => k.elim, fun b k => .inr (by simp; omega)⟩
              have hgi : GInv (.cells #[.int .i64 W, .int .i64 H, .slice (some ⟨b, off, none⟩) n cap] 24) (.func (.func 99) #[] #[.pointer (some ⟨bm, 0, none⟩)]) n (w.heap.size + 1 + 1 + 1 + 1 + 1) all bA es (belBeds f) (nxBeds W H) k0 x (2 * unnum (fun i => nums2.getD i 0) n + m) ds2 w (fun b => b = V3.heap.size + 1 ∨ b = V3.heap.size) 0 ((V3.alloc (.cells #[.int .i64 W, .int .i64 H, .slice (some ⟨b, off, none⟩) n cap] 24)).alloc (.cells #[.int .i64 x] 3)) :=
                ⟨nums2, ah', _, AKP.out.stab tkW onW, MKP.out.stab tkW onW, DF.out.pop, HXM.out, by rw [HMM.out]; exact Nat.le_refl _⟩
              have it := iterBeds W H x hW hW2 hH hxn2 (some ⟨b, off, none⟩) n cap V3
              have szW : ((V3.alloc (.cells #[.int .i64 W, .int .i64 H, .slice (some ⟨b, off, none⟩) n cap] 24)).alloc (.cells #[.int .i64 x] 3)).heap.size = V3.heap.size + 2 := by simp
              obtain ⟨V4, hV4⟩ : ∃ V4, (V3.alloc (.cells #[.int .i64 W, .int .i64 H, .slice (some ⟨b, off, none⟩) n cap] 24)).alloc (.cells #[.int .i64 x] 3) = V4 := ⟨_, rfl⟩
              rw [hV4] at it hgi szW ⊢
              have IT := Lib.hid it
              have HGI := Lib.hid hgi
              have SZW := Lib.hid szW
              clear it hgi onW tkW szW hV4 e9 f9 ex lA c3 g3 k3
              refine' range_law (gf := 109) (lb := lbBeds V3.heap.size) rfl (enters_of Tryd.func109 (by kernel_rfl) rfl)
                IT.out (fun y hy => by rw [SZW.out]; omega) (fun k hk => valsOf_size hk)
                (GInv (.cells #[.int .i64 W, .int .i64 H, .slice (some ⟨b, off, none⟩) n cap] 24) (.func (.func 99) #[] #[.pointer (some ⟨bm, 0, none⟩)]) n (w.heap.size + 1 + 1 + 1 + 1 + 1) all bA es (belBeds f) (nxBeds W H) k0 x (2 * unnum (fun i => nums2.getD i 0) n + m) ds2 w)
                (fun _ _ _ _ => False)
                (fun S T k V V' h ht ho => h.stab ht ho) (fun _ _ _ _ _ _ h _ _ => h.elim) HGI.out _ ?assign ?body ?done ?stop
              case assign =>
                intro l2 k V5 K5 hk hK5
                rw [valsOf_length] at hk
                rw [valsOf_at hk]
                gi_wp2
                exact hK5
              case body =>
                rintro l2 T k V5 hk ⟨nums3, ah3, va3, ak3, mk3, df3, hx3, hm3⟩
                rw [valsOf_length] at hk
                have hx := nthL_at hk
                obtain ⟨near, hnear⟩ : ∃ near, nthL (nxBeds W H x) k = near := ⟨_, rfl⟩
                rw [hnear] at hx ⊢
                clear hnear
                have hnn : near < n := by rw [HN.out]; exact nxBeds_lt (List.mem_of_getElem? hx)
                have HX := Lib.hid hx
                have bln := BL.out V5 ak3.gk.bx.below near hnn
                have d1 := cell_of_heap ak3.gk.b1 0 _ rfl
                have d2 := cell_of_heap ak3.gk.b2 0 _ rfl
                have d3 := cell_of_heap ak3.gk.b3 0 _ rfl
                have dA := cell_of_heap ak3.atA 0 _ rfl
                have fA := thaw_get ak3.atA 0
                have l1 := lt_of_get ak3.gk.b1
                have l2' := lt_of_get ak3.gk.b2
                have l3 := lt_of_get ak3.gk.b3
                have lA := lt_of_get ak3.atA
                have gp := ak3.gk.gp
                obtain ⟨en, fn⟩ := ak3.gk.own.cell ak3.gk.len hnn
                have fn0 := fn near
                obtain ⟨nv3, hnv3⟩ : ∃ nv3, nums3.getD near 0 = nv3 := ⟨_, rfl⟩
                have HNV3 := Lib.hid hnv3
                rw [hnv3] at en
                have AK3 := Lib.hid ak3
                have MK3 := Lib.hid mk3
                have DF3 := Lib.hid df3
                have HX3 := Lib.hid hx3
                clear hx hnv3 ak3 mk3 df3 hx3 fn
                have LEAVE : Hid (belBeds f near = false ∨ nv3 ≠ -1 → ∀ z3 : Later V5, leftBy (GInv (.cells #[.int .i64 W, .int .i64 H, .slice (some ⟨b, off, none⟩) n cap] 24) (.func (.func 99) #[] #[.pointer (some ⟨bm, 0, none⟩)]) n (w.heap.size + 1 + 1 + 1 + 1 + 1) all bA es (belBeds f) (nxBeds W H) k0 x (2 * unnum (fun i => nums2.getD i 0) n + m) ds2 w) (fun _ _ _ _ => False) T k V5 .normal { tmps := #[], defers := [] } z3.val) := fun hor z3 => by
                  rw [← HNV3.out] at hor
                  exact ⟨Kept.later z3, nums3, ah3, va3, AK3.out.later z3, MK3.out.later z3, DF3.out.leave NET.out hxn HX3.out HX.out hor, HX3.out, hm3⟩
                cases hbn : belBeds f near
                · rw [hbn] at bln
                  have LV := Lib.hid (LEAVE.out (.inl hbn))
                  have BLN := Lib.hid bln
                  clear hbn bln LEAVE
                  gi_wp2_with (gi_at_call 99; refine (CallsIn.inRound l2 (callsIn_wide.2 (Gives.calls BLN.out))).mono ?_; rintro e w1 ⟨rfl, z3, rfl⟩)
                  exact LV.out z3
                · rw [hbn] at bln
                  have HBN := Lib.hid hbn
                  have BLN := Lib.hid bln
                  clear hbn bln
                  by_cases hv3 : nv3 = -1
                  · rw [hv3] at en HNV3
                    clear hv3 LEAVE
                    obtain ⟨i0, hi0, hz0, hz1, hz2⟩ := info_int
                    gi_upto_region 15 with (gi_at_call 99; refine (CallsIn.inRound l2 (callsIn_wide.2 (Gives.calls BLN.out))).mono ?_; rintro e w1 ⟨rfl, z3, rfl⟩)
                    obtain ⟨cur5, hcur5⟩ := (AK3.out.later z3).gk.own.block
                    have ak4 := (AK3.out.later z3).setN near all
                    have mk4 := (MK3.out.later z3).set (j := near) (v := .int .i64 all) hcur5
                    have kp4 := (Kept.later (S := T) z3).trans (Kept.setCell (p := ⟨w.heap.size + 1 + 1 + 1 + 1 + 1, near, none⟩) (.int .i64 all) AK3.out.gk.no)
                    have vis := DF3.out.visit NET.out hxn HX3.out HX.out HBN.out HNV3.out
                    have hu := unnum_upd (nm := fun i => nums3.getD i 0) (v := ((setsTo es (belBeds f) k0 : Nat) : Int)) hnn HNV3.out (by omega)
                    rw [HALL.out] at vis hu
                    have hnx : (nums3.set near (all : Int)).getD x 0 = ((setsTo es (belBeds f) k0 : Nat) : Int) := by
                      rw [getD_set (by rw [AK3.out.gk.len]; exact hnn), HALL.out]
                      by_cases e : x = near
                      · rw [e]; exact upd_same _ _ _
                      · rw [upd_ne _ _ e, HX3.out, HALL.out]
                    obtain ⟨V6, hV6⟩ : ∃ V6, z3.val.setCell ⟨w.heap.size + 1 + 1 + 1 + 1 + 1, near, none⟩ (.int .i64 all) = V6 := ⟨_, rfl⟩
                    rw [hV6] at ak4 mk4 kp4 ⊢
                    have sz6 := kp4.size
                    have AK4 := Lib.hid ak4
                    have MK4 := Lib.hid mk4
                    have KP4 := Lib.hid kp4
                    have VIS := Lib.hid vis
                    have HU := Lib.hid hu
                    have HNX := Lib.hid hnx
                    have dA := cell_of_heap AK4.out.atA 0 _ rfl
                    have fA := thaw_get AK4.out.atA 0
                    have lA := lt_of_get AK4.out.atA
                    have hown5 := own_row (n := ah3.length) AK4.out.own (natL_length _)
                    clear hV6 hcur5 ak4 mk4 kp4 vis hu hnx d1 d2 d3 l1 l2' l3 en fn0
                    obtain ⟨i0, hi0, hz0, hz1, hz2⟩ := info_int
                    gi_wp2_with (gi_at_builtin; refine wpListIn_append_own_at _ rfl _ _ 22 rfl (w.heap.size + 4) 3 i0 (.int .i64 0) 1 8 Tryd.underlying22 hi0 hz0 hz1 hz2 rfl (by decide) _ _ _ rfl (hown5.alloc _) ⟨V6.heap.size, 0, none⟩ 1 1 [.int .i64 near] rfl rfl ?c1 ?c2 ?c3 ?c4 ?c5 ?_)
                    case c1 =>
                      intro j u hj
                      match j, hj with
                      | 0, hj => simp at hj; subst hj; simp [Addr.add]
                    case c2 => intro u hu; simp at hu; subst hu; rfl
                    case c3 => unfold maxLen; omega
                    case c4 => omega
                    case c5 => simp; omega
                    intro vv5 w5 hown6 hgrow _ hat
                    have ho6 : OwnI w5 (w.heap.size + 4) vv5 (natL (ah3 ++ [near])) := by
                      unfold OwnI
                      rw [natL_append, cellsI_append, List.length_append, natL_length]
                      exact hown6
                    obtain ⟨A6, cap6, hvv⟩ := ho6.shape_n (n := ah3.length + 1) (by rw [natL_length, List.length_append]; rfl)
                    subst hvv
                    obtain ⟨r1, r2, r3, r4⟩ := AK4.out.grown hgrow ho6 (by rw [World.size_alloc]; exact hat)
                    have r5 := AK4.out.marks MK4.out hgrow (.slice A6 (ah3.length + 1) cap6)
                    have R1 := Lib.hid r1
                    have R2 := Lib.hid r2
                    have R5 := Lib.hid r5
                    have dA2 := cell_of_heap r3 0 _ rfl
                    have fA2 := thaw_get r3 0
                    clear hown6 hgrow hat ho6 r1 r2 r5 hown5 dA fA lA
                    gi_wp2
                    have hset : (fun i => (nums3.set near (all : Int)).getD i 0) = upd (fun k => nums3.getD k 0) near all := set_fun (by rw [AK3.out.gk.len]; exact hnn)
                    have hset1 : ∀ j, (nums3.set near (all : Int)).getD j 0 = upd (fun k => nums3.getD k 0) near all j := fun j => congrFun hset j
                    refine ⟨KP4.out.trans R2.out, nums3.set near all, ah3 ++ [near], _, R1.out, R5.out, ?_, HNX.out, ?_⟩
                    · simp only [hset, hset1, HALL.out]
                      exact VIS.out.2
                    · rw [hset, List.length_append]
                      have := HU.out
                      simp only [List.length_cons, List.length_nil]
                      omega
                  · have hv4 : (nv3 == -1) = false := by simpa using hv3
                    have LV := Lib.hid (LEAVE.out (.inr hv3))
                    clear hv3 LEAVE
                    gi_wp2_with (gi_at_call 99; refine (CallsIn.inRound l2 (callsIn_wide.2 (Gives.calls BLN.out))).mono ?_; rintro e w1 ⟨rfl, z3, rfl⟩)
                    exact LV.out z3
              case done =>
                rintro D T V5 hD hTD hT0 ⟨nums3, ah3, va3, ak3, mk3, df3, hx3, hm3⟩ hKD
                rw [valsOf_length] at df3
                refine HK2.out _ _ (Handed.intro (2 * unnum (fun i => nums3.getD i 0) n + ah3.length) (by have := HLEN2.out; omega) (HJ2.out _ _ _ ?_))
                repeat apply Exists.intro
                exact ⟨rfl, nums3, ah3, va3, rfl, by have := HLEN2.out; omega, ak3.free, mk3.cons hTD hKD (by have := SZW.out; omega), df3.done (Nat.le_refl _)⟩
              case stop => rintro _ _ _ _ _ _ _ _ _ h; exact h.elim
        · have hm2 : (nv != -1) = true := by simpa using hm
          have HM1 := Lib.hid (show nums.getD k0 0 ≠ -1 by rw [HNV.out]; exact hm)
          clear hm HNV
          gi_wp2_with (gi_at_call 99; refine (callsIn_wide.2 (Gives.calls HBL.out)).mono ?_; rintro e w1 ⟨rfl, z, rfl⟩)
          refine HK.out _ _ (Handed.intro (n - (k0 + 1)) (by omega) (HJ.out _ _ _ ?_))
          obtain ⟨nums', g1, m1, o1⟩ := SKIP.out (.inr HM1.out) _ ⟨z, rfl⟩
          refine ⟨k0 + 1, ?_⟩
          repeat apply Exists.intro
          exact ⟨rfl, rfl, by omega, nums', g1, m1, o1⟩
    · obtain rfl : k0 = n := by omega
      have hlt' : ¬ (k0 : Int) < (W : Int) * (H : Int) := by rw [HM.out]; omega
      gi_wp2_with fail
      gi_region
      gi_wp2
      have hb2 : ((V.setCell ⟨w.heap.size + 1 + 1, 0, none⟩ (.slice (some ⟨w.heap.size + 1 + 1 + 1 + 1 + 1, 0, none⟩) k0 k0)).setCell ⟨w.heap.size + 1 + 1 + 1, 0, none⟩ (.int .i64 all)).heap[w.heap.size + 1 + 1]? = some (.cells #[.slice (some ⟨w.heap.size + 1 + 1 + 1 + 1 + 1, 0, none⟩) k0 k0] 22) :=
        (Below.heap_setCell _ _ _ _ (by simp)).trans (one_setCell GK.out.b2)
      have hb3 : ((V.setCell ⟨w.heap.size + 1 + 1, 0, none⟩ (.slice (some ⟨w.heap.size + 1 + 1 + 1 + 1 + 1, 0, none⟩) k0 k0)).setCell ⟨w.heap.size + 1 + 1 + 1, 0, none⟩ (.int .i64 all)).heap[w.heap.size + 1 + 1 + 1]? = some (.cells #[.int .i64 all] 3) :=
        one_setCell ((Below.heap_setCell _ _ _ _ (by simp)).trans GK.out.b3)
      have ho := (GK.out.own.far (p := ⟨w.heap.size + 1 + 1, 0, none⟩) (u := .slice (some ⟨w.heap.size + 1 + 1 + 1 + 1 + 1, 0, none⟩) k0 k0) (fun g hg => by simp [Value.ownBlock] at hg; simp; omega)).far (p := ⟨w.heap.size + 1 + 1 + 1, 0, none⟩) (u := .int .i64 all) (fun g hg => by simp [Value.ownBlock] at hg; simp; omega)
      have hm := (MK.out.set (j := 0) (v := .slice (some ⟨w.heap.size + 1 + 1 + 1 + 1 + 1, 0, none⟩) k0 k0) GK.out.b2).set (j := 0) (v := .int .i64 all) ((Below.heap_setCell _ _ _ _ (by simp)).trans GK.out.b3)
      have hbb := (GK.out.bx.below.setCell (p := ⟨w.heap.size + 1 + 1, 0, none⟩) (by simp; omega) (.slice (some ⟨w.heap.size + 1 + 1 + 1 + 1 + 1, 0, none⟩) k0 k0)).setCell (p := ⟨w.heap.size + 1 + 1 + 1, 0, none⟩) (by simp; omega) (.int .i64 all)
      generalize (V.setCell ⟨w.heap.size + 1 + 1, 0, none⟩ (.slice (some ⟨w.heap.size + 1 + 1 + 1 + 1 + 1, 0, none⟩) k0 k0)).setCell ⟨w.heap.size + 1 + 1 + 1, 0, none⟩ (.int .i64 all) = V9 at *
      refine leaves_marks ds V9.drew (hm.stab (Takes.refl _ _) (Only.drew _ _)) hbb.drew fun V' hV' hk' => ?_
      obtain ⟨cur9, hcur9⟩ := ho.block
      have r2 := cell_of_heap (hk' _ _ _ _ hb2) 0 _ rfl
      have r3 := cell_of_heap (hk' _ _ _ _ hb3) 0 _ rfl
      refine ⟨.tuple #[.slice (some ⟨w.heap.size + 1 + 1 + 1 + 1 + 1, 0, none⟩) k0 k0, .int .i64 all], by simp [results, Tryd.results74, go_sem, r2, r3], ?_⟩
      refine ⟨_, nums, by rw [HALL.out], ⟨V', hV'⟩, rfl, (ho.drew.moved fun g hg => ?_).mono (by omega), GK.out.len, fun i hi => OUT.out.whole hi⟩
      obtain rfl : g = w.heap.size + 1 + 1 + 1 + 1 + 1 := by simpa [Value.ownBlock] using hg.symm
      exact (hk' _ _ _ _ hcur9).trans hcur9.symm
end Go.Proofs.YtajfepogecakbaaDoor
