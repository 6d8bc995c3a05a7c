/- wale's worths: the table of greatest worths. -/
import Derived.Test.YtnjloomhhgilcaaWTab
namespace Go.Proofs.Ytnjloomhhgilcaa
open Go.RowKit

set_option maxRecDepth 100000 in
set_option maxHeartbeats 6400000 in
theorem worths_any (n m cap years : Nat) (A : Option Addr) (f t : Nat → Nat) (V : Nat → Int) (w : World) (hy : years ≤ 100) (R : Rot n m f t V) (hp : IsChs w A m (fun i => (f i : Int)) (fun i => (t i : Int)) V) :
    Calls Try.prog 36 #[.agg #[.int .i64 n, .slice A m cap], .int .i64 years] w fun e w' => ∃ v, e = .returned v ∧ ∃ x : Later w, w' = x.val ∧ Tab w' w.heap.size v (years + 1) n (wrow n m f t V) := by
  have hn1 := R.n1
  have hn8 := R.n8
  have hm40 := R.m40
  have HR := Lib.hid R
  have hb : Below w.heap.size w (w.alloc (.cells #[.int .i64 n, .slice A m cap] 75)) := (Below.refl _ _).alloc (Nat.le_refl _) _
  have HP : Hid (IsChs (w.alloc (.cells #[.int .i64 n, .slice A m cap] 75)) A m (fun i => (f i : Int)) (fun i => (t i : Int)) V) := hp.later ⟨_, hb⟩
  have HB := Lib.hid hb
  obtain ⟨c0, c1, l0⟩ := box2 w (.int .i64 n) (.slice A m cap) 75
  have MK : ∀ w', (Instr.makeSlice 30 (.int .i64 (n : Int)) (.int .i64 (n : Int))).run Try.prog w' = .ok (.slice (some ⟨w'.heap.size, 0, none⟩) n n) (w'.alloc (.cells (madeCells #[Value.int .i64 0] n) 3)) := fun w' => make_ints w' n (by omega)
  have hb0 : w.heap.size ≤ (w.alloc (.cells #[.int .i64 n, .slice A m cap] 75)).heap.size := hb.size
  have RP : Hid (∀ (w : World) (g0 : Nat), w.cell? ⟨g0, 0, none⟩ = some (.int .i64 (-9223372036854775808)) → Calls Try.prog 55 #[.slice (some ⟨g0, 0, none⟩) 1 1, .int .i64 n] w fun e w' => ∃ g, e = .returned (.slice (some ⟨g, 0, none⟩) n n) ∧ g = w.heap.size ∧ ∃ y : Later w, w' = y.val ∧ OwnI w' w.heap.size (.slice (some ⟨g, 0, none⟩) n n) (List.replicate n (-9223372036854775808))) := fun w g0 h => repeat_any g0 0 1 n _ w hn1 (by omega) h
  obtain ⟨i0, hi0, hz0, hz1, hz2⟩ := info_list
  clear hp hb R
  go_enter Try.func36, Try.ntmps36
  go_wp2
  have hz : (w.alloc (.cells #[.int .i64 n, .slice A m cap] 75)).heap.size = w.heap.size + 1 := by simp
  obtain ⟨b8, hb8⟩ : ∃ b8, w.heap.size = b8 := ⟨_, rfl⟩
  have HB8 := Lib.hid hb8
  rw [hb8] at c0 c1 l0 hb0 hz ⊢
  clear hb8
  generalize w.alloc (.cells #[.int .i64 n, .slice A m cap] 75) = Z at *
  have HZ := Lib.hid hz
  have hT : Hid (Tab ((Z.alloc (.cells (madeCells #[Value.int .i64 0] n) 3)).alloc (.cells #[.slice (some ⟨b8 + 1, 0, none⟩) n n] 30)) (b8 + 1) (.slice (some ⟨b8 + 1 + 1, 0, none⟩) 1 1) 1 n (wrow n m f t V)) := by
    have h1 := made_own Z n (b8 + 1) (by omega) (by omega)
    rw [hz] at h1
    have h2 := Tab.head (rows := wrow n m f t V) (b8 + 1) h1 (by simp [wrow]) (by simp; omega)
    rw [World.size_alloc, hz] at h2
    exact h2
  clear MK hz
  go_loopw [5, 16] (fun u v wr => ∃ y : Nat, v = .int .i64 (y : Nat) ∧ y ≤ years ∧ (∃ x : Later Z, wr = x.val) ∧ Tab wr (b8 + 1) u (y + 1) n (wrow n m f t V)) (fun _ v _ => years - (intOf v).toNat)
  case atStart => exact ⟨0, rfl, by omega, later_of (by repeat (first | exact Below.refl _ _ | (with_reducible assumption) | apply below_later | apply below_alloc | apply below_drew | apply below_drewN)), hT.out⟩
  case round =>
    obtain ⟨y, rfl, hyy, ⟨Y, rfl⟩, ht⟩ := hrel
    clear hT
    by_cases hlt : y < years
    · obtain ⟨go, co, rfl, hg1, hg2, hrows⟩ := ht.form (by omega)
      obtain ⟨gr, cgr, lgr, ogr, hlr⟩ := hrows y (by omega)
      have HT := Lib.hid ht
      have d0 := (Y.cell _ _ l0).trans c0
      have d1 := (Y.cell _ _ l0).trans c1
      have l1 := Y.lt _ l0
      have HPY : Hid (IsChs Y.val A m (fun i => (f i : Int)) (fun i => (t i : Int)) V) := HP.out.later Y
      have OGR := Lib.hid ogr
      have SM := Lib.hid (wrow_small HR.out y (by omega))
      have HLR := Lib.hid hlr
      have HBY : Hid (Below w.heap.size w Y.val) := below_later HB.out
      have YZ : Hid (Below Z.heap.size Z Y.val) := Y.ok
      have lb8 : b8 < Y.val.heap.size := l1
      clear ht hrows hlr ogr
      generalize Y.val = U at *
      have cu : (U.alloc (.cells #[.int .i64 (-9223372036854775808)] 3)).cell? ⟨U.heap.size, 0, none⟩ = some (.int .i64 (-9223372036854775808)) := cell_of_heap (World.alloc_heap_new _ _) 0 _ rfl
      have RP1 := Lib.hid (RP.out _ _ cu)
      clear cu
      go_wp2_with (go_at_call 55; refine Calls.mono RP1.out ?_; rintro e w1 ⟨g, rfl, hg, z, rfl, ho⟩)
      obtain rfl : g = U.heap.size + 1 := by rw [hg]; simp
      have hbz : Below U.heap.size U z.val := by repeat (first | exact Below.refl _ _ | (with_reducible assumption) | apply below_later | apply below_alloc | apply below_drew | apply below_drewN)
      have HO : Hid (OwnI z.val (U.heap.size + 1) (.slice (some ⟨U.heap.size + 1, 0, none⟩) n n) (relax n f t V (wrow n m f t V y) 0)) := ho.mono (by simp)
      clear ho hg
      go_loopw [26] (fun v wr => ∃ k : Nat, v = .int .i64 (k : Nat) ∧ k ≤ m ∧ (∃ x : Later U, wr = x.val) ∧ OwnI wr (U.heap.size + 1) (.slice (some ⟨U.heap.size + 1, 0, none⟩) n n) (relax n f t V (wrow n m f t V y) k)) (fun v _ => m - (intOf v).toNat)
      case atStart => exact ⟨0, rfl, by omega, ⟨⟨_, hbz⟩, rfl⟩, HO.out⟩
      case round =>
        obtain ⟨k, rfl, hk, ⟨X, rfl⟩, ho⟩ := hrel
        clear HO
        have HO := Lib.hid ho
        clear ho
        by_cases hkm : k < m
        · obtain ⟨ba, oa, hA, p⟩ := (HPY.out.later X).at_ (by omega)
          rw [hA]
          clear hA
          have hfk := HR.out.f k hkm
          have htk := HR.out.t k hkm
          have cf := p.f k hkm
          have ct := p.t k hkm
          have cv := p.v k hkm
          have lp := p.lt
          obtain ⟨e0, e1, e2, e3⟩ := box3 X.val (.int .i64 (f k)) (.int .i64 (t k)) (.int .i64 (V k)) 50
          have hbx : Below X.val.heap.size X.val (X.val.alloc (.cells #[.int .i64 (f k), .int .i64 (t k), .int .i64 (V k)] 50)) := (Below.refl _ _).alloc (Nat.le_refl _) _
          have hbs : Below U.heap.size U (X.val.alloc (.cells #[.int .i64 (f k), .int .i64 (t k), .int .i64 (V k)] 50)) := below_more X.ok hbx
          have HOS : Hid (OwnI (X.val.alloc (.cells #[.int .i64 (f k), .int .i64 (t k), .int .i64 (V k)] 50)) (U.heap.size + 1) (.slice (some ⟨U.heap.size + 1, 0, none⟩) n n) (relax n f t V (wrow n m f t V y) k)) := HO.out.alloc _
          have q0 := (hbs.cell (p := ⟨b8, 0, none⟩) l1).trans d0
          have q1 := (hbs.cell (p := ⟨b8, 1, none⟩) l1).trans d1
          have q2 := (hbs.cell (p := ⟨go, y, none⟩) hg2).trans cgr
          have q3 := (hbs.cell (p := ⟨gr, t k, none⟩) lgr).trans (OGR.out.cell HLR.out htk).1
          have HBS := Lib.hid hbs
          have q4 := Nat.lt_of_lt_of_le l1 hbs.size
          have q5 := Nat.lt_of_lt_of_le hg2 hbs.size
          have q6 := Nat.lt_of_lt_of_le lgr hbs.size
          obtain ⟨q7, q8⟩ := HOS.out.cell (relax_length ..) hfk
          have q9 := (own_lt HOS.out _ rfl).2
          have fz := q8 (f k)
          clear p hbx hbs q8
          have X1 := X.lt _ l1
          have X2 := (X.cell _ 1 l1).trans d1
          go_wp2_with fail
          obtain ⟨b9, hb9⟩ : ∃ b9, X.val.heap.size = b9 := ⟨_, rfl⟩
          rw [hb9] at e0 e1 e2 e3 ⊢
          clear hb9
          generalize X.val.alloc (.cells #[.int .i64 (f k), .int .i64 (t k), .int .i64 (V k)] 50) = VS at *
          have HBX : Hid (Below U.heap.size U VS) := HBS.out
          have S1 := SM.out (t k) htk
          have S2 := relax_small HR.out (c := 1000 * (y : Int)) (by omega) (by omega) SM.out k hk (f k) hfk
          obtain ⟨v1, v2⟩ := HR.out.v k hkm
          have HNX : Hid (relax n f t V (wrow n m f t V y) (k + 1) = if (wrow n m f t V y).getD (t k) 0 = nope then relax n f t V (wrow n m f t V y) k else (relax n f t V (wrow n m f t V y) k).set (f k) (max ((relax n f t V (wrow n m f t V y) k).getD (f k) 0) (V k + (wrow n m f t V y).getD (t k) 0))) := rfl
          generalize (wrow n m f t V y).getD (t k) 0 = r at *
          generalize (relax n f t V (wrow n m f t V y) k).getD (f k) 0 = x0 at *
          unfold nope at S1 S2 HNX
          by_cases hr : r = -9223372036854775808
          · have HN2 : Hid (relax n f t V (wrow n m f t V y) (k + 1) = relax n f t V (wrow n m f t V y) k) := by show _ = _; rw [HNX.out, if_pos hr]
            have er : (r != -9223372036854775808) = false := by simp [hr]
            clear S1 S2 HNX
            refine wp_region_later (by kernel_rfl) (by kernel_rfl) ?_
            repeat (go_big_quiet_step ((fail)))
            refine wpQuiet_nil ?_
            intro q
            go_wp2_with fail
            go_roundw
            case rel => exact ⟨k + 1, by go_num, by omega, ⟨⟨q.val, below_more HBX.out q.ok⟩, rfl⟩, by rw [HN2.out]; exact HOS.out.later q⟩
            case measure => simp [intOf]; omega
          · have HN2 : Hid (relax n f t V (wrow n m f t V y) (k + 1) = (relax n f t V (wrow n m f t V y) k).set (f k) (max x0 (V k + r))) := by show _ = _; rw [HNX.out, if_neg hr]
            have er : (r != -9223372036854775808) = true := by simp [hr]
            have S3 := S1.resolve_left hr
            obtain ⟨s1, s2⟩ := S3
            have w1 : IntKind.i64.wrap (V k + r) = V k + r := IntWalk.i64_in _ ⟨by omega, by omega⟩
            clear S1 HNX
            refine wp_region_later (by kernel_rfl) (by kernel_rfl) ?_
            repeat (go_big_quiet_step ((fail)))
            refine wpQuiet_nil ?_
            intro q
            go_wp2_with fail
            have g0 := (q.cell _ _ e3).trans e0
            have g2 := (q.cell _ _ e3).trans e2
            have g3 := q.lt _ e3
            have g7 := (q.cell _ _ q9).trans q7
            have g8 := (q.frozen _ (f k) q9).trans fz
            have g9 := q.lt _ q9
            have HQ : Hid (Below U.heap.size U q.val) := below_more HBX.out q.ok
            have HOQ := Lib.hid (HOS.out.later q)
            clear e0 e1 e2 e3 q0 q1 q2 q3 q4 q5 q6 q7 q9 fz HBX HBS HOS X1 X2 cf ct cv lp d0 d1 l0 c0 c1 l1 hg2 cgr lgr
            generalize q.val = VQ at *
            rcases Int.lt_or_le x0 (V k + r) with hmx | hmx
            · have em : max x0 (V k + r) = V k + r := by omega
              rw [em] at HN2
              go_region
              go_wp2_with fail
              go_roundw
              case rel => exact ⟨k + 1, by go_num, by omega, ⟨⟨_, below_drew (HQ.out.setCell (by simp) _)⟩, rfl⟩, by rw [HN2.out]; exact HOQ.out.set (relax_length ..) _ _⟩
              case measure => simp [intOf]; omega
            · have em : max x0 (V k + r) = x0 := by omega
              rw [em] at HN2
              go_region
              go_wp2_with fail
              go_roundw
              case rel => exact ⟨k + 1, by go_num, by omega, ⟨⟨_, below_drew (HQ.out.setCell (by simp) _)⟩, rfl⟩, by rw [HN2.out]; exact HOQ.out.set (relax_length ..) _ _⟩
              case measure => simp [intOf]; omega
        · obtain rfl : k = m := by omega
          have HO2 : Hid (OwnI X.val (U.heap.size + 1) (.slice (some ⟨U.heap.size + 1, 0, none⟩) n n) (wrow n k f t V (y + 1))) := HO.out
          have hbu : Below U.heap.size U (X.val.alloc (.cells #[.slice (some ⟨U.heap.size + 1, 0, none⟩) n n] 30)) := below_more X.ok ((Below.refl _ _).alloc (Nat.le_refl _) _)
          have HTX : Hid (Tab (X.val.alloc (.cells #[.slice (some ⟨U.heap.size + 1, 0, none⟩) n n] 30)) (b8 + 1) (.slice (some ⟨go, 0, none⟩) (y + 1) co) (y + 1) n (wrow n k f t V)) := HT.out.later ⟨_, hbu⟩
          have HOX : Hid (OwnI (X.val.alloc (.cells #[.slice (some ⟨U.heap.size + 1, 0, none⟩) n n] 30)) (b8 + 1) (.slice (some ⟨U.heap.size + 1, 0, none⟩) n n) (wrow n k f t V (y + 1))) := (HO2.out.mono (by omega)).alloc _
          have HBU := Lib.hid hbu
          obtain ⟨gs, h1, h2⟩ := HTX.out
          have H2 := Lib.hid h2
          have hsz := hbu.size
          clear hbu h2 HO cgr
          go_wp2_with (at_builtin; (refine wpList_append_own_at _ rfl _ _ 73 rfl (b8 + 1) 30 i0 (.slice none 0 0) 1 24 Try.underlying73 hi0 hz0 hz1 hz2 rfl (by decide) _ _ _ rfl h1 ⟨_, 0, none⟩ 1 1 [.slice (some ⟨U.heap.size + 1, 0, none⟩) n n] rfl rfl lit_news one_slice ?g1 ?g2 ?g3 ?_))
          case g1 => unfold maxLen; omega
          case g2 => omega
          case g3 => omega
          intro v5 w5 hown2 hgrow _ hat
          have hp5 : Hid (Tab w5 (b8 + 1) v5 (y + 1 + 1) n (wrow n k f t V)) := Tab.push h1 H2.out HOX.out (wrow_length ..) hgrow hown2
          have hb5 : Below Z.heap.size Z w5 := below_own (below_more YZ.out HBU.out) h1 (Nat.le_of_eq HZ.out) hgrow
          clear h1 hgrow hown2 hat
          go_wp2_with fail
          go_roundw
          case rel => exact ⟨y + 1, by go_num, by omega, ⟨⟨w5, hb5⟩, rfl⟩, hp5.out⟩
          case measure => simp [intOf]; omega
    · obtain rfl : y = years := by omega
      have HT := Lib.hid ht
      go_wp2
      go_ret
      exact ⟨_, rfl, ⟨_, below_later HB.out⟩, rfl, by have h := HT.out.mono (Nat.le_succ b8); rw [← HB8.out] at h; exact h⟩
end Go.Proofs.Ytnjloomhhgilcaa
