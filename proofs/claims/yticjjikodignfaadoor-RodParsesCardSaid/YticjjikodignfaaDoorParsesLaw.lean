/- The law RodParses: walked. -/
import Derived.Test.YticjjikodignfaaDoorTextMath
namespace Go.Proofs.YticjjikodignfaaDoor
open Go.RowKit

theorem lets_area : Lets 97 114 112 := ⟨by decide, by decide, by decide, by decide, by decide, by decide⟩
theorem lets_length : Lets 102 99 108 := ⟨by decide, by decide, by decide, by decide, by decide, by decide⟩

set_option maxRecDepth 100000 in
set_option maxHeartbeats 800000 in
theorem parseArea_any (x : List UInt8) (w : World) (hx : x.length ≤ 1000000) (he : Errs w) (hu : Units w) :
    Gives Tryd.prog 21 #[.string ⟨x.toArray⟩] w (parseV 97 114 112 160 40 x) := by
  have hv := hu.area
  have c0 : w.cell? ⟨0, 0, none⟩ = some (.string ⟨#[97]⟩) := World.var?_cell gArea hv 0
  have c1 : w.cell? ⟨0, 1, none⟩ = some (.int .i64 160) := World.var?_cell gArea hv 1
  have c2 : w.cell? ⟨0, 2, none⟩ = some (.string ⟨#[114]⟩) := World.var?_cell gArea hv 2
  have c3 : w.cell? ⟨0, 3, none⟩ = some (.int .i64 40) := World.var?_cell gArea hv 3
  have c4 : w.cell? ⟨0, 4, none⟩ = some (.string ⟨#[112]⟩) := World.var?_cell gArea hv 4
  have c5 : w.cell? ⟨0, 5, none⟩ = some (.int .i64 1) := World.var?_cell gArea hv 5
  have Z : Hid (Gives Tryd.prog 55 #[.agg #[.string ⟨#[97]⟩, .int .i64 160, .string ⟨#[114]⟩, .int .i64 40, .string ⟨#[112]⟩, .int .i64 1], .string ⟨x.toArray⟩] w (parseV 97 114 112 160 40 x)) := parse_any 97 114 112 160 40 x w hx (by omega) (by omega) (by omega) (by omega) he hu.tab
  have hn : ∃ n e : Int, parseV 97 114 112 160 40 x = .tuple #[.int .i64 n, .int .i64 e] := by
    rcases parse_cases (la := 97) (lb := 114) (lc := 112) (s0 := 160) (s1 := 40) (by omega) (by omega) x with ⟨n, _, _, _, h⟩ | h
    · exact ⟨_, _, h⟩
    · exact ⟨_, _, h⟩
  obtain ⟨n, e, hn⟩ := hn
  rw [hn] at Z ⊢
  clear hv he hu hn
  go_enter Tryd.func21, Tryd.ntmps21
  go_wp2_with (go_at_call 55; refine Calls.mono Z.out.calls ?_; rintro e w1 ⟨rfl, y, rfl⟩)
  go_ret2
  exact ⟨rfl, later_of (by repeat (first | exact Below.refl _ _ | (with_reducible assumption) | apply below_later | apply below_alloc | apply below_drew | apply below_drewN))⟩
set_option maxRecDepth 100000 in
set_option maxHeartbeats 800000 in
theorem parseLength_any (x : List UInt8) (w : World) (hx : x.length ≤ 1000000) (he : Errs w) (hu : Units w) (hv : w.var? Tryd.prog "sedge/rod.lengthUnits" = some lengthCells) :
    Gives Tryd.prog 23 #[.string ⟨x.toArray⟩] w (parseV 102 99 108 1000 100 x) := by
  have c0 : w.cell? ⟨1, 0, none⟩ = some (.string ⟨#[102]⟩) := World.var?_cell gLength hv 0
  have c1 : w.cell? ⟨1, 1, none⟩ = some (.int .i64 1000) := World.var?_cell gLength hv 1
  have c2 : w.cell? ⟨1, 2, none⟩ = some (.string ⟨#[99]⟩) := World.var?_cell gLength hv 2
  have c3 : w.cell? ⟨1, 3, none⟩ = some (.int .i64 100) := World.var?_cell gLength hv 3
  have c4 : w.cell? ⟨1, 4, none⟩ = some (.string ⟨#[108]⟩) := World.var?_cell gLength hv 4
  have c5 : w.cell? ⟨1, 5, none⟩ = some (.int .i64 1) := World.var?_cell gLength hv 5
  have Z : Hid (Gives Tryd.prog 55 #[.agg #[.string ⟨#[102]⟩, .int .i64 1000, .string ⟨#[99]⟩, .int .i64 100, .string ⟨#[108]⟩, .int .i64 1], .string ⟨x.toArray⟩] w (parseV 102 99 108 1000 100 x)) := parse_any 102 99 108 1000 100 x w hx (by omega) (by omega) (by omega) (by omega) he hu.tab
  have hn : ∃ n e : Int, parseV 102 99 108 1000 100 x = .tuple #[.int .i64 n, .int .i64 e] := by
    rcases parse_cases (la := 102) (lb := 99) (lc := 108) (s0 := 1000) (s1 := 100) (by omega) (by omega) x with ⟨n, _, _, _, h⟩ | h
    · exact ⟨_, _, h⟩
    · exact ⟨_, _, h⟩
  obtain ⟨n, e, hn⟩ := hn
  rw [hn] at Z ⊢
  clear hv he hu hn
  go_enter Tryd.func23, Tryd.ntmps23
  go_wp2_with (go_at_call 55; refine Calls.mono Z.out.calls ?_; rintro e w1 ⟨rfl, y, rfl⟩)
  go_ret2
  exact ⟨rfl, later_of (by repeat (first | exact Below.refl _ _ | (with_reducible assumption) | apply below_later | apply below_alloc | apply below_drew | apply below_drewN))⟩

set_option maxRecDepth 100000 in
set_option maxHeartbeats 800000 in
theorem r_parseArea_any (x : List UInt8) (w : World) (hx : x.length ≤ 1000000) : Gives Tryd.prog 22 #[.string ⟨x.toArray⟩] w (parseV 97 114 112 160 40 x) := by
  have V : Hid (∀ w, Gives Tryd.prog 56 #[.string ⟨x.toArray⟩, .int .i64 160, .int .i64 40, .string ⟨#[97, 114, 112]⟩] w (.int .i64 (valR 97 114 112 160 40 x))) := fun w => r_value_any 97 114 112 160 40 x w hx (by omega) (by omega) (by omega) (by omega)
  rcases read_alike (s0 := 160) (s1 := 40) lets_area (by omega) (by omega) x with ⟨n, h0, h1, ht, hp, hr⟩ | ⟨hp, hr | ⟨h0, h1, ht⟩⟩
  · rw [hr] at V
    rw [hp]
    have T : Hid (∀ w, Gives Tryd.prog 53 #[.int .i64 n] w (.string ⟨x.toArray⟩)) := fun w => by rw [← ht]; exact r_area_text n w h0 h1
    clear ht hp hr
    go_enter Tryd.func22, Tryd.ntmps22
    go_wp2_with (first | (go_at_call 56; (first | (with_reducible show Calls _ _ _ (Later.val _) _; with_reducible refine Calls.mono (Later.call _ (V.out _)) ?_) | (with_reducible refine Calls.mono (Gives.calls (V.out _)) ?_)); rintro e w1 ⟨rfl, y, rfl⟩) | (go_at_call 53; (first | (with_reducible show Calls _ _ _ (Later.val _) _; with_reducible refine Calls.mono (Later.call _ (T.out _)) ?_) | (with_reducible refine Calls.mono (Gives.calls (T.out _)) ?_)); rintro e w1 ⟨rfl, z, rfl⟩))
    go_ret2
    exact ⟨rfl, later_of (by repeat (first | exact Below.refl _ _ | (with_reducible assumption) | apply below_later | apply below_alloc | apply below_drew | apply below_drewN))⟩
  · rw [hr] at V
    rw [hp]
    clear hp hr
    go_enter Tryd.func22, Tryd.ntmps22
    go_wp2_with (first | (go_at_call 56; (first | (with_reducible show Calls _ _ _ (Later.val _) _; with_reducible refine Calls.mono (Later.call _ (V.out _)) ?_) | (with_reducible refine Calls.mono (Gives.calls (V.out _)) ?_)); rintro e w1 ⟨rfl, y, rfl⟩))
    go_ret2
    exact ⟨rfl, later_of (by repeat (first | exact Below.refl _ _ | (with_reducible assumption) | apply below_later | apply below_alloc | apply below_drew | apply below_drewN))⟩
  · rw [hp]
    generalize valR 97 114 112 160 40 x = n at *
    have T : Hid (∀ w, Gives Tryd.prog 53 #[.int .i64 n] w (.string ⟨(textL ⟨#[97]⟩ ⟨#[114]⟩ ⟨#[112]⟩ 160 40 n).toArray⟩)) := fun w => r_area_text n w h0 h1
    generalize textL ⟨#[97]⟩ ⟨#[114]⟩ ⟨#[112]⟩ 160 40 n = tx at *
    have hne : (tx == x) = false := by simpa using ht
    clear ht hp
    go_enter Tryd.func22, Tryd.ntmps22
    go_wp2_with (first | (go_at_call 56; (first | (with_reducible show Calls _ _ _ (Later.val _) _; with_reducible refine Calls.mono (Later.call _ (V.out _)) ?_) | (with_reducible refine Calls.mono (Gives.calls (V.out _)) ?_)); rintro e w1 ⟨rfl, y, rfl⟩) | (go_at_call 53; (first | (with_reducible show Calls _ _ _ (Later.val _) _; with_reducible refine Calls.mono (Later.call _ (T.out _)) ?_) | (with_reducible refine Calls.mono (Gives.calls (T.out _)) ?_)); rintro e w1 ⟨rfl, z, rfl⟩))
    go_ret2
    exact ⟨rfl, later_of (by repeat (first | exact Below.refl _ _ | (with_reducible assumption) | apply below_later | apply below_alloc | apply below_drew | apply below_drewN))⟩
set_option maxRecDepth 100000 in
set_option maxHeartbeats 800000 in
theorem r_parseLength_any (x : List UInt8) (w : World) (hx : x.length ≤ 1000000) : Gives Tryd.prog 24 #[.string ⟨x.toArray⟩] w (parseV 102 99 108 1000 100 x) := by
  have V : Hid (∀ w, Gives Tryd.prog 56 #[.string ⟨x.toArray⟩, .int .i64 1000, .int .i64 100, .string ⟨#[102, 99, 108]⟩] w (.int .i64 (valR 102 99 108 1000 100 x))) := fun w => r_value_any 102 99 108 1000 100 x w hx (by omega) (by omega) (by omega) (by omega)
  rcases read_alike (s0 := 1000) (s1 := 100) lets_length (by omega) (by omega) x with ⟨n, h0, h1, ht, hp, hr⟩ | ⟨hp, hr | ⟨h0, h1, ht⟩⟩
  · rw [hr] at V
    rw [hp]
    have T : Hid (∀ w, Gives Tryd.prog 54 #[.int .i64 n] w (.string ⟨x.toArray⟩)) := fun w => by rw [← ht]; exact r_length_text n w h0 h1
    clear ht hp hr
    go_enter Tryd.func24, Tryd.ntmps24
    go_wp2_with (first | (go_at_call 56; (first | (with_reducible show Calls _ _ _ (Later.val _) _; with_reducible refine Calls.mono (Later.call _ (V.out _)) ?_) | (with_reducible refine Calls.mono (Gives.calls (V.out _)) ?_)); rintro e w1 ⟨rfl, y, rfl⟩) | (go_at_call 54; (first | (with_reducible show Calls _ _ _ (Later.val _) _; with_reducible refine Calls.mono (Later.call _ (T.out _)) ?_) | (with_reducible refine Calls.mono (Gives.calls (T.out _)) ?_)); rintro e w1 ⟨rfl, z, rfl⟩))
    go_ret2
    exact ⟨rfl, later_of (by repeat (first | exact Below.refl _ _ | (with_reducible assumption) | apply below_later | apply below_alloc | apply below_drew | apply below_drewN))⟩
  · rw [hr] at V
    rw [hp]
    clear hp hr
    go_enter Tryd.func24, Tryd.ntmps24
    go_wp2_with (first | (go_at_call 56; (first | (with_reducible show Calls _ _ _ (Later.val _) _; with_reducible refine Calls.mono (Later.call _ (V.out _)) ?_) | (with_reducible refine Calls.mono (Gives.calls (V.out _)) ?_)); rintro e w1 ⟨rfl, y, rfl⟩))
    go_ret2
    exact ⟨rfl, later_of (by repeat (first | exact Below.refl _ _ | (with_reducible assumption) | apply below_later | apply below_alloc | apply below_drew | apply below_drewN))⟩
  · rw [hp]
    generalize valR 102 99 108 1000 100 x = n at *
    have T : Hid (∀ w, Gives Tryd.prog 54 #[.int .i64 n] w (.string ⟨(textL ⟨#[102]⟩ ⟨#[99]⟩ ⟨#[108]⟩ 1000 100 n).toArray⟩)) := fun w => r_length_text n w h0 h1
    generalize textL ⟨#[102]⟩ ⟨#[99]⟩ ⟨#[108]⟩ 1000 100 n = tx at *
    have hne : (tx == x) = false := by simpa using ht
    clear ht hp
    go_enter Tryd.func24, Tryd.ntmps24
    go_wp2_with (first | (go_at_call 56; (first | (with_reducible show Calls _ _ _ (Later.val _) _; with_reducible refine Calls.mono (Later.call _ (V.out _)) ?_) | (with_reducible refine Calls.mono (Gives.calls (V.out _)) ?_)); rintro e w1 ⟨rfl, y, rfl⟩) | (go_at_call 54; (first | (with_reducible show Calls _ _ _ (Later.val _) _; with_reducible refine Calls.mono (Later.call _ (T.out _)) ?_) | (with_reducible refine Calls.mono (Gives.calls (T.out _)) ?_)); rintro e w1 ⟨rfl, z, rfl⟩))
    go_ret2
    exact ⟨rfl, later_of (by repeat (first | exact Below.refl _ _ | (with_reducible assumption) | apply below_later | apply below_alloc | apply below_drew | apply below_drewN))⟩

set_option maxRecDepth 100000 in
set_option maxHeartbeats 3200000 in
theorem rodParses_any (s : ByteArray) (hs : s.size ≤ 9223372036854775807) (w : World) (he : Errs w) (hu : Units w) (hl : w.var? Tryd.prog "sedge/rod.lengthUnits" = some lengthCells) :
    Gives Tryd.prog 4 #[.string s] w (.bool true) := by
  obtain ⟨x, rfl⟩ : ∃ x : List UInt8, s = ⟨x.toArray⟩ := ⟨s.data.toList, by cases s; simp⟩
  replace hs : x.length ≤ 9223372036854775807 := by simpa [ByteArray.size] using hs
  have Hu := Lib.hid hu
  have He := Lib.hid he
  have Hl := Lib.hid hl
  clear hu hl he
  by_cases hx : x.length ≤ 200
  · obtain ⟨n1, e1, h1⟩ : ∃ n e : Int, parseV 97 114 112 160 40 x = .tuple #[.int .i64 n, .int .i64 e] := by
      rcases parse_cases (la := 97) (lb := 114) (lc := 112) (s0 := 160) (s1 := 40) (by omega) (by omega) x with ⟨n, _, _, _, h⟩ | h
      · exact ⟨_, _, h⟩
      · exact ⟨_, _, h⟩
    obtain ⟨n2, e2, h2⟩ : ∃ n e : Int, parseV 102 99 108 1000 100 x = .tuple #[.int .i64 n, .int .i64 e] := by
      rcases parse_cases (la := 102) (lb := 99) (lc := 108) (s0 := 1000) (s1 := 100) (by omega) (by omega) x with ⟨n, _, _, _, h⟩ | h
      · exact ⟨_, _, h⟩
      · exact ⟨_, _, h⟩
    have C1 : Hid (∀ w', Below w.heap.size w w' → Gives Tryd.prog 21 #[.string ⟨x.toArray⟩] w' (.tuple #[.int .i64 n1, .int .i64 e1])) := fun w' hb => h1 ▸ parseArea_any x w' (by omega) (He.out.below hb) (Hu.out.below hb)
    have C2 : Hid (∀ w', Gives Tryd.prog 22 #[.string ⟨x.toArray⟩] w' (.tuple #[.int .i64 n1, .int .i64 e1])) := fun w' => h1 ▸ r_parseArea_any x w' (by omega)
    have C3 : Hid (∀ w', Below w.heap.size w w' → Gives Tryd.prog 23 #[.string ⟨x.toArray⟩] w' (.tuple #[.int .i64 n2, .int .i64 e2])) := fun w' hb => h2 ▸ parseLength_any x w' (by omega) (He.out.below hb) (Hu.out.below hb) (length_below Hl.out hb)
    have C4 : Hid (∀ w', Gives Tryd.prog 24 #[.string ⟨x.toArray⟩] w' (.tuple #[.int .i64 n2, .int .i64 e2])) := fun w' => h2 ▸ r_parseLength_any x w' (by omega)
    clear h1 h2
    go_enter Tryd.func4, Tryd.ntmps4
    go_wp2_with (first | (go_at_call 21; refine Calls.mono (C1.out _ (by repeat (first | exact Below.refl _ _ | (with_reducible assumption) | apply below_later | apply below_alloc | apply below_drew | apply below_drewN))).calls ?_; rintro e w1 ⟨rfl, y1, rfl⟩) | (go_at_call 22; (first | (with_reducible show Calls _ _ _ (Later.val _) _; with_reducible refine Calls.mono (Later.call _ (C2.out _)) ?_) | (with_reducible refine Calls.mono (Gives.calls (C2.out _)) ?_)); rintro e w1 ⟨rfl, y2, rfl⟩) | (go_at_call 23; refine Calls.mono (C3.out _ (by repeat (first | exact Below.refl _ _ | (with_reducible assumption) | apply below_later | apply below_alloc | apply below_drew | apply below_drewN))).calls ?_; rintro e w1 ⟨rfl, y3, rfl⟩) | (go_at_call 24; (first | (with_reducible show Calls _ _ _ (Later.val _) _; with_reducible refine Calls.mono (Later.call _ (C4.out _)) ?_) | (with_reducible refine Calls.mono (Gives.calls (C4.out _)) ?_)); rintro e w1 ⟨rfl, y4, rfl⟩) | (go_at_call 20; refine Calls.mono (first_any _ (Hu.out.below (by repeat (first | exact Below.refl _ _ | (with_reducible assumption) | apply below_later | apply below_alloc | apply below_drew | apply below_drewN)))).calls ?_; rintro e w1 ⟨rfl, y5, rfl⟩))
    go_ret
    exact ⟨rfl, later_of (by repeat (first | exact Below.refl _ _ | (with_reducible assumption) | apply below_later | apply below_alloc | apply below_drew | apply below_drewN))⟩
  · go_enter Tryd.func4, Tryd.ntmps4
    go_wp2_with (go_at_call 20; refine Calls.mono (first_any _ (Hu.out.below (by repeat (first | exact Below.refl _ _ | (with_reducible assumption) | apply below_later | apply below_alloc | apply below_drew | apply below_drewN)))).calls ?_; rintro e w1 ⟨rfl, y5, rfl⟩)
    go_ret
    exact ⟨rfl, later_of (by repeat (first | exact Below.refl _ _ | (with_reducible assumption) | apply below_later | apply below_alloc | apply below_drew | apply below_drewN))⟩
end Go.Proofs.YticjjikodignfaaDoor
