/- The document's follow: walked; it is wader's own walk. -/
import Derived.Test.YtbflpidjcflndaaKMatched
import Derived.Test.YtbflpidjcflndaaKRLead
namespace Go.Proofs.Ytbflpidjcflndaa
open Go.RowKit

/-- What follow reads and writes. -/
structure GS (B w : World) (go gt n : Nat) (out : List Int) (tr : List Bool) : Prop where
  below : Below B.heap.size B w
  oo : OwnI w B.heap.size (.slice (some ⟨go, 0, none⟩) n n) out
  ot : OwnBl w B.heap.size (.slice (some ⟨gt, 0, none⟩) n n) tr
  ne : go ≠ gt
section
variable {B w : World} {go gt n : Nat} {out : List Int} {tr : List Bool}
theorem GS.later (h : GS B w go gt n out tr) (x : Later w) : GS B x.val go gt n out tr :=
  ⟨below_more h.below x.ok, h.oo.later x, h.ot.later x, h.ne⟩
theorem GS.put (h : GS B w go gt n out tr) (hl : out.length = n) (i : Nat) (x : Int) : GS B (w.setCell ⟨go, i, none⟩ (.int .i64 x)) go gt n (out.set i x) tr :=
  ⟨h.below.setCell (p := ⟨go, i, none⟩) (own_lt h.oo go rfl).1 _, h.oo.set hl i x, h.ot.far fun g hg => by
    obtain rfl : gt = g := by simpa [Value.ownBlock] using hg
    exact h.ne, h.ne⟩
theorem GS.mark (h : GS B w go gt n out tr) (hl : tr.length = n) (i : Nat) (x : Bool) : GS B (w.setCell ⟨gt, i, none⟩ (.bool x)) go gt n out (tr.set i x) :=
  ⟨h.below.setCell (p := ⟨gt, i, none⟩) (own_lt h.ot gt rfl).1 _, h.oo.far fun g hg => by
    obtain rfl : go = g := by simpa [Value.ownBlock] using hg
    exact fun e => h.ne e.symm, h.ot.set hl i x, h.ne⟩
end
/-- What follow answers. -/
def PostFol (B : World) (go gt n : Nat) (r : Bool × List Bool × List Int) (e : Ending) (w' : World) : Prop :=
  e = .returned (.bool r.1) ∧ GS B w' go gt n r.2.2 r.2.1
set_option maxRecDepth 100000 in
set_option maxHeartbeats 6400000 in
theorem follow_any (B : World) (go gt n cap : Nat) (A : Option Addr) (s : Int) (X Y T : Nat → Int) (W : Watch n s X Y T) (hp : IsChs B A n X Y T) :
    ∀ (f i : Nat) (out : List Int) (tr : List Bool) (w : World), i < n → tr.length = n → out.length = n → OkM (leadsR s X Y T) n out → tr.count false < f → GS B w go gt n out tr →
    Calls Try.prog 61 #[.slice A n cap, .int .i64 s, .int .i64 i, .slice (some ⟨go, 0, none⟩) n n, .slice (some ⟨gt, 0, none⟩) n n] w (PostFol B go gt n (aug (leadsR s X Y T) n f i tr out)) := by
  intro f
  induction f with
  | zero => intro i out tr w _ _ _ _ h; omega
  | succ f ih =>
    intro i out tr w hi htl hol hok hc has
    have hn30 := W.n30
    have LD : Hid (∀ (V : World) (k : Nat), k < n → Below B.heap.size B V → Gives Try.prog 50 #[.slice A n cap, .int .i64 s, .int .i64 i, .int .i64 k] V (.bool (leadsR s X Y T i k))) := fun V k hk hb => rleads_any s n cap i k A X Y T V hi hk W (hp.below hb)
    have IH := Lib.hid ih
    have AP : Hid (∀ j tr out, j < n → tr.length = n → out.length = n → OkM (leadsR s X Y T) n out → tr.count false < f → AugPost (leadsR s X Y T) n j 0 tr out (aug (leadsR s X Y T) n f j tr out)) := fun j tr out a b c d e => aug_post f j tr out a b c d e
    have HE : Hid (aug (leadsR s X Y T) n (f + 1) i tr out = augL (aug (leadsR s X Y T) n f) (leadsR s X Y T) i n n tr out) := rfl
    generalize aug (leadsR s X Y T) n (f + 1) i tr out = res at *
    generalize leadsR s X Y T = L at *
    generalize aug L n f = R at *
    have HAS := Lib.hid has
    have HOK := Lib.hid hok
    have HTL := Lib.hid htl
    have HOL := Lib.hid hol
    have HC := Lib.hid hc
    clear ih has hok htl hol hc hp W
    go_enter Try.func61, Try.ntmps61
    go_wp2_with fail
    go_loopw [11] (fun u wr => ∃ (k d : Nat) (tr' : List Bool) (out' : List Int), u = .int .i64 (k : Nat) ∧ k + d = n ∧ tr'.length = n ∧ out'.length = n ∧ OkM L n out' ∧ tr'.count false ≤ f ∧ GS B wr go gt n out' tr' ∧ res = augL R L i n d tr' out') (fun u _ => n - (intOf u).toNat)
    case atStart => exact ⟨0, n, tr, out, rfl, by omega, HTL.out, HOL.out, HOK.out, by have := HC.out; omega, HAS.out, HE.out⟩
    case round =>
      obtain ⟨k, d, tr', out', rfl, hkd, htl', hol', hok', hc', has', he'⟩ := hrel
      clear HAS HTL HOL HC HE HOK
      have HAS := Lib.hid has'
      have HOK := Lib.hid hok'
      have HTL := Lib.hid htl'
      have HOL := Lib.hid hol'
      have HC := Lib.hid hc'
      have HE := Lib.hid he'
      have hBw := Lib.hid has'.below
      have gne := has'.ne
      have gne2 : gt ≠ go := fun e => gne e.symm
      clear has' hok' htl' hol' hc' he'
      by_cases hlt : k < n
      · obtain ⟨d', hd⟩ : ∃ d', d = d' + 1 := ⟨d - 1, by omega⟩
        subst hd
        have hkn : n - (d' + 1) = k := by omega
        obtain ⟨t3, t4, t5⟩ := HAS.out.ot.cell HTL.out hlt
        obtain ⟨o3, o4⟩ := HAS.out.oo.cell HOL.out hlt
        have o5 := (own_lt HAS.out.oo go rfl).2
        have o6 := o4 k
        have LD1 := Lib.hid fun V hb => LD.out V k hlt hb
        have t6 := t4 k
        clear t4 o4 LD
        cases hT : tr'.getD k true
        case true =>
          rw [hT] at t3
          have HN : Hid (res = augL R L i n d' tr' out') := by show _ = _; rw [HE.out, augL_skip hkn (.inl hT)]
          clear hT HE
          go_wp2_with fail
          go_roundw
          case rel => exact ⟨k + 1, d', tr', out', by go_num, by omega, HTL.out, HOL.out, HOK.out, HC.out, HAS.out, HN.out⟩
          case measure => simp [intOf]; omega
        case false =>
          rw [hT] at t3
          have HT := Lib.hid hT
          clear hT
          cases hL : L i k
          case false =>
            rw [hL] at LD1
            have HN : Hid (res = augL R L i n d' tr' out') := by show _ = _; rw [HE.out, augL_skip hkn (.inr hL)]
            clear hL HE
            go_wp2_with (go_at_call 50; with_reducible refine Calls.mono (Gives.calls (LD1.out _ hBw.out)) ?_; rintro e w1 ⟨rfl, y, rfl⟩)
            go_roundw
            case rel => exact ⟨k + 1, d', tr', out', by go_num, by omega, HTL.out, HOL.out, HOK.out, HC.out, HAS.out.later y, HN.out⟩
            case measure => simp [intOf]; omega
          case true =>
            rw [hL] at LD1
            have HL := Lib.hid hL
            clear hL
            generalize hWR : wr = WR at *
            clear hWR
            have AS2 : Hid (∀ y : Later WR, GS B (y.val.setCell ⟨gt, k, none⟩ (.bool true)) go gt n out' (tr'.set k true)) := fun y => (HAS.out.later y).mark HTL.out k true
            have HTL2 : Hid ((tr'.set k true).length = n) := by show _ = _; rw [List.length_set]; exact HTL.out
            rcases HOK.out k hlt with hm | ⟨j, hj, hoj, hLj⟩
            · rw [hm] at o3
              have HN : Hid (res = (true, tr'.set k true, out'.set k (i : Int))) := by show _ = _; rw [HE.out, augL_free hkn HT.out HL.out hm]
              clear hm HE
              go_wp2_with (go_at_call 50; with_reducible refine Calls.mono (Gives.calls (LD1.out _ hBw.out)) ?_; rintro e w1 ⟨rfl, y, rfl⟩)
              go_ret
              exact ⟨ret_bool (by rw [HN.out]), by rw [HN.out]; exact (AS2.out y).put HOL.out k i⟩
            · rw [hoj] at o3
              have hne : decide ((j : Int) < 0) = false := by simp
              have hne2 : ¬ ((j : Int) < 0) := by omega
              have HLt := Lib.hid (count_setF (l := tr') (k := k) (by rw [HTL.out]; exact hlt) HT.out)
              have HC2 : Hid ((tr'.set k true).count false < f) := by have := HLt.out; have := HC.out; show _ < _; omega
              have HJ := Lib.hid hoj
              have P1 := Lib.hid (AP.out j (tr'.set k true) out' hj HTL2.out HOL.out HOK.out HC2.out)
              have IH1 : Hid (∀ V : World, GS B V go gt n out' (tr'.set k true) → Calls Try.prog 61 #[.slice A n cap, .int .i64 s, .int .i64 j, .slice (some ⟨go, 0, none⟩) n n, .slice (some ⟨gt, 0, none⟩) n n] V fun e w' => e = .returned (.bool (R j (tr'.set k true) out').1) ∧ GS B w' go gt n (R j (tr'.set k true) out').2.2 (R j (tr'.set k true) out').2.1) := fun V h => IH.out j out' (tr'.set k true) V hj HTL2.out HOL.out HOK.out HC2.out h
              have AY : Hid ((R j (tr'.set k true) out').1 = true → res = (true, (R j (tr'.set k true) out').2.1, (R j (tr'.set k true) out').2.2.set k (i : Int))) := fun h => HE.out.trans (augL_yes hkn HT.out HL.out HJ.out h)
              have AN : Hid ((R j (tr'.set k true) out').1 = false → res = augL R L i n d' (R j (tr'.set k true) out').2.1 (R j (tr'.set k true) out').2.2) := fun h => HE.out.trans (augL_no hkn HT.out HL.out HJ.out h)
              clear hoj HE IH AP
              generalize R j (tr'.set k true) out' = r at *
              obtain ⟨rb, rt, ro⟩ := r
              cases rb
              case true =>
                have HN : Hid (res = (true, rt, ro.set k (i : Int))) := AY.out rfl
                clear AY AN
                go_wp2_with (first
                  | (go_at_call 50; with_reducible refine Calls.mono (Gives.calls (LD1.out _ hBw.out)) ?_; rintro e w1 ⟨rfl, y, rfl⟩)
                  | (go_at_call 61; go_loud (with_reducible refine Calls.mono (IH1.out _ (AS2.out y)) ?_); rintro e w' ⟨rfl, has3⟩; obtain ⟨_, o7⟩ := has3.oo.cell P1.out.len hlt; have y5 := (own_lt has3.oo go rfl).2; have y6 := o7 k; clear o7; have AS3 := Lib.hid has3; clear has3))
                go_ret
                exact ⟨ret_bool (by rw [HN.out]), by rw [HN.out]; exact AS3.out.put P1.out.len k i⟩
              case false =>
                have HN : Hid (res = augL R L i n d' rt ro) := AN.out rfl
                clear AY AN
                go_wp2_with (first
                  | (go_at_call 50; with_reducible refine Calls.mono (Gives.calls (LD1.out _ hBw.out)) ?_; rintro e w1 ⟨rfl, y, rfl⟩)
                  | (go_at_call 61; with_reducible refine Calls.mono (IH1.out _ (AS2.out y)) ?_; rintro e w' ⟨rfl, has3⟩; have AS3 := Lib.hid has3; clear has3))
                have REL : Hid (rt.count false ≤ f) := by
                  have h1 := countF_le (tr'.set k true) rt (HTL2.out.trans P1.out.trl.symm) fun q h1 h2 => P1.out.grow q (by have := HTL2.out; omega) h2
                  have := HC2.out
                  show _ ≤ _
                  omega
                first
                  | (go_roundw
                     case rel => exact ⟨k + 1, d', rt, ro, by go_num, by omega, P1.out.trl, P1.out.len, P1.out.okm, REL.out, AS3.out, HN.out⟩
                     case measure => simp [intOf]; omega)
                  | (refine ⟨⟨k + 1, d', rt, ro, by go_num, by omega, P1.out.trl, P1.out.len, P1.out.okm, REL.out, AS3.out, HN.out⟩, ?_⟩; simp [intOf]; omega)
      · obtain rfl : d = 0 := by omega
        obtain rfl : k = n := by omega
        have HN : Hid (res = (false, tr', out')) := HE.out
        clear HE
        go_wp2_with fail
        go_ret
        exact ⟨ret_bool (by rw [HN.out]), by rw [HN.out]; exact HAS.out⟩
end Go.Proofs.Ytbflpidjcflndaa
