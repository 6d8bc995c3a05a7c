/- Long, the document's Job, and thatch's IsWork: walked. -/
import Derived.Test.YtcjahpbbkdkbpaaTWorkM
import Derived.Test.YtcjahpbbkdkbpaaTLayR
namespace Go.Proofs.Ytcjahpbbkdkbpaa
open Go.RowKit

def longB (k : Nat) (R : Nat → Row) : Bool := !(decide (k ≤ 2010) && allB k fun i => decide ((R i).n ≤ 15))
theorem long_facts {k : Nat} {R : Nat → Row} (h : longB k R = false) : k ≤ 2010 ∧ ∀ i, i < k → (R i).n ≤ 15 := by
  simp only [longB, Bool.not_eq_false', Bool.and_eq_true, decide_eq_true_eq] at h
  exact ⟨h.1, fun i hi => by simpa using (allB_iff.1 h.2) i hi⟩
set_option maxRecDepth 100000 in
set_option maxHeartbeats 1600000 in
theorem rJob_any (n cap : Nat) (A : Option Addr) (f : Nat → Int) (w : World) (hn : n ≤ 9223372036854775807) (hp : IsInts w A n f) : Gives Try.prog 20 #[.slice A n cap] w (.bool (okJob n f)) := by
  have HE : Hid (okJob n f = (inI 1 n 10 && allB n fun i => inI 0 (f i) 100)) := rfl
  have HP := Lib.hid hp
  have B1 := Lib.hid fun V => rfrom_any 1 n 10 V
  have B2 := Lib.hid fun (x : Int) (V : World) => rfrom_any 0 x 100 V
  have HF : Hid (∀ i, i < n → inI 0 (f i) 100 = false → okJob n f = false) := fun i hi h => by rw [HE.out, allB_false (p := fun i => inI 0 (f i) 100) hi h, Bool.and_false]
  have HT : Hid ((∀ i, i < n → inI 0 (f i) 100 = true) → okJob n f = inI 1 n 10) := fun h => by rw [HE.out, allB_true (p := fun i => inI 0 (f i) 100) h, Bool.and_true]
  generalize okJob n f = res at *
  generalize inI 1 n 10 = r1 at *
  clear hp HE
  go_enter Try.func20, Try.ntmps20
  go_wp2
  go_loopw [3] (fun u wr => ∃ k : Nat, u = .int .i64 (k : Nat) ∧ k ≤ n ∧ (∀ i, i < k → inI 0 (f i) 100 = true) ∧ ∃ x : Later w, wr = x.val) (fun u _ => n - (intOf u).toNat)
  case atStart => exact ⟨0, rfl, by omega, by omega, later_of (by repeat (first | exact Below.refl _ _ | (with_reducible assumption) | apply below_later | apply below_alloc | apply below_drew | apply below_drewN))⟩
  case round =>
    obtain ⟨k, rfl, hk, hall, x, rfl⟩ := hrel
    have HALL := Lib.hid hall
    clear hall
    by_cases hlt : k < n
    · obtain ⟨b, off, hB, q⟩ := (HP.out.later x).at_ (by omega)
      subst hB
      have ck := q.at_ k hlt
      have lb := q.lt
      have B2k := Lib.hid fun V => B2.out (f k) V
      have HFk := Lib.hid (HF.out k hlt)
      have HTk : Hid (inI 0 (f k) 100 = true → ∀ i, i < k + 1 → inI 0 (f i) 100 = true) := fun h => all_step (p := fun i => inI 0 (f i) 100) HALL.out h
      clear q
      generalize inI 0 (f k) 100 = r2 at *
      generalize f k = fk at *
      cases r2
      · have HR := Lib.hid (HFk.out rfl)
        go_wp2_with (go_at_call 32; with_reducible refine Calls.mono (Gives.calls (B2k.out _)) ?_; rintro e w1 ⟨rfl, z, rfl⟩)
        go_ret
        exact ⟨ret_bool HR.out.symm, later_of (by repeat (first | exact Below.refl _ _ | (with_reducible assumption) | apply below_later | apply below_alloc | apply below_drew | apply below_drewN))⟩
      · have HR := Lib.hid (HTk.out rfl)
        go_wp2_with (go_at_call 32; with_reducible refine Calls.mono (Gives.calls (B2k.out _)) ?_; rintro e w1 ⟨rfl, z, rfl⟩)
        all_goals
          first
            | (refine ⟨⟨k + 1, by go_num, by omega, HR.out, later_of (by repeat (first | exact Below.refl _ _ | (with_reducible assumption) | apply below_later | apply below_alloc | apply below_drew | apply below_drewN))⟩, ?_⟩; simp [intOf]; omega)
            | (go_roundw
               case rel => exact ⟨k + 1, by go_num, by omega, HR.out, later_of (by repeat (first | exact Below.refl _ _ | (with_reducible assumption) | apply below_later | apply below_alloc | apply below_drew | apply below_drewN))⟩
               case measure => simp [intOf]; omega)
    · obtain rfl : k = n := by omega
      have HR := Lib.hid (HT.out HALL.out)
      go_wp2_with (go_at_call 32; with_reducible refine Calls.mono (Gives.calls (B1.out _)) ?_; rintro e w1 ⟨rfl, z, rfl⟩)
      go_ret
      exact ⟨ret_bool HR.out.symm, later_of (by repeat (first | exact Below.refl _ _ | (with_reducible assumption) | apply below_later | apply below_alloc | apply below_drew | apply below_drewN))⟩
theorem tab_row {V : World} {A : Option Addr} {k : Nat} {R : Nat → Row} (hp : IsTab V A k R) {i : Nat} (hi : i < k) : ∃ b off, A = some ⟨b, off, none⟩ ∧ b < V.heap.size ∧ V.cell? ⟨b, off + i, none⟩ = some (.slice (R i).a (R i).n (R i).c) ∧ IsInts V (R i).a (R i).n (R i).f := by
  obtain ⟨b, off, hA, la, p⟩ := hp.at_ (by omega)
  have ca := p i hi
  unfold Row.val at ca
  exact ⟨b, off, hA, la, ca, (hp.row i hi).1⟩
theorem cast_nat {x : Int} {k : Nat} (h0 : 0 ≤ x) (h1 : x < k) : ∃ q : Nat, x = q ∧ q < k := ⟨x.toNat, by omega, by omega⟩
end Go.Proofs.Ytcjahpbbkdkbpaa
