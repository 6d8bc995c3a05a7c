/- The two listed errors, out of a row's list. -/
import Derived.Test.YticjjikodignfaaDoorLaidLen
import Derived.ChangeMaps5
import Derived.Test.YticjjikodignfaaDoorParsesLaw
namespace Go.Proofs.YticjjikodignfaaDoor
open Go.ChangeShapes Go.WideShapes Go.ChangeAt Go.RowKit Go.Deep

theorem trod_iface_one {P : Program} {w : World} {t : TypeId} {ms : Array (String × TypeId)} {fuel : Nat} {cs : List Value} {nm : String} {d : DataW Unit} {p : List MemPlace} (ht : P.underlying t = some (.interface ms))
    (h : DataW.trod (fun _ => ()) P w 0 (fun _ => true) false fuel t cs = some (.iface nm d, p)) : ∃ u v, cs = [.iface u v] := by
  cases fuel with
  | zero => simp [DataW.trod] at h
  | succ n =>
    unfold DataW.trod at h
    rw [ht] at h
    simp only at h
    split at h
    all_goals first
      | exact ⟨_, _, rfl⟩
      | (exfalso; simp at h; done)
      | (exfalso; simp_all; done)
theorem err_of {W : World} {l : List (String × DataW Unit)} {g : Nat} {name nm : String} {d : DataW Unit} (hg0 : Tryd.prog.globalNamed name = some g) (ht0 : (Tryd.prog.globals[g]?).map (·.type) = some 99) (h : laidMet Tryd.prog l W) (h1 : (name, DataW.iface nm d) ∈ l) :
    ∃ te pe, W.cell? ⟨g, 0, none⟩ = some (.iface te pe) := by
  obtain ⟨g', t, cs, fuel, p, hg, ht, hv, hd⟩ := Lib.laidMet.reads h h1
  obtain rfl := Option.some.inj (hg0.symm.trans hg)
  obtain rfl := Option.some.inj (ht0.symm.trans ht)
  obtain ⟨u, v, hc⟩ := trod_iface_one Tryd.underlying99 hd
  have : cs = #[.iface u v] := by
    apply Array.toList_inj.1
    simpa using hc
  rw [this] at hv
  exact ⟨u, v, World.var?_cell hg hv 0⟩
theorem errs_of {W : World} {l : List (String × DataW Unit)} {n1 n2 : String} {d1 d2 : DataW Unit} (h : laidMet Tryd.prog l W) (h1 : ("strconv.ErrSyntax", DataW.iface n1 d1) ∈ l) (h2 : ("strconv.ErrRange", DataW.iface n2 d2) ∈ l) : Errs W :=
  ⟨err_of (by kernel_rfl) (by kernel_rfl) h h1, err_of (by kernel_rfl) (by kernel_rfl) h h2⟩
end Go.Proofs.YticjjikodignfaaDoor
