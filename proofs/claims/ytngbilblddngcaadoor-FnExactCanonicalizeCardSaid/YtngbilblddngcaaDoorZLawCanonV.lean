/- The law of Canonicalize at a value that reads as a type. -/
import Derived.Test.YtngbilblddngcaaDoorZLawCanon
namespace Go.Proofs.YtngbilblddngcaaDoor
open Go.RowKit Go.Lib
theorem lawCanonV (x0 : TypeX) (v0 : Value) (w : World) (hpw : Pow w) (hok0 : DV.okL x0.cells) (hv0 : TypeAt w (Und w.heap.size) x0 v0) :
    Calls Tryd.prog 5 #[v0] w fun e w' => e = .returned (.bool true) ∧ Below w.heap.size w w' := by
  obtain ⟨A0, c0, rfl, h0⟩ := hv0
  exact lawCanon x0 A0 c0 w hpw hok0 h0
end Go.Proofs.YtngbilblddngcaaDoor
