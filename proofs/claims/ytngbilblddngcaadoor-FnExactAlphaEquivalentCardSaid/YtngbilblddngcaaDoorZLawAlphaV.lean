/- The law of AlphaEquivalent at two values that read as types. -/
import Derived.Test.YtngbilblddngcaaDoorZLawAlpha
namespace Go.Proofs.YtngbilblddngcaaDoor
open Go.RowKit Go.Lib
theorem lawAlphaV (x0 x1 : TypeX) (v0 v1 : Value) (w : World) (hpw : Pow w) (hok0 : DV.okL x0.cells) (hok1 : DV.okL x1.cells) (hv0 : TypeAt w (Und w.heap.size) x0 v0) (hv1 : TypeAt w (Und w.heap.size) x1 v1) :
    Calls Tryd.prog 7 #[v0, v1] w fun e w' => e = .returned (.bool true) ∧ Below w.heap.size w w' := by
  obtain ⟨A0, c0, rfl, h0⟩ := hv0
  obtain ⟨A1, c1, rfl, h1⟩ := hv1
  exact lawAlpha x0 A0 c0 x1 A1 c1 w hpw hok0 h0 hok1 h1
end Go.Proofs.YtngbilblddngcaaDoor
