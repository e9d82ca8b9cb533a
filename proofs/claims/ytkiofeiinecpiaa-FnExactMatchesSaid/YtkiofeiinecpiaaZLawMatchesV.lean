/- The law of Matches at two values that read as types. -/
import Derived.Test.YtkiofeiinecpiaaZLawMatches
namespace Go.Proofs.Ytkiofeiinecpiaa
open Go.RowKit Go.Lib
theorem lawMatchesV (x0 x1 : TypeX) (v0 v1 : Value) (w : World) (hok0 : DV.okL x0.cells) (hok1 : DV.okL x1.cells) (hv0 : TypeAt w (Und w.heap.size) x0 v0) (hv1 : TypeAt w (Und w.heap.size) x1 v1) :
    Calls Try.prog 7 #[v0, v1] w fun e w' => e = .returned (.bool true) ∧ Below w.heap.size w w' := by
  obtain ⟨A0, c0, rfl, h0⟩ := hv0
  obtain ⟨A1, c1, rfl, h1⟩ := hv1
  exact lawMatches x0 A0 c0 x1 A1 c1 w hok0 h0 hok1 h1
end Go.Proofs.Ytkiofeiinecpiaa
