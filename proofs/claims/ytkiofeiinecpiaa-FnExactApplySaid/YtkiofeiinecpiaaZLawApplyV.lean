/- The law of Apply, its type by value. -/
import Derived.Test.YtkiofeiinecpiaaZLawApply
namespace Go.Proofs.Ytkiofeiinecpiaa
open Go.RowKit Go.Lib

theorem lawApplyV (l0 : List BindingX) (A0 : Option Addr) (c0 : Nat) (x1 : TypeX) (v : Value) (w : World) (hok0 : DV.okE (BindingX.rows l0)) (hn0 : l0.length ≤ 9223372036854775807) (hv0 : BindingRow w (Und w.heap.size) A0 c0 l0) (hok1 : DV.okL x1.cells) (hv1 : TypeAt w (Und w.heap.size) x1 v) :
    Calls Try.prog 9 #[.slice A0 l0.length c0, v] w fun e w' => e = .returned (.bool true) ∧ Below w.heap.size w w' := by
  obtain ⟨A1, c1, rfl, hr1⟩ := hv1
  exact lawApply l0 A0 c0 x1 A1 c1 w hok0 hn0 hv0 hok1 hr1
end Go.Proofs.Ytkiofeiinecpiaa
