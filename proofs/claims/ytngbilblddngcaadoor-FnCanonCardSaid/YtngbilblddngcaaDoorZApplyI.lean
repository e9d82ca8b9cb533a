/- The program's Apply. -/
import Derived.Test.YtngbilblddngcaaDoorZCopyI
import Derived.Deep.RegionHeld3
namespace Go.Proofs.YtngbilblddngcaaDoor
open Go.RowKit Go.Lib

/-- The substitution that a list of bindings is. -/
def subX (l : List BindingX) (s : ByteArray) : Option TypeX := lookX s l
/-- The bindings' types are not too large. -/
def SmallX (l : List BindingX) : Prop := ∀ s y, lookX s l = some y → y.size ≤ 4294967296

theorem SubstAt.lt {w : World} {P : Nat → Prop} {b : Nat} {l : List BindingX} (h : SubstAt w P b l) : b < w.heap.size := by
  obtain ⟨vl, h, _⟩ := h
  exact h.lt

end Go.Proofs.YtngbilblddngcaaDoor
