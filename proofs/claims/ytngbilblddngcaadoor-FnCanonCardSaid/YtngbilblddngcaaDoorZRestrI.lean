/- The program's RestrictTo. -/
import Derived.Test.YtngbilblddngcaaDoorZCopyI
import Derived.Test.YtngbilblddngcaaDoorQ1
import Derived.Test.YtngbilblddngcaaDoorQ2
import Derived.Deep.AppendLies
import Derived.Deep.RegionLaw
namespace Go.Proofs.YtngbilblddngcaaDoor
open Go.RowKit Go.Lib

theorem seen_block {P : Program} {k e : TypeId} {w w' : World} {b n : Nat} {l : List ByteArray} (h : Seen P k e w b n l) (hb : w'.heap[b]? = w.heap[b]?) : Seen P k e w' b n l := by
  obtain ⟨D, h1, h2⟩ := h
  obtain ⟨es, clock, hb1, F, hs, hD⟩ := h1
  exact ⟨D, ⟨es, clock, hb.trans hb1, F, hs, hD⟩, h2⟩
/-- The bindings of the names in a list. -/
def keptX (vars : List ByteArray) (l : List BindingX) : List BindingX := l.filter fun b => has vars b.var_
theorem keptX_yes {vars : List ByteArray} {l : List BindingX} {k : Nat} (h : k < l.length) (hy : has vars l[k].var_ = true) : keptX vars (l.take (k + 1)) = keptX vars (l.take k) ++ [l[k]] := by
  rw [List.take_succ_eq_append_getElem h, keptX, List.filter_append]
  simp [keptX, hy]
theorem keptX_no {vars : List ByteArray} {l : List BindingX} {k : Nat} (h : k < l.length) (hy : has vars l[k].var_ = false) : keptX vars (l.take (k + 1)) = keptX vars (l.take k) := by
  rw [List.take_succ_eq_append_getElem h, keptX, List.filter_append]
  simp [keptX, hy]
theorem keptX_len (vars : List ByteArray) (l : List BindingX) : (keptX vars l).length ≤ l.length := List.length_filter_le _ _
end Go.Proofs.YtngbilblddngcaaDoor
