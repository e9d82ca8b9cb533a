/- A slice of strings that came in, in the walks' own words. -/
import Derived.Test.YtoncigfjgneecaaMem
import Derived.ProofKit
import Derived.OpenShut
import Derived.SliceStrings
namespace Go.Proofs.Ytoncigfjgneecaa
open Go.ChangeShapes Go.WideShapes Go.ChangeAt Go.RowKit Go.WideMaps Go.WideElems

theorem strs_of {w : World} {a : Addr} {ss : List ByteArray} {len : Nat} (hb : a.block < w.heap.size ∨ ss = []) (h : ∀ i, i < ss.length → w.cell? (a.add i) = some (.string (ss.getD i ByteArray.empty))) : Strs w (some a) (ss.take len) := by
  by_cases h0 : (ss.take len) = []
  · exact .inl h0
  · have hp : 0 < ss.length := by
      cases ss with
      | nil => simp at h0
      | cons x r => simp
    obtain ⟨b, off, spot⟩ := a
    have hspot : spot = none := by simpa [Addr.add] using World.cell?_spot (h 0 hp)
    subst hspot
    refine .inr ⟨b, off, rfl, ?_, fun j s hj => ?_⟩
    · rcases hb with hb | hb
      · exact hb
      · subst hb; simp at hp
    · have hjl : j < ss.length ∧ ss[j]? = some s := by
        rw [List.getElem?_take] at hj
        split at hj
        · exact ⟨(List.getElem?_eq_some_iff.1 hj).1, hj⟩
        · cases hj
      have := h j hjl.1
      rw [Go.WideShapes.add_plain] at this
      rw [this]
      simp [List.getD, hjl.2]
end Go.Proofs.Ytoncigfjgneecaa
