/- Joining strings: what the program's Join returns. -/
import Derived.Test.YtfcedkcfnifdfaaJoinFacts
import Derived.Test.YtfcedkcfnifdfaaShelfJoin
import Derived.Lib.Join
import Derived.Lib.Hide
namespace Go.Proofs.Ytfcedkcfnifdfaa
open Go.RowKit Go.Lib

theorem implJoin (g : Nat) (ss : List ByteArray) (sep : ByteArray) (w : World) (hw : Whole w g 9 (ss.map Value.string).toArray) (h1 : ss.length ≤ 4294967296) (hl : (join (ss.map (·.data.toList)) sep.data.toList).length ≤ 1099512676352) :
    Calls Try.prog 63 #[.slice (some ⟨g, 0, none⟩) ss.length ss.length, .string sep] w fun e w' => e = .returned (.string ⟨(join (ss.map (·.data.toList)) sep.data.toList).toArray⟩) ∧ Below w.heap.size w w' := by
  have hc : ∀ (j : Nat) x, ss[j]? = some x → w.cell? ⟨g, 0 + j, none⟩ = some (.string x) := fun j x hj => by rw [hw.cell, Nat.zero_add]; simp [hj]
  have HC := Lib.hid hc
  clear hc
  go_enter Try.func63, Try.ntmps63
  go_wp2_with fail
  refine (Try.strings_Join g 0 ss.length ss sep _ HC.out hw.lt (by omega) (Nat.le_refl _) (by omega)).mono ?_
  rintro e w1 ⟨rfl, hb⟩
  go_wp2
  go_ret
  exact ⟨rfl, hb⟩
end Go.Proofs.Ytfcedkcfnifdfaa
