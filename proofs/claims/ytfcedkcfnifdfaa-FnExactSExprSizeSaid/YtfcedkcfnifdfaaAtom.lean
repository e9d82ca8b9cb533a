/- The reference model's atoms: which bytes, which texts. -/
import Derived.Test.YtfcedkcfnifdfaaBase
import Derived.Test.YtfcedkcfnifdfaaProg
import Derived.Lib.Hide
import Derived.Outline
namespace Go.Proofs.Ytfcedkcfnifdfaa
open Go.RowKit

/-- A byte of an atom. -/
def okByte (c : UInt8) : Bool := (decide (97 ≤ c.toNat) && decide (c.toNat ≤ 122)) || (decide (48 ≤ c.toNat) && decide (c.toNat ≤ 57)) || (c.toNat == 39) || (c.toNat == 45) || (c.toNat == 43) || (c.toNat == 42) || (c.toNat == 60) || (c.toNat == 61) || (c.toNat == 46)

set_option maxRecDepth 100000 in
set_option maxHeartbeats 1000000 in
theorem byteIs (c : UInt8) (w : World) : Calls Try.prog 53 #[.int .u8 c.toNat] w fun e w' => e = .returned (.bool (okByte c)) ∧ w = w' := by
  go_enter Try.func53, Try.ntmps53
  go_wp2
  go_ways
  all_goals (
    go_ret
    refine ⟨congrArg (fun b => Ending.returned (.bool b)) ?_, rfl⟩
    rw [Bool.eq_iff_iff]
    simp only [okByte, Bool.or_eq_true, Bool.and_eq_true, decide_eq_true_eq, beq_iff_eq, true_iff]
    omega)
end Go.Proofs.Ytfcedkcfnifdfaa
