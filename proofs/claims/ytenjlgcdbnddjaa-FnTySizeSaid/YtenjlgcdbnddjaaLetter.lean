/- Letters and digits: the program's tests on a rune. -/
import Derived.Test.YtenjlgcdbnddjaaBase
import Derived.Test.YtenjlgcdbnddjaaProg
import Derived.Outline
namespace Go.Proofs.Ytenjlgcdbnddjaa
open Go.RowKit

def letterR (r : Int) : Bool := decide (97 ≤ r) && decide (r ≤ 122)
def digitR (r : Int) : Bool := decide (48 ≤ r) && decide (r ≤ 57)

set_option maxRecDepth 100000 in
theorem letterIs (r : Int) (w : World) : Calls Try.prog 73 #[.int .i32 r] w fun e w' => e = .returned (.bool (letterR r)) ∧ w = w' := by
  by_cases h1 : 97 ≤ r
  all_goals (
    go_enter Try.func73, Try.ntmps73
    go_wp2
    go_ret
    refine ⟨congrArg (fun b => Ending.returned (.bool b)) ?_, rfl⟩
    (simp [letterR, h1]; try omega))
set_option maxRecDepth 100000 in
theorem digitIs (r : Int) (w : World) : Calls Try.prog 74 #[.int .i32 r] w fun e w' => e = .returned (.bool (digitR r)) ∧ w = w' := by
  by_cases h1 : 48 ≤ r
  all_goals (
    go_enter Try.func74, Try.ntmps74
    go_wp2
    go_ret
    refine ⟨congrArg (fun b => Ending.returned (.bool b)) ?_, rfl⟩
    (simp [digitR, h1]; try omega))
end Go.Proofs.Ytenjlgcdbnddjaa
