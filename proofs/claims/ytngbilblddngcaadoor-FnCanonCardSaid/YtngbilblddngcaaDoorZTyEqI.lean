/- The program's EqualType: two stacks, a comparison and the parts as function values. -/
import Derived.Test.YtngbilblddngcaaDoorQ1
import Derived.Test.YtngbilblddngcaaDoorZPreType
import Derived.Deep.LoopGhost
import Derived.Deep.CutRange
import Derived.RegionTactic
import Derived.Lib.QuietBelow
import Derived.BigQuiet
namespace Go.Proofs.YtngbilblddngcaaDoor
open Go.RowKit Go.Lib
set_option maxRecDepth 100000 in
set_option maxHeartbeats 2000000 in
theorem implRoot (k k' : Int) (s s' : ByteArray) (A B : Option Addr) (n c m d : Nat) (w : World) :
    Calls Tryd.prog 59 #[.agg #[.int .i64 k, .string s, .slice A n c], .agg #[.int .i64 k', .string s', .slice B m d]] w fun e w' => e = .returned (.bool ((k == k') && decide (s = s'))) ∧ Below w.heap.size w w' := by
  have hb0 : Below w.heap.size w ((w.alloc (.cells #[.int .i64 k, .string s, .slice A n c] 26)).alloc (.cells #[.int .i64 k', .string s', .slice B m d] 26)) := ((Below.refl _ _).alloc (Nat.le_refl _) _).alloc (by simp) _
  cases hk : (k == k') with
  | false =>
    go_enter Tryd.func59, Tryd.ntmps59
    go_wp2
    go_ret
    exact ⟨rfl, hb0⟩
  | true =>
    by_cases hs : s = s'
    · have he1 : (s.toList == s'.toList) = true := by rw [hs]; simp
      have HS := Lib.hid (decide_eq_true hs)
      clear hs
      go_enter Tryd.func59, Tryd.ntmps59
      go_wp2
      go_ret
      exact ⟨congrArg (fun b => Ending.returned (.bool b)) (by rw [HS.out]; rfl), hb0⟩
    · have he1 : (s.toList == s'.toList) = false := text_ne hs
      have HS := Lib.hid (decide_eq_false hs)
      clear hs
      go_enter Tryd.func59, Tryd.ntmps59
      go_wp2
      go_ret
      exact ⟨congrArg (fun b => Ending.returned (.bool b)) (by rw [HS.out]; rfl), hb0⟩
end Go.Proofs.YtngbilblddngcaaDoor
