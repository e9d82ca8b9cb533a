/- The program's IsValidSExpr: what the reference model's is. -/
import Derived.Test.YtbcfeoobhemdcaaZValidImpl
namespace Go.Proofs.Ytbcfeoobhemdcaa
open Go.RowKit Go.Lib

set_option maxRecDepth 100000 in
set_option maxHeartbeats 1000000 in
theorem implValid (x : SX) (A : Option Addr) (c : Nat) (w : World) (hok : x.ok) (hl : ListAt w (Lt w.heap.size) A x.list) :
    Calls Try.prog 19 #[.agg #[.string x.atom, .slice A x.list.length c]] w fun e w' => e = .returned (.bool x.valid) ∧ Below w.heap.size w w' := by
  have hb0 : Below w.heap.size w (w.alloc (.cells #[.string x.atom, .slice A x.list.length c] 26)) := (Below.refl _ _).alloc (Nat.le_refl _) _
  have HL := Lib.hid (hl.grow hb0)
  have HV := Lib.hid (SX.fits_valid x)
  clear hl
  go_enter Try.func19, Try.ntmps19
  go_wp2_with fail
  refine (vsX _ x A c 14 900 _ (Nat.le_refl _) hok (by omega) (by omega) HL.out).mono ?_
  rintro e w1 ⟨⟨z, rfl, -⟩, hb1⟩
  have hb2 := hb0.trans (hb1.mono hb0.size)
  go_wp2
  go_ret
  exact ⟨congrArg (fun b => Ending.returned (.bool b)) HV.out, hb2⟩
end Go.Proofs.Ytbcfeoobhemdcaa
