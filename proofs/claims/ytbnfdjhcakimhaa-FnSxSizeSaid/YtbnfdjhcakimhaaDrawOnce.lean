/- A draw that is true once in so many times. -/
import Derived.Test.YtbnfdjhcakimhaaDraw
namespace Go.Proofs.Ytbnfdjhcakimhaa
open Go.RowKit

def IsBool (v : Value) : Prop := ∃ x : Bool, v = .bool x
theorem drawOnce (B g : Nat) (n : Int) (w : World) (hw : Cur w B g) (h0 : 0 < n) (h1 : n ≤ 9223372036854775807) :
    Calls Try.prog 65 #[.pointer (some ⟨g, 0, none⟩), .int .i64 n] w (Drawn IsBool B g w) := by
  go_enter Try.func65, Try.ntmps65
  go_wp2_with fail
  refine (drawBelow B g n _ hw h0 h1).mono ?_
  rintro e w1 ⟨v, rfl, ⟨x, rfl, x0, x1⟩, hc1, hb1⟩
  go_wp2
  go_ret
  exact ⟨_, rfl, ⟨_, rfl⟩, hc1, hb1⟩
end Go.Proofs.Ytbnfdjhcakimhaa
