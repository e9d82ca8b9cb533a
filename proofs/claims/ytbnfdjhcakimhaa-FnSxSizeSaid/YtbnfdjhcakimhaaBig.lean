/- The laws' guard on the code's length. -/
import Derived.Test.YtbnfdjhcakimhaaDraw
namespace Go.Proofs.Ytbnfdjhcakimhaa
open Go.RowKit

theorem bigNo (A : Option Addr) (n c : Nat) (w : World) (hn : n ≤ 1048576) : Calls Try.prog 13 #[.slice A n c] w fun e w' => e = .returned (.bool false) ∧ w = w' := by
  have g : decide ((1048576 : Int) < n) = false := by simp; omega
  go_enter Try.func13, Try.ntmps13
  go_wp2
  go_ret
  exact ⟨rfl, rfl⟩
theorem bigYes (A : Option Addr) (n c : Nat) (w : World) (hn : 1048576 < n) : Calls Try.prog 13 #[.slice A n c] w fun e w' => e = .returned (.bool true) ∧ w = w' := by
  have g : decide ((1048576 : Int) < n) = true := by simp; omega
  go_enter Try.func13, Try.ntmps13
  go_wp2
  go_ret
  exact ⟨rfl, rfl⟩
end Go.Proofs.Ytbnfdjhcakimhaa
