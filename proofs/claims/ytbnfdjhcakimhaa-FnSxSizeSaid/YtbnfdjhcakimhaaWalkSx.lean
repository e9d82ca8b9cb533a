/- The walk through a value in pre-order, each part with its level; what a stack of lists has still to give. -/
import Derived.Test.YtbnfdjhcakimhaaSxD
namespace Go.Proofs.Ytbnfdjhcakimhaa
open Go.RowKit

mutual
def SX.walk (d : Nat) : SX → List (Nat × SX)
  | .mk a c => (d, .mk a c) :: SX.walkL (d + 1) c
def SX.walkL (d : Nat) : List SX → List (Nat × SX)
  | [] => []
  | x :: r => x.walk d ++ SX.walkL d r
end
theorem SX.walk_eq (d : Nat) (x : SX) : x.walk d = (d, x) :: SX.walkL (d + 1) x.list := by cases x with | mk a c => rw [SX.walk]; rfl
/-- What the lists of a stack (the top one first) have still to give. -/
def todoSx : List (List SX) → List (Nat × SX)
  | [] => []
  | l :: r => SX.walkL r.length l ++ todoSx r
theorem todoSx_pop (r : List (List SX)) : todoSx ([] :: r) = todoSx r := by rw [todoSx, SX.walkL]; rfl
theorem todoSx_step (x : SX) (l : List SX) (r : List (List SX)) : todoSx ((x :: l) :: r) = (r.length, x) :: todoSx (x.list :: l :: r) := by
  rw [todoSx, todoSx, todoSx, SX.walkL, SX.walk_eq, List.length_cons]
  simp
theorem todoSx_start (x : SX) : todoSx [[x]] = x.walk 0 := by simp [todoSx, SX.walkL]
end Go.Proofs.Ytbnfdjhcakimhaa
