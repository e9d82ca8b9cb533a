/- The size of a type: the reference model's. -/
import Derived.Test.YtbnfdjhcakimhaaZTypeSz
import Derived.Test.YtbnfdjhcakimhaaQ1
namespace Go.Proofs.Ytbnfdjhcakimhaa
open Go.RowKit Go.Lib

mutual
def TypeX.size : TypeX → Nat
  | .mk _ _ l => 1 + TypeX.sizeL l
def TypeX.sizeL : List TypeX → Nat
  | [] => 0
  | x :: r => x.size + TypeX.sizeL r
end
theorem TypeX.size_eq (x : TypeX) : x.size = 1 + TypeX.sizeL x.args_ := by cases x with | mk a b c => rw [TypeX.size]; rfl
theorem TypeX.sizeL_take : ∀ (l : List TypeX) (j : Nat) (h : j < l.length), TypeX.sizeL (l.take (j + 1)) = TypeX.sizeL (l.take j) + l[j].size
  | x :: r, 0, _ => by simp [TypeX.sizeL]
  | x :: r, j + 1, h => by
    have := TypeX.sizeL_take r j (by simpa using h)
    rw [List.take_succ_cons, List.take_succ_cons, TypeX.sizeL, TypeX.sizeL, this]
    simp; omega
theorem TypeX.sizeL_le : ∀ (l : List TypeX) (j : Nat), TypeX.sizeL (l.take j) ≤ TypeX.sizeL l
  | [], j => by simp
  | x :: r, 0 => by simp [TypeX.sizeL]
  | x :: r, j + 1 => by
    have := TypeX.sizeL_le r j
    rw [List.take_succ_cons, TypeX.sizeL, TypeX.sizeL]; omega

end Go.Proofs.Ytbnfdjhcakimhaa
