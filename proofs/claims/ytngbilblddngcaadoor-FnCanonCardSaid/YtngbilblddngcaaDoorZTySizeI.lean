/- The program's TypeSize. -/
import Derived.Test.YtngbilblddngcaaDoorZTypesIn
import Derived.Test.YtngbilblddngcaaDoorQ1
namespace Go.Proofs.YtngbilblddngcaaDoor
open Go.RowKit Go.Shelf Go.Lib
attribute [local go_sem] Oper.semAt_some

mutual
theorem TypeX.walk_size (d : Nat) : ∀ x : TypeX, (x.walk d).length = x.size
  | .mk a b c => by rw [TypeX.walk, TypeX.size, List.length_cons, TypeX.walkL_size (d + 1) c]; omega
theorem TypeX.walkL_size (d : Nat) : ∀ l : List TypeX, (TypeX.walkL d l).length = TypeX.sizeL l
  | [] => by rw [TypeX.walkL, TypeX.sizeL]; rfl
  | x :: r => by rw [TypeX.walkL, TypeX.sizeL, List.length_append, TypeX.walk_size d x, TypeX.walkL_size d r]
end

end Go.Proofs.YtngbilblddngcaaDoor
