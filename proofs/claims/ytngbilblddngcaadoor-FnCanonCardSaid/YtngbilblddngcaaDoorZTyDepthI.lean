/- The program's TypeDepth. -/
import Derived.Test.YtngbilblddngcaaDoorZTypesIn
import Derived.Test.YtngbilblddngcaaDoorQ2
import Derived.Test.YtngbilblddngcaaDoorZTySizeI
namespace Go.Proofs.YtngbilblddngcaaDoor
open Go.RowKit Go.Shelf Go.Lib
attribute [local go_sem] Oper.semAt_some

/-- The highest level. -/
def topLvl : List (Nat × TypeX) → Nat
  | [] => 0
  | p :: r => max p.1 (topLvl r)
theorem topLvl_app : ∀ (a b : List (Nat × TypeX)), topLvl (a ++ b) = max (topLvl a) (topLvl b)
  | [], b => by simp [topLvl]
  | p :: r, b => by rw [List.cons_append, topLvl, topLvl, topLvl_app r b]; omega
mutual
theorem TypeX.walk_depth (d : Nat) : ∀ x : TypeX, topLvl (x.walk d) = d + x.depth
  | .mk a b c => by
    rw [TypeX.walk, TypeX.depth, topLvl]
    have h := TypeX.walkL_depth d c
    omega
theorem TypeX.walkL_depth (d : Nat) : ∀ l : List TypeX, max d (topLvl (TypeX.walkL (d + 1) l)) = d + TypeX.depthL l
  | [] => by rw [TypeX.walkL, TypeX.depthL, topLvl]; omega
  | x :: r => by
    rw [TypeX.walkL, TypeX.depthL, topLvl_app, TypeX.walk_depth (d + 1) x]
    have h := TypeX.walkL_depth d r
    omega
end

end Go.Proofs.YtngbilblddngcaaDoor
