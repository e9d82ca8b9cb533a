/- The program's TypeVariables. -/
import Derived.Test.YtngbilblddngcaaDoorZTypesIn
import Derived.Test.YtngbilblddngcaaDoorQ2
import Derived.Test.YtngbilblddngcaaDoorZTyVars
import Derived.Test.YtngbilblddngcaaDoorZTySizeI
import Derived.Test.YtngbilblddngcaaDoorZTyValidI
import Derived.Test.YtngbilblddngcaaDoorQ1
namespace Go.Proofs.YtngbilblddngcaaDoor
open Go.RowKit Go.Shelf Go.Lib
attribute [local go_sem] Oper.semAt_some

/-- The variables' names, as they come. -/
def varW : List (Nat × TypeX) → List ByteArray
  | [] => []
  | p :: r => if p.2.kind_ = 1 then p.2.name_ :: varW r else varW r
theorem varW_app : ∀ (a b : List (Nat × TypeX)), varW (a ++ b) = varW a ++ varW b
  | [], b => rfl
  | p :: r, b => by
    rw [List.cons_append, varW, varW, varW_app r b]
    split <;> rfl
theorem varW_len : ∀ (a : List (Nat × TypeX)), (varW a).length ≤ a.length
  | [] => Nat.le_refl _
  | p :: r => by
    have h := varW_len r
    rw [varW, List.length_cons]
    split
    · rw [List.length_cons]; omega
    · omega
theorem varW_mem {s : ByteArray} : ∀ {a : List (Nat × TypeX)}, s ∈ varW a → ∃ p ∈ a, s = p.2.name_
  | p :: r, h => by
    rw [varW] at h
    split at h
    · rcases List.mem_cons.1 h with rfl | h
      · exact ⟨p, List.mem_cons_self, rfl⟩
      · obtain ⟨q, hq, e⟩ := varW_mem h
        exact ⟨q, List.mem_cons_of_mem _ hq, e⟩
    · obtain ⟨q, hq, e⟩ := varW_mem h
      exact ⟨q, List.mem_cons_of_mem _ hq, e⟩
mutual
theorem TypeX.walk_vars (d : Nat) : ∀ (x : TypeX) (acc : List ByteArray), uniF acc (varW (x.walk d)) = x.vars acc
  | .mk a b c, acc => by
    rw [TypeX.walk, TypeX.vars, varW]
    show uniF acc (if a = 1 then b :: varW (TypeX.walkL (d + 1) c) else varW (TypeX.walkL (d + 1) c)) = _
    by_cases h : a = 1
    · rw [if_pos h, if_pos h, ← TypeX.walkL_vars (d + 1) c]; rfl
    · rw [if_neg h, if_neg h, ← TypeX.walkL_vars (d + 1) c]
theorem TypeX.walkL_vars (d : Nat) : ∀ (l : List TypeX) (acc : List ByteArray), uniF acc (varW (TypeX.walkL d l)) = TypeX.varsL acc l
  | [], acc => by rw [TypeX.walkL, TypeX.varsL]; rfl
  | x :: r, acc => by rw [TypeX.walkL, TypeX.varsL, varW_app, uniF_append, TypeX.walk_vars d x, TypeX.walkL_vars d r]
end
theorem ownBlock_ge {w : World} {B size n : Nat} {e : TypeId} {v : Value} {xs : List Value} (h : w.ownsRow B e size v n xs) {b : Nat} (hb : b < B) : some b ≠ v.ownBlock := fun e => by have := (h.lt b e.symm).1; omega

end Go.Proofs.YtngbilblddngcaaDoor
