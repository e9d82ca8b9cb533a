/- The program's EqualBindings. -/
import Derived.Test.YtkiofeiinecpiaaQ1
import Derived.Test.YtkiofeiinecpiaaZTyEqJ
namespace Go.Proofs.Ytkiofeiinecpiaa
open Go.RowKit Go.Lib

/-- Are two bindings alike. -/
def BindingX.same (a b : BindingX) : Bool := decide (a.var_ = b.var_) && a.type_.same b.type_
def sameBs : List BindingX → List BindingX → Bool
  | x :: r, y :: s => x.same y && sameBs r s
  | _, _ => true
theorem sameBs_take : ∀ (l m : List BindingX) (j : Nat) (h : j < l.length) (h' : j < m.length), sameBs (l.take (j + 1)) (m.take (j + 1)) = (sameBs (l.take j) (m.take j) && l[j].same m[j])
  | x :: r, y :: s, 0, _, _ => by simp [sameBs]
  | x :: r, y :: s, j + 1, h, h' => by
    have := sameBs_take r s j (by simpa using h) (by simpa using h')
    rw [List.take_succ_cons, List.take_succ_cons, List.take_succ_cons, List.take_succ_cons, sameBs, sameBs, this]
    simp [Bool.and_assoc]
theorem sameBs_false : ∀ (l m : List BindingX) (j : Nat) (h : j < l.length) (h' : j < m.length), l[j].same m[j] = false → sameBs l m = false
  | x :: r, y :: s, 0, _, _, hf => by rw [sameBs]; simp at hf; rw [hf]; rfl
  | x :: r, y :: s, j + 1, h, h', hf => by rw [sameBs, sameBs_false r s j (by simpa using h) (by simpa using h') (by simpa using hf), Bool.and_false]
/-- Are two lists of bindings alike. -/
def eqBs (l m : List BindingX) : Bool := decide (l.length = m.length) && sameBs l m

end Go.Proofs.Ytkiofeiinecpiaa
