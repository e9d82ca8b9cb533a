/- The draw of a substitution and a type. -/
import Derived.Test.YtngbilblddngcaaDoorZDrawB
import Derived.Test.YtngbilblddngcaaDoorZDrawTy5
namespace Go.Proofs.YtngbilblddngcaaDoor
open Go.RowKit Go.Lib

def DrawnAp (w : World) (e : Ending) (w' : World) : Prop := ∃ (l : List BindingX) (A : Option Addr) (c : Nat) (x : TypeX) (D : Option Addr) (d : Nat),
  e = .returned (.tuple #[.slice A l.length c, .agg #[.int .i64 x.kind_, .string x.name_, .slice D x.args_.length d]]) ∧ BindingRow w' (Und w'.heap.size) A c l ∧ TypeRow w' (Und w'.heap.size) D d x.args_ ∧ l.length ≤ 4 ∧ OkBs l ∧ x.size ≤ 100 ∧ x.tame ∧ Below w.heap.size w w'

end Go.Proofs.YtngbilblddngcaaDoor
