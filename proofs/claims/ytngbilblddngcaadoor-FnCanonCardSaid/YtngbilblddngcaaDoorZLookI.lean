/- The program's Lookup. -/
import Derived.Test.YtngbilblddngcaaDoorZCopyI
import Derived.Test.YtngbilblddngcaaDoorQ1
namespace Go.Proofs.YtngbilblddngcaaDoor
open Go.RowKit Go.Lib

/-- The zero type. -/
def zeroX : TypeX := .mk 0 ByteArray.empty []
/-- A type in memory of its own, and a bool. -/
def MadeB (x : TypeX) (b : Bool) (w : World) (e : Ending) (w' : World) : Prop :=
  ∃ (vs : List Value) (bs : List Nat), e = .returned (.tuple #[.agg vs.toArray, .bool b]) ∧ OwVs w' w.heap.size x.cells vs bs ∧ bs.Nodup ∧ Below w.heap.size w w'
theorem zeroX_own (w : World) (B : Nat) : OwVs w B zeroX.cells [.int .i64 0, .string ByteArray.empty, .slice none 0 0] [] := by
  rw [TypeX.cells_eq]
  simp only [OwVs, OwV, zeroX, TypeX.kind_, TypeX.name_, TypeX.args_, TypeX.rows, OwVE]
  exact ⟨_, _, [], [], rfl, rfl, ⟨rfl, rfl⟩, _, _, [], [], rfl, rfl, ⟨rfl, rfl⟩, _, _, [], [], rfl, rfl, ⟨[], [], World.ownsRow_nil _ _ _ _, ⟨rfl, rfl⟩, rfl⟩, rfl, rfl⟩
theorem look_here {l : List BindingX} {k : Nat} {v : ByteArray} (h : k < l.length) (hn : lookX v (l.take k) = none) (he : l[k].var_ = v) : lookX v l = some l[k].type_ := by
  have e : l = l.take k ++ (l[k] :: l.drop (k + 1)) := by rw [← List.drop_eq_getElem_cons h, List.take_append_drop]
  rw [congrArg (lookX v) e, lookX_append, hn, lookX, if_pos (by rw [he]; simp)]
  simp
theorem look_on {l : List BindingX} {k : Nat} {v : ByteArray} (h : k < l.length) (hn : lookX v (l.take k) = none) (he : l[k].var_ ≠ v) : lookX v (l.take (k + 1)) = none := by
  rw [List.take_succ_eq_append_getElem h, lookX_append, hn, lookX_one, if_neg (fun e => he (data_inj (beq_iff_eq.1 e)))]
  rfl

end Go.Proofs.YtngbilblddngcaaDoor
