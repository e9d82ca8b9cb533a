/- The reference model's MatchAll; a row of one type (for Match). -/
import Derived.Test.YtngbilblddngcaaDoorZSpMatch
namespace Go.Proofs.YtngbilblddngcaaDoor
open Go.RowKit Go.Lib

/-- Bindings in memory of their own, and a bool. -/
def MadeBs (l : List BindingX) (b : Bool) (w : World) (e : Ending) (w' : World) : Prop :=
  ∃ (V : Value) (bs : List Nat), e = .returned (.tuple #[V, .bool b]) ∧ OwV w' w.heap.size (.row 58 4 (BindingX.rows l)) V bs ∧ bs.Nodup ∧ Below w.heap.size w w'
theorem MadeBs.of {l : List BindingX} {b : Bool} {V : Value} {w w' : World} (h : KeptAt w.heap.size l V w') (hb : Below w.heap.size w w') : MadeBs l b w (.returned (.tuple #[V, .bool b])) w' := by
  obtain ⟨bs, h1, h2⟩ := h.row
  exact ⟨V, bs, rfl, h1, h2, hb⟩
/-- An empty row in a block of its own. -/
theorem kept_empty (w : World) (B : Nat) (hB : B ≤ w.heap.size) : KeptAt B [] (.slice (some ⟨w.heap.size, 0, none⟩) 0 0) (w.alloc (.cells #[] 58)) :=
  ⟨[], [], World.ownsRow_made (base := B) (e := 58) (size := 4) w #[] 0 hB (by decide) rfl, by rw [BindingX.rows_map, List.map_nil, OwVE]; exact ⟨rfl, rfl⟩, by simp [Value.ownBlock]⟩

/-- A new row of one type. -/
theorem row_alone {w : World} {x : TypeX} {A : Option Addr} {c : Nat} (h : TypeRow w (Und w.heap.size) A c x.args_) :
    TypeRow (w.alloc (.cells #[.int .i64 x.kind_, .string x.name_, .slice A x.args_.length c] 26)) (Und (w.alloc (.cells #[.int .i64 x.kind_, .string x.name_, .slice A x.args_.length c] 26)).heap.size) (some ⟨w.heap.size, 0, none⟩) 1 [x] := by
  have hb : Below w.heap.size w (w.alloc (.cells #[.int .i64 x.kind_, .string x.name_, .slice A x.args_.length c] 26)) := (Below.refl _ _).alloc (Nat.le_refl _) _
  have hw := Whole.new w 26 #[.int .i64 x.kind_, .string x.name_, .slice A x.args_.length c]
  have hx := h.grow hb
  refine RdV_row.2 ⟨some ⟨w.heap.size, 0, none⟩, 1, rfl, Nat.le_refl _, by decide, .inr ⟨w.heap.size, 0, rfl, by show w.heap.size < _; simp, [.int .i64 x.kind_, .string x.name_, .slice A x.args_.length c], ?_, fun i v hi => ?_⟩⟩
  · rw [TypeX.rows, TypeX.rows, RdVE]
    refine ⟨[.int .i64 x.kind_, .string x.name_, .slice A x.args_.length c], [], rfl, x.cells_length, ?_, by rw [RdVE]⟩
    rw [TypeX.cells_eq]
    simp only [RdVs]
    exact ⟨_, _, rfl, by rw [RdV_pl], _, _, rfl, by rw [RdV_pl], _, _, rfl, hx, rfl⟩
  · rw [Nat.zero_add, hw.cell]
    simpa using hi
end Go.Proofs.YtngbilblddngcaaDoor
