/- Small laws that several walks share: one byte made into a string; worlds that only grow. -/
import Derived.WalkKit
import Derived.Laws.BytesArg
namespace Go.Proofs.Ytbnfdjhcakimhaa
open Go.RowKit

/-- A slice of one byte, just made, becomes the string of that byte. -/
theorem conv_one {P : Program} {src dst e : TypeId} (hs : P.underlying src = some (.slice e)) (he : P.underlying e = some (.int .u8)) (hd : P.underlying dst = some .string) (w : World) (z : Int) :
    (convert src dst (.slice (some ⟨w.heap.size, 0, none⟩) 1 1)).run P (w.alloc (.cells #[.int .u8 z] e)) = .ok (.string ⟨#[UInt8.ofNat z.toNat]⟩) (w.alloc (.cells #[.int .u8 z] e)) := by
  have h := run_convert_bytes_arg (P := P) (w.alloc (.cells #[.int .u8 z] e)) src e hs he w.heap.size 0 1 1 [z] rfl (fun i hi => by
    obtain rfl : i = 0 := by omega
    simp) dst hd
  rw [h]
  rfl
theorem append_byte (b : UInt8) (l : List UInt8) : (⟨#[b]⟩ : ByteArray) ++ (⟨l.toArray⟩ : ByteArray) = ⟨(b :: l).toArray⟩ := by
  apply ByteArray.ext
  simp
theorem ret_str {a b : ByteArray} (h : a = b) : Ending.returned (.string a) = .returned (.string b) := by rw [h]
theorem ret_int {k : IntKind} {a b : Int} (h : a = b) : Ending.returned (.int k a) = .returned (.int k b) := by rw [h]
theorem int_of {k : IntKind} {a b : Int} (h : a = b) : Value.int k a = .int k b := by rw [h]
theorem str_of {a b : ByteArray} (h : a = b) : Value.string a = .string b := by rw [h]

/-- Two new cells, then a world that only grew: what they hold. -/
theorem two_cells {w w1 : World} {a b : Value} {s t : TypeId} (h : Below ((w.alloc (.cells #[a] s)).alloc (.cells #[b] t)).heap.size ((w.alloc (.cells #[a] s)).alloc (.cells #[b] t)) w1) :
    w1.cell? ⟨w.heap.size, 0, none⟩ = some a ∧ w1.frozen? ⟨w.heap.size, 0, none⟩ = false ∧ w1.cell? ⟨w.heap.size + 1, 0, none⟩ = some b ∧ w1.frozen? ⟨w.heap.size + 1, 0, none⟩ = false ∧ Below w.heap.size w w1 ∧ w.heap.size + 1 < w1.heap.size := by
  have hz := h.size
  simp at hz
  refine ⟨(h.cell (p := ⟨w.heap.size, 0, none⟩) (by simp; omega)).trans (by simp [go_sem]), (h.frozen (p := ⟨w.heap.size, 0, none⟩) (by simp; omega)).trans (by simp [go_sem]),
    (h.cell (p := ⟨w.heap.size + 1, 0, none⟩) (by simp)).trans (by simp [go_sem]), (h.frozen (p := ⟨w.heap.size + 1, 0, none⟩) (by simp)).trans (by simp [go_sem]), ?_, by omega⟩
  exact (((Below.refl w.heap.size w).alloc (Nat.le_refl _) _).alloc (by simp) _).trans (h.mono (by simp; omega))
/-- The two cells written: what they hold. -/
theorem two_set {w w1 : World} {a b u v : Value} {B : Nat} (c1 : w1.cell? ⟨w.heap.size, 0, none⟩ = some a) (c2 : w1.cell? ⟨w.heap.size + 1, 0, none⟩ = some b) (hb : Below w.heap.size w w1) (hB : B = w.heap.size) :
    ((w1.setCell ⟨w.heap.size, 0, none⟩ u).setCell ⟨w.heap.size + 1, 0, none⟩ v).cell? ⟨w.heap.size, 0, none⟩ = some u ∧ ((w1.setCell ⟨w.heap.size, 0, none⟩ u).setCell ⟨w.heap.size + 1, 0, none⟩ v).cell? ⟨w.heap.size + 1, 0, none⟩ = some v ∧
      Below B w ((w1.setCell ⟨w.heap.size, 0, none⟩ u).setCell ⟨w.heap.size + 1, 0, none⟩ v) := by
  subst hB
  have hne : (⟨w.heap.size + 1, 0, none⟩ : Addr) ≠ ⟨w.heap.size, 0, none⟩ := by intro e; injection e with e; omega
  have c2' : (w1.setCell ⟨w.heap.size, 0, none⟩ u).cell? ⟨w.heap.size + 1, 0, none⟩ = some b := (World.cell?_setCell_other w1 _ _ _ (Ne.symm hne)).trans c2
  refine ⟨(World.cell?_setCell_other _ _ _ _ hne).trans (World.cell?_setCell_same _ _ _ c1), World.cell?_setCell_same _ _ _ c2', (hb.setCell (by simp) _).setCell (by simp) _⟩
end Go.Proofs.Ytbnfdjhcakimhaa
