/- The program's SExpr as plain data; how they lie in memory. -/
import Derived.Test.YtbnfdjhcakimhaaZDvW
import Derived.Test.YtbnfdjhcakimhaaQ1
import Derived.Test.YtbnfdjhcakimhaaZDvS
namespace Go.Proofs.Ytbnfdjhcakimhaa
open Go.RowKit Go.Lib

mutual
/-- The cells of a value. -/
def SX.cells : SX → List DV
  | .mk atom list => [.pl (.string atom), .row 26 2 (SX.rows list)]
def SX.rows : List SX → List (List DV)
  | [] => []
  | x :: r => x.cells :: SX.rows r
end
theorem SX.cells_eq (x : SX) : x.cells = [.pl (.string x.atom), .row 26 2 (SX.rows x.list)] := by cases x with | mk xatom xlist => rw [SX.cells]; rfl
theorem SX.rows_map : ∀ l : List SX, SX.rows l = l.map SX.cells
  | [] => by rw [SX.rows]; rfl
  | x :: r => by rw [SX.rows, SX.rows_map r]; rfl
theorem SX.rows_length (l : List SX) : (SX.rows l).length = l.length := by rw [SX.rows_map, List.length_map]
theorem SX.rows_at (l : List SX) (j : Nat) (h : j < l.length) (h' : j < (SX.rows l).length) : (SX.rows l)[j] = l[j].cells := by simp [SX.rows_map]
theorem SX.rows_take (l : List SX) (j : Nat) : SX.rows (l.take j) = (SX.rows l).take j := by simp [SX.rows_map, List.map_take]
theorem SX.rows_snoc (l : List SX) (x : SX) : SX.rows (l ++ [x]) = SX.rows l ++ [x.cells] := by simp [SX.rows_map]
theorem SX.cells_length (x : SX) : x.cells.length = 2 := by rw [SX.cells_eq]; rfl
/-- The slice at A reads as this list. -/
def SxRow (w : World) (P : Nat → Prop) (A : Option Addr) (c : Nat) (l : List SX) : Prop := RdV w P (.row 26 2 (SX.rows l)) (.slice A l.length c)
theorem SxRow.frame {w w' : World} {P Q : Nat → Prop} {A : Option Addr} {c : Nat} {l : List SX} (h : SxRow w P A c l) (hPQ : ∀ b, P b → Q b) (hk : ∀ b o, P b → w'.cell? ⟨b, o, none⟩ = w.cell? ⟨b, o, none⟩) : SxRow w' Q A c l := RdV_frame hPQ hk _ h
theorem SxRow.grow {w w' : World} {A : Option Addr} {c : Nat} {l : List SX} (h : SxRow w (Und w.heap.size) A c l) (hb : Below w.heap.size w w') : SxRow w' (Und w'.heap.size) A c l := RdV.grow h hb
theorem SxRow.of_read {w : World} {P : Nat → Prop} {l : List SX} {v : Value} (h : RdV w P (.row 26 2 (SX.rows l)) v) : ∃ A c, v = .slice A l.length c ∧ SxRow w P A c l := by
  obtain ⟨A, c, rfl, _, _⟩ := h.shape
  rw [SX.rows_length] at h ⊢
  exact ⟨A, c, rfl, h⟩
theorem SxRow.cap {w : World} {P : Nat → Prop} {A : Option Addr} {c : Nat} {l : List SX} (h : SxRow w P A c l) : l.length ≤ c ∧ c ≤ 9223372036854775807 := by
  obtain ⟨A', c', e, h1, h2⟩ := RdV.shape h
  injection e with _ _ e
  rw [SX.rows_length] at h1
  omega
theorem SxRow.nil (w : World) (P : Nat → Prop) (c : Nat) (A : Option Addr) (hc : c ≤ 9223372036854775807) : SxRow w P A c [] := RdV_row.2 ⟨A, c, by rw [SX.rows_length], by rw [SX.rows_length]; exact Nat.zero_le _, hc, .inl (by rw [SX.rows_map]; rfl)⟩
/-- This value, by value. -/
def SxAt (w : World) (P : Nat → Prop) (x : SX) (v : Value) : Prop := ∃ (A1 : Option Addr) (c1 : Nat), v = .agg #[.string x.atom, .slice A1 x.list.length c1] ∧ SxRow w P A1 c1 x.list
theorem SxAt.of_reads {w : World} {P : Nat → Prop} {x : SX} {vs : List Value} (h : RdVs w P x.cells vs) : SxAt w P x (.agg vs.toArray) := by
  rw [SX.cells_eq] at h
  simp only [RdVs] at h
  obtain ⟨v0, _, rfl, h0, v1, _, rfl, h1, rfl⟩ := h
  rw [RdV_pl] at h0
  subst h0
  obtain ⟨A1, c1, rfl, k1⟩ := SxRow.of_read h1
  exact ⟨A1, c1, rfl, k1⟩
theorem SxAt.frame {w w' : World} {P Q : Nat → Prop} {x : SX} {v : Value} (h : SxAt w P x v) (hPQ : ∀ b, P b → Q b) (hk : ∀ b o, P b → w'.cell? ⟨b, o, none⟩ = w.cell? ⟨b, o, none⟩) : SxAt w' Q x v := by
  obtain ⟨A1, c1, rfl, k1⟩ := h
  exact ⟨A1, c1, rfl, k1.frame hPQ hk⟩
theorem SxAt.grow {w w' : World} {x : SX} {v : Value} (h : SxAt w (Und w.heap.size) x v) (hb : Below w.heap.size w w') : SxAt w' (Und w'.heap.size) x v := h.frame (fun _ h => Nat.lt_of_lt_of_le h hb.size) (fun b o hP => hb.cell (p := ⟨b, o, none⟩) hP)
/-- Where there is an element at j: where it lies, and what it is. -/
theorem SxRow.at_ {w : World} {P : Nat → Prop} {A : Option Addr} {c : Nat} {l : List SX} (h : SxRow w P A c l) {j : Nat} (hj : j < l.length) :
    ∃ (b o : Nat) (A1 : Option Addr) (c1 : Nat), A = some ⟨b, o, none⟩ ∧ P b ∧ w.cell? ⟨b, o + j * 2, none⟩ = some (.string l[j].atom) ∧ w.cell? ⟨b, o + j * 2 + 1, none⟩ = some (.slice A1 l[j].list.length c1) ∧ SxRow w P A1 c1 l[j].list := by
  obtain ⟨b, o, ws, hA, hP, hR, hc⟩ := RdV.at_ h (j := j) (by rw [SX.rows_length]; exact hj)
  rw [SX.rows_at l j hj, SX.cells_eq] at hR
  simp only [RdVs] at hR
  obtain ⟨v0, _, rfl, h0, v1, _, rfl, h1, rfl⟩ := hR
  rw [RdV_pl] at h0
  subst h0
  obtain ⟨A1, c1, rfl, k1⟩ := SxRow.of_read h1
  exact ⟨b, o, A1, c1, hA, hP, hc 0 _ rfl, hc 1 _ rfl, k1⟩
end Go.Proofs.Ytbnfdjhcakimhaa
