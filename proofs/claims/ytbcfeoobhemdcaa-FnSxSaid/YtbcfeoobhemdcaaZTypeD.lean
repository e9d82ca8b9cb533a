/- The program's Type as plain data; how they lie in memory. -/
import Derived.Test.YtbcfeoobhemdcaaZDvW
import Derived.Test.YtbcfeoobhemdcaaZDvS
namespace Go.Proofs.Ytbcfeoobhemdcaa
open Go.RowKit Go.Lib

inductive TypeX where
  | mk (kind_ : Int) (name_ : ByteArray) (args_ : List TypeX)
def TypeX.kind_ : TypeX → Int | .mk kind_ _ _ => kind_
def TypeX.name_ : TypeX → ByteArray | .mk _ name_ _ => name_
def TypeX.args_ : TypeX → List TypeX | .mk _ _ args_ => args_
mutual
/-- The cells of a value. -/
def TypeX.cells : TypeX → List DV
  | .mk kind_ name_ args_ => [.pl (.int .i64 kind_), .pl (.string name_), .row 35 3 (TypeX.rows args_)]
def TypeX.rows : List TypeX → List (List DV)
  | [] => []
  | x :: r => x.cells :: TypeX.rows r
end
theorem TypeX.cells_eq (x : TypeX) : x.cells = [.pl (.int .i64 x.kind_), .pl (.string x.name_), .row 35 3 (TypeX.rows x.args_)] := by cases x with | mk xkind_ xname_ xargs_ => rw [TypeX.cells]; rfl
theorem TypeX.rows_map : ∀ l : List TypeX, TypeX.rows l = l.map TypeX.cells
  | [] => by rw [TypeX.rows]; rfl
  | x :: r => by rw [TypeX.rows, TypeX.rows_map r]; rfl
theorem TypeX.rows_length (l : List TypeX) : (TypeX.rows l).length = l.length := by rw [TypeX.rows_map, List.length_map]
theorem TypeX.rows_at (l : List TypeX) (j : Nat) (h : j < l.length) (h' : j < (TypeX.rows l).length) : (TypeX.rows l)[j] = l[j].cells := by simp [TypeX.rows_map]
theorem TypeX.rows_take (l : List TypeX) (j : Nat) : TypeX.rows (l.take j) = (TypeX.rows l).take j := by simp [TypeX.rows_map, List.map_take]
theorem TypeX.rows_snoc (l : List TypeX) (x : TypeX) : TypeX.rows (l ++ [x]) = TypeX.rows l ++ [x.cells] := by simp [TypeX.rows_map]
theorem TypeX.cells_length (x : TypeX) : x.cells.length = 3 := by rw [TypeX.cells_eq]; rfl
/-- The slice at A reads as this list. -/
def TypeRow (w : World) (P : Nat → Prop) (A : Option Addr) (c : Nat) (l : List TypeX) : Prop := RdV w P (.row 35 3 (TypeX.rows l)) (.slice A l.length c)
theorem TypeRow.frame {w w' : World} {P Q : Nat → Prop} {A : Option Addr} {c : Nat} {l : List TypeX} (h : TypeRow w P A c l) (hPQ : ∀ b, P b → Q b) (hk : ∀ b o, P b → w'.cell? ⟨b, o, none⟩ = w.cell? ⟨b, o, none⟩) : TypeRow w' Q A c l := RdV_frame hPQ hk _ h
theorem TypeRow.grow {w w' : World} {A : Option Addr} {c : Nat} {l : List TypeX} (h : TypeRow w (Und w.heap.size) A c l) (hb : Below w.heap.size w w') : TypeRow w' (Und w'.heap.size) A c l := RdV.grow h hb
theorem TypeRow.of_read {w : World} {P : Nat → Prop} {l : List TypeX} {v : Value} (h : RdV w P (.row 35 3 (TypeX.rows l)) v) : ∃ A c, v = .slice A l.length c ∧ TypeRow w P A c l := by
  obtain ⟨A, c, rfl, _, _⟩ := h.shape
  rw [TypeX.rows_length] at h ⊢
  exact ⟨A, c, rfl, h⟩
theorem TypeRow.cap {w : World} {P : Nat → Prop} {A : Option Addr} {c : Nat} {l : List TypeX} (h : TypeRow w P A c l) : l.length ≤ c ∧ c ≤ 9223372036854775807 := by
  obtain ⟨A', c', e, h1, h2⟩ := RdV.shape h
  injection e with _ _ e
  rw [TypeX.rows_length] at h1
  omega
theorem TypeRow.nil (w : World) (P : Nat → Prop) (c : Nat) (A : Option Addr) (hc : c ≤ 9223372036854775807) : TypeRow w P A c [] := RdV_row.2 ⟨A, c, by rw [TypeX.rows_length], by rw [TypeX.rows_length]; exact Nat.zero_le _, hc, .inl (by rw [TypeX.rows_map]; rfl)⟩
/-- This value, by value. -/
def TypeAt (w : World) (P : Nat → Prop) (x : TypeX) (v : Value) : Prop := ∃ (A2 : Option Addr) (c2 : Nat), v = .agg #[.int .i64 x.kind_, .string x.name_, .slice A2 x.args_.length c2] ∧ TypeRow w P A2 c2 x.args_
theorem TypeAt.of_reads {w : World} {P : Nat → Prop} {x : TypeX} {vs : List Value} (h : RdVs w P x.cells vs) : TypeAt w P x (.agg vs.toArray) := by
  rw [TypeX.cells_eq] at h
  simp only [RdVs] at h
  obtain ⟨v0, _, rfl, h0, v1, _, rfl, h1, v2, _, rfl, h2, rfl⟩ := h
  rw [RdV_pl] at h0
  subst h0
  rw [RdV_pl] at h1
  subst h1
  obtain ⟨A2, c2, rfl, k2⟩ := TypeRow.of_read h2
  exact ⟨A2, c2, rfl, k2⟩
theorem TypeAt.frame {w w' : World} {P Q : Nat → Prop} {x : TypeX} {v : Value} (h : TypeAt w P x v) (hPQ : ∀ b, P b → Q b) (hk : ∀ b o, P b → w'.cell? ⟨b, o, none⟩ = w.cell? ⟨b, o, none⟩) : TypeAt w' Q x v := by
  obtain ⟨A2, c2, rfl, k2⟩ := h
  exact ⟨A2, c2, rfl, k2.frame hPQ hk⟩
theorem TypeAt.grow {w w' : World} {x : TypeX} {v : Value} (h : TypeAt w (Und w.heap.size) x v) (hb : Below w.heap.size w w') : TypeAt w' (Und w'.heap.size) x v := h.frame (fun _ h => Nat.lt_of_lt_of_le h hb.size) (fun b o hP => hb.cell (p := ⟨b, o, none⟩) hP)
/-- Where there is an element at j: where it lies, and what it is. -/
theorem TypeRow.at_ {w : World} {P : Nat → Prop} {A : Option Addr} {c : Nat} {l : List TypeX} (h : TypeRow w P A c l) {j : Nat} (hj : j < l.length) :
    ∃ (b o : Nat) (A2 : Option Addr) (c2 : Nat), A = some ⟨b, o, none⟩ ∧ P b ∧ w.cell? ⟨b, o + j * 3, none⟩ = some (.int .i64 l[j].kind_) ∧ w.cell? ⟨b, o + j * 3 + 1, none⟩ = some (.string l[j].name_) ∧ w.cell? ⟨b, o + j * 3 + 2, none⟩ = some (.slice A2 l[j].args_.length c2) ∧ TypeRow w P A2 c2 l[j].args_ := by
  obtain ⟨b, o, ws, hA, hP, hR, hc⟩ := RdV.at_ h (j := j) (by rw [TypeX.rows_length]; exact hj)
  rw [TypeX.rows_at l j hj, TypeX.cells_eq] at hR
  simp only [RdVs] at hR
  obtain ⟨v0, _, rfl, h0, v1, _, rfl, h1, v2, _, rfl, h2, rfl⟩ := hR
  rw [RdV_pl] at h0
  subst h0
  rw [RdV_pl] at h1
  subst h1
  obtain ⟨A2, c2, rfl, k2⟩ := TypeRow.of_read h2
  exact ⟨b, o, A2, c2, hA, hP, hc 0 _ rfl, hc 1 _ rfl, hc 2 _ rfl, k2⟩
end Go.Proofs.Ytbcfeoobhemdcaa
