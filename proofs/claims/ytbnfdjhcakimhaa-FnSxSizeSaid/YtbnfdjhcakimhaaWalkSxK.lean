/- The walk through an expression in pre-order that leaves out what is below an atom. -/
import Derived.Test.YtbnfdjhcakimhaaSxD
namespace Go.Proofs.Ytbnfdjhcakimhaa
open Go.RowKit

/-- What lies below: nothing, if it is an atom. -/
def SX.kids : SX → List SX
  | .mk a c => if a.size = 0 then c else []
theorem SX.kids_eq (x : SX) : x.kids = if x.atom.size = 0 then x.list else [] := by cases x; rw [SX.kids]; rfl
mutual
def SX.walkK (d : Nat) : SX → List (Nat × SX)
  | .mk a c => (d, .mk a c) :: (if a.size = 0 then SX.walkKL (d + 1) c else [])
def SX.walkKL (d : Nat) : List SX → List (Nat × SX)
  | [] => []
  | x :: r => x.walkK d ++ SX.walkKL d r
end
theorem SX.walkK_eq (d : Nat) (x : SX) : x.walkK d = (d, x) :: SX.walkKL (d + 1) x.kids := by
  cases x with
  | mk a c =>
    rw [SX.walkK, SX.kids]
    split
    · rfl
    · rw [SX.walkKL]
mutual
theorem SX.walkK_le (d : Nat) : ∀ x : SX, (x.walkK d).length ≤ x.nodes
  | .mk a c => by
    have h := SX.walkKL_le (d + 1) c
    rw [SX.walkK, SX.nodes, List.length_cons]
    split
    · omega
    · rw [List.length_nil]; omega
theorem SX.walkKL_le (d : Nat) : ∀ l : List SX, (SX.walkKL d l).length ≤ SX.nodesL l
  | [] => by rw [SX.walkKL, SX.nodesL]; exact Nat.zero_le _
  | x :: r => by
    have h1 := SX.walkK_le d x
    have h2 := SX.walkKL_le d r
    rw [SX.walkKL, SX.nodesL, List.length_append]; omega
end
/-- What the lists of a stack (the top one first) have still to give. -/
def todoSxK : List (List SX) → List (Nat × SX)
  | [] => []
  | l :: r => SX.walkKL r.length l ++ todoSxK r
theorem todoSxK_pop (r : List (List SX)) : todoSxK ([] :: r) = todoSxK r := by rw [todoSxK, SX.walkKL]; rfl
theorem todoSxK_step (x : SX) (l : List SX) (r : List (List SX)) : todoSxK ((x :: l) :: r) = (r.length, x) :: todoSxK (x.kids :: l :: r) := by
  rw [todoSxK, todoSxK, todoSxK, SX.walkKL, SX.walkK_eq, List.length_cons]
  simp
theorem todoSxK_start (x : SX) : todoSxK [[x]] = x.walkK 0 := by simp [todoSxK, SX.walkKL]
theorem SxRow.kids {w : World} {P : Nat → Prop} {A : Option Addr} {c : Nat} {x : SX} (h : SxRow w P A c x.list) : ∃ (A' : Option Addr) (c' : Nat), SxRow w P A' c' x.kids ∧ (.slice A' x.kids.length c' : Value) = if x.atom.size = 0 then .slice A x.list.length c else .slice none 0 0 := by
  rw [SX.kids_eq]
  by_cases ha : x.atom.size = 0
  · rw [if_pos ha, if_pos ha]; exact ⟨A, c, h, rfl⟩
  · rw [if_neg ha, if_neg ha]; exact ⟨none, 0, SxRow.nil _ _ _ _ (by omega), rfl⟩
end Go.Proofs.Ytbnfdjhcakimhaa
