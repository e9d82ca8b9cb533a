/- Weights and counts of plain data. -/
import Derived.Test.YtbnfdjhcakimhaaZDv
namespace Go.Proofs.Ytbnfdjhcakimhaa
open Go.RowKit

theorem nodesVE_at : ∀ (xs : List (List DV)) (j : Nat) (h : j < xs.length), 1 + DV.nodesL xs[j] ≤ DV.nodesE xs
  | x :: r, 0, _ => by rw [DV.nodesE]; simp
  | x :: r, j + 1, h => by
    have := nodesVE_at r j (by simpa using h)
    rw [DV.nodesE]; simp; omega
theorem nodesVE_count : ∀ (xs : List (List DV)), xs.length ≤ DV.nodesE xs
  | [] => by simp [DV.nodesE]
  | x :: r => by have := nodesVE_count r; rw [DV.nodesE, List.length_cons]; omega
theorem wtVE_take : ∀ (l : List (List DV)) (j : Nat) (h : j < l.length), DV.wtE (l.take (j + 1)) = DV.wtE (l.take j) + 1 + DV.wtL l[j]
  | x :: r, 0, _ => by simp [DV.wtE]
  | x :: r, j + 1, h => by
    have := wtVE_take r j (by simpa using h)
    rw [List.take_succ_cons, List.take_succ_cons, DV.wtE, DV.wtE, this]
    simp; omega
theorem wtVE_le : ∀ (l : List (List DV)) (j : Nat), DV.wtE (l.take j) ≤ DV.wtE l
  | [], j => by simp
  | x :: r, 0 => by simp [DV.wtE]
  | x :: r, j + 1 => by
    have := wtVE_le r j
    rw [List.take_succ_cons, DV.wtE, DV.wtE]; omega
theorem wtVE_length : ∀ (l : List (List DV)), l.length ≤ DV.wtE l
  | [] => by simp [DV.wtE]
  | x :: r => by have := wtVE_length r; rw [DV.wtE, List.length_cons]; omega
theorem wtVE_at (l : List (List DV)) (j : Nat) (h : j < l.length) : 1 + DV.wtL l[j] ≤ DV.wtE l := by
  have h1 := wtVE_take l j h
  have h2 := wtVE_le l (j + 1)
  omega
theorem wtVE_rest : ∀ (l : List (List DV)) (j : Nat), j ≤ l.length → DV.wtE (l.take j) + (l.length - j) ≤ DV.wtE l
  | [], j, h => by simp at h; subst h; simp [DV.wtE]
  | x :: r, 0, _ => by have := wtVE_length (x :: r); simp [DV.wtE] at this ⊢; omega
  | x :: r, j + 1, h => by
    have := wtVE_rest r j (by simpa using h)
    rw [List.take_succ_cons, DV.wtE, DV.wtE, List.length_cons]; omega

/-- A plain value that Go holds. -/
def uok : Value → Prop
  | .string s => s.size ≤ 9223372036854775807
  | .int _ i => -9223372036854775808 ≤ i ∧ i ≤ 9223372036854775807
  | _ => True
mutual
/-- No text and no slice is longer than a Go int. -/
def DV.ok : DV → Prop
  | .pl u => uok u
  | .row _ _ xs => xs.length ≤ 9223372036854775807 ∧ DV.okE xs
def DV.okL : List DV → Prop
  | [] => True
  | d :: r => d.ok ∧ DV.okL r
def DV.okE : List (List DV) → Prop
  | [] => True
  | x :: r => DV.okL x ∧ DV.okE r
end
theorem okVE_at : ∀ (xs : List (List DV)), DV.okE xs → ∀ (j : Nat) (h : j < xs.length), DV.okL xs[j]
  | x :: r, ho, 0, _ => by rw [DV.okE] at ho; exact ho.1
  | x :: r, ho, j + 1, h => by rw [DV.okE] at ho; exact okVE_at r ho.2 j (by simpa using h)

/-- What is left: -1 where there was more. -/
def leftV (L n : Nat) : Int := if n ≤ L then (L : Int) - n else -1
theorem leftV_yes {L n : Nat} (h : n ≤ L) : leftV L n = (L : Int) - n := by rw [leftV, if_pos h]
theorem leftV_no {L n : Nat} (h : L < n) : leftV L n = -1 := by rw [leftV, if_neg (by omega)]
end Go.Proofs.Ytbnfdjhcakimhaa
