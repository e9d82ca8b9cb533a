/- The reference model's reader: what it answers, as a plain function of the bytes. -/
import Derived.Test.YtbnfdjhcakimhaaAtomIs
import Derived.Test.YtbnfdjhcakimhaaSkip
import Derived.Test.YtbnfdjhcakimhaaSpecFormat
namespace Go.Proofs.Ytbnfdjhcakimhaa
open Go.RowKit Go.Lib

mutual
/-- One expression read: what is left of the bytes, and how many were counted; none: it failed. -/
def readX : Nat → List UInt8 → Nat → Nat → Option (SX × List UInt8 × Nat)
  | 0, _, _, _ => none
  | n + 1, rest, d, z =>
    if skipW rest = [] ∨ 900 < z + 1 then none
    else if (skipW rest).takeWhile okByte ≠ [] then some (.mk ⟨((skipW rest).takeWhile okByte).toArray⟩ [], (skipW rest).dropWhile okByte, z + 1)
    else if (skipW rest).head? ≠ some 40 ∨ d = 14 then none
    else readL n (skipW rest).tail (d + 1) (z + 1) []
def readL : Nat → List UInt8 → Nat → Nat → List SX → Option (SX × List UInt8 × Nat)
  | 0, _, _, _, _ => none
  | n + 1, rest, d, z, acc =>
    if (skipW rest).head? = some 41 then some (.mk ByteArray.empty acc, (skipW rest).tail, z)
    else match readX n (skipW rest) d z with
      | none => none
      | some (y, rest', z') => readL n rest' d z' (acc ++ [y])
end

theorem skipW_head {l : List UInt8} {c : UInt8} (h : (skipW l).head? = some c) : isW c = false := by
  induction l with
  | nil => simp [skipW] at h
  | cons a r ih =>
    cases ha : isW a with
    | true => rw [skipW_yes ha] at h; exact ih h
    | false => rw [skipW_no ha] at h; simp at h; subst h; exact ha
theorem skipW_idem (l : List UInt8) : skipW (skipW l) = skipW l := by
  cases h : skipW l with
  | nil => rfl
  | cons a r => exact skipW_no (skipW_head (l := l) (by rw [h]; rfl))

mutual
theorem readX_less : ∀ (n : Nat) (rest : List UInt8) (d z : Nat) {x : SX} {r : List UInt8} {z' : Nat}, readX n rest d z = some (x, r, z') → r.length < rest.length
  | 0, _, _, _, _, _, _, h => by rw [readX] at h; cases h
  | n + 1, rest, d, z, x, r, z', h => by
    rw [readX] at h
    have hl := skipW_le rest
    split at h
    · cases h
    · split at h
      · rename_i h1 h2
        injection h with h; injection h with h h'; injection h' with h' h''
        subst h'
        have e := congrArg List.length (List.takeWhile_append_dropWhile (p := okByte) (l := skipW rest))
        rw [List.length_append] at e
        have := List.length_pos_iff.2 h2
        omega
      · split at h
        · cases h
        · rename_i h1 _ _
          have := readL_less n _ _ _ _ h
          have h3 : skipW rest ≠ [] := fun e => h1 (.inl e)
          have := List.length_pos_iff.2 h3
          rw [List.length_tail] at *
          omega
theorem readL_less : ∀ (n : Nat) (rest : List UInt8) (d z : Nat) (acc : List SX) {x : SX} {r : List UInt8} {z' : Nat}, readL n rest d z acc = some (x, r, z') → r.length < rest.length
  | 0, _, _, _, _, _, _, _, h => by rw [readL] at h; cases h
  | n + 1, rest, d, z, acc, x, r, z', h => by
    rw [readL] at h
    have hl := skipW_le rest
    split at h
    · rename_i h1
      injection h with h; injection h with h h'; injection h' with h' h''
      subst h'
      have h3 : skipW rest ≠ [] := fun e => by rw [e] at h1; cases h1
      have := List.length_pos_iff.2 h3
      rw [List.length_tail]
      omega
    · split at h
      · cases h
      · rename_i h1
        have := readX_less n _ _ _ h1
        have := readL_less n _ _ _ _ h
        omega
end
end Go.Proofs.Ytbnfdjhcakimhaa
