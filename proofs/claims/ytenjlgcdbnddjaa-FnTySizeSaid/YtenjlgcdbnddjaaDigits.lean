/- The decimal digits as the reference model's loop gathers them, and that they are the library's own numeral. No program in this text. -/
import Derived.Lib.ItoaNum
import Derived.Lib.ItoaLen
namespace Go.Proofs.Ytenjlgcdbnddjaa
open Go.Lib

/-- The digits of a number that the loop has still to write: none for 0. -/
def digs (u : Nat) : List UInt8 := if u = 0 then [] else decDigits u

theorem digs_zero : digs 0 = [] := rfl
theorem digs_pos {u : Nat} (h : u ≠ 0) : digs u = decDigits u := by unfold digs; rw [if_neg h]
theorem digs_step {u : Nat} (h : u ≠ 0) : digs u = digs (u / 10) ++ [UInt8.ofNat (48 + u % 10)] := by
  rw [digs_pos h, decDigits]
  by_cases h10 : u < 10
  · rw [dif_pos h10, show u / 10 = 0 by omega, digs_zero, Nat.mod_eq_of_lt h10]; rfl
  · rw [dif_neg h10, digs_pos (by omega)]
theorem digs_length_le : ∀ (k u : Nat), u < 10 ^ k → (digs u).length ≤ k
  | 0, u, h => by
    have : u = 0 := by simp at h; omega
    subst this; simp [digs_zero]
  | k + 1, u, h => by
    by_cases h0 : u = 0
    · subst h0; simp [digs_zero]
    · rw [digs_step h0, List.length_append]
      have := digs_length_le k (u / 10) (by rw [Nat.pow_succ] at h; omega)
      simp; omega
theorem itoa_of_neg {n : Int} (h : n < 0) : itoa n = 45 :: digs n.natAbs := by
  rw [itoa, if_pos h, digs_pos (by omega)]
theorem itoa_of_pos {n : Int} (h : 0 < n) : itoa n = digs n.natAbs := by
  rw [itoa, if_neg (by omega), digs_pos (by omega), show n.toNat = n.natAbs by omega]
theorem itoa_zero : itoa 0 = [48] := by rw [itoa, if_neg (by omega)]; rw [decDigits]; simp
end Go.Proofs.Ytenjlgcdbnddjaa
