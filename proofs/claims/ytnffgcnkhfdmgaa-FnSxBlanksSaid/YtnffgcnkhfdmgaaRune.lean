/- The program's atoms: which runes; a text scanned rune by rune. -/
import Derived.Test.YtnffgcnkhfdmgaaAtomIs
import Derived.Laws.RangeAny
namespace Go.Proofs.Ytnffgcnkhfdmgaa
open Go.RowKit

/-- A rune of an atom. -/
def okRune (r : Int) : Bool := (decide (97 ≤ r) && decide (r ≤ 122)) || (decide (48 ≤ r) && decide (r ≤ 57)) || (r == 39) || (r == 45) || (r == 43) || (r == 42) || (r == 60) || (r == 61) || (r == 46)
theorem okRune_iff (r : Int) : okRune r = true ↔ (97 ≤ r ∧ r ≤ 122) ∨ (48 ≤ r ∧ r ≤ 57) ∨ r = 39 ∨ r = 45 ∨ r = 43 ∨ r = 42 ∨ r = 60 ∨ r = 61 ∨ r = 46 := by
  simp only [okRune, Bool.or_eq_true, Bool.and_eq_true, decide_eq_true_eq, beq_iff_eq, or_assoc]
theorem okByte_iff (c : UInt8) : okByte c = true ↔ (97 ≤ c.toNat ∧ c.toNat ≤ 122) ∨ (48 ≤ c.toNat ∧ c.toNat ≤ 57) ∨ c.toNat = 39 ∨ c.toNat = 45 ∨ c.toNat = 43 ∨ c.toNat = 42 ∨ c.toNat = 60 ∨ c.toNat = 61 ∨ c.toNat = 46 := by
  simp only [okByte, Bool.or_eq_true, Bool.and_eq_true, decide_eq_true_eq, beq_iff_eq, or_assoc]
theorem okRune_byte (c : UInt8) : okRune (c.toNat : Int) = okByte c := by
  rw [Bool.eq_iff_iff, okRune_iff, okByte_iff]; omega
theorem okRune_high {r : Int} (h : 128 ≤ r) : okRune r = false := by
  rw [← Bool.not_eq_true, okRune_iff]; omega
theorem decode_ok {s : ByteArray} {k : Nat} (h : k < s.size) (hc : okByte s[k] = true) : Utf8.decode s k = (s[k].toNat, 1) :=
  decode_ascii s k h (by rw [okByte_iff] at hc; omega)
theorem decode_bad {s : ByteArray} {k : Nat} (h : k < s.size) (hc : okByte s[k] = false) : okRune ((Utf8.decode s k).1 : Int) = false := by
  by_cases ha : s[k].toNat < 128
  · rw [decode_ascii s k h ha, okRune_byte]; exact hc
  · exact okRune_high (by have := (decode_high s k h (by omega)).1; omega)

set_option maxRecDepth 100000 in
set_option maxHeartbeats 1000000 in
theorem runeIs (r : Int) (w : World) : Calls Try.prog 38 #[.int .i32 r] w fun e w' => e = .returned (.bool (okRune r)) ∧ w = w' := by
  go_enter Try.func38, Try.ntmps38
  go_wp2
  go_ways
  all_goals (
    go_ret
    refine ⟨congrArg (fun b => Ending.returned (.bool b)) ?_, rfl⟩
    rw [Bool.eq_iff_iff, okRune_iff]
    simp_all
    try omega)
end Go.Proofs.Ytnffgcnkhfdmgaa
