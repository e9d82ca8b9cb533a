/- The program's atoms: which runes; a text scanned rune by rune. -/
import Derived.Test.YtfcedkcfnifdfaaAtomIs
import Derived.Test.YtfcedkcfnifdfaaLetter
import Derived.Lib.Hide
import Derived.Laws.RangeAny
namespace Go.Proofs.Ytfcedkcfnifdfaa
open Go.RowKit

/-- A rune of an atom. -/
def okRune (r : Int) : Bool := (decide (97 ≤ r) && decide (r ≤ 122)) || (decide (48 ≤ r) && decide (r ≤ 57)) || (r == 39) || (r == 45) || (r == 43) || (r == 42) || (r == 60) || (r == 61) || (r == 46)
theorem okRune_iff (r : Int) : okRune r = true ↔ (97 ≤ r ∧ r ≤ 122) ∨ (48 ≤ r ∧ r ≤ 57) ∨ r = 39 ∨ r = 45 ∨ r = 43 ∨ r = 42 ∨ r = 60 ∨ r = 61 ∨ r = 46 := by
  simp only [okRune, Bool.or_eq_true, Bool.and_eq_true, decide_eq_true_eq, beq_iff_eq, or_assoc]
theorem okByte_iff (c : UInt8) : okByte c = true ↔ (97 ≤ c.toNat ∧ c.toNat ≤ 122) ∨ (48 ≤ c.toNat ∧ c.toNat ≤ 57) ∨ c.toNat = 39 ∨ c.toNat = 45 ∨ c.toNat = 43 ∨ c.toNat = 42 ∨ c.toNat = 60 ∨ c.toNat = 61 ∨ c.toNat = 46 := by
  simp only [okByte, Bool.or_eq_true, Bool.and_eq_true, decide_eq_true_eq, beq_iff_eq, or_assoc]
theorem okRune_byte (c : UInt8) : okRune (c.toNat : Int) = okByte c := by
  rw [Bool.eq_iff_iff, okRune_iff, okByte_iff]; omega
theorem okRune_high {r : Int} (h : 128 ≤ r) : okRune r = false := by
  rw [← Bool.not_eq_true, okRune_iff]; omega
theorem decode_ok {s : ByteArray} {k : Nat} (h : k < s.size) (hc : okByte s[k] = true) : Utf8.decode s k = (s[k].toNat, 1) :=
  decode_ascii s k h (by rw [okByte_iff] at hc; omega)
theorem decode_bad {s : ByteArray} {k : Nat} (h : k < s.size) (hc : okByte s[k] = false) : okRune ((Utf8.decode s k).1 : Int) = false := by
  by_cases ha : s[k].toNat < 128
  · rw [decode_ascii s k h ha, okRune_byte]; exact hc
  · exact okRune_high (by have := (decode_high s k h (by omega)).1; omega)

set_option maxRecDepth 100000 in
set_option maxHeartbeats 1000000 in
theorem runeIs (r : Int) (w : World) : Calls Try.prog 38 #[.int .i32 r] w fun e w' => e = .returned (.bool (okRune r)) ∧ w = w' := by
  by_cases hs : r = 39 ∨ r = 45 ∨ r = 43 ∨ r = 42 ∨ r = 60 ∨ r = 61 ∨ r = 46
  · rcases hs with rfl | rfl | rfl | rfl | rfl | rfl | rfl
    all_goals (
      go_enter Try.func38, Try.ntmps38
      go_wp2
      go_ret
      exact ⟨rfl, rfl⟩)
  · have hok : okRune r = (letterR r || digitR r) := by
      rw [Bool.eq_iff_iff, okRune_iff]
      simp only [letterR, digitR, Bool.or_eq_true, Bool.and_eq_true, decide_eq_true_eq]
      omega
    have HOK := Lib.hid hok
    clear hok
    simp only [not_or] at hs
    obtain ⟨h1, h2, h3, h4, h5, h6, h7⟩ := hs
    have q1 : (r == 39) = false := by simpa using h1
    have q2 : (r == 45) = false := by simpa using h2
    have q3 : (r == 43) = false := by simpa using h3
    have q4 : (r == 42) = false := by simpa using h4
    have q5 : (r == 60) = false := by simpa using h5
    have q6 : (r == 61) = false := by simpa using h6
    have q7 : (r == 46) = false := by simpa using h7
    cases hl : letterR r with
    | true =>
      have HL := Lib.hid hl
      clear hl
      go_enter Try.func38, Try.ntmps38
      go_wp2_with fail
      refine (letterIs _ _).mono ?_
      rw [HL.out]
      rintro e w1 ⟨rfl, rfl⟩
      go_wp2
      go_ret
      exact ⟨congrArg (fun b => Ending.returned (.bool b)) (by rw [HOK.out, HL.out]; rfl), rfl⟩
    | false =>
      have HL := Lib.hid hl
      clear hl
      go_enter Try.func38, Try.ntmps38
      go_wp2_with fail
      refine (letterIs _ _).mono ?_
      rw [HL.out]
      rintro e w1 ⟨rfl, rfl⟩
      go_wp2_with fail
      refine (digitIs _ _).mono ?_
      rintro e w1 ⟨rfl, rfl⟩
      go_wp2
      go_ret
      exact ⟨congrArg (fun b => Ending.returned (.bool b)) (by rw [HOK.out, HL.out]; rfl), rfl⟩
end Go.Proofs.Ytfcedkcfnifdfaa
