/- The reference model's IsValidAtom. -/
import Derived.Test.YtbnfdjhcakimhaaBase
import Derived.Test.YtbnfdjhcakimhaaProg
import Derived.Lib.Hide
import Derived.Outline
namespace Go.Proofs.Ytbnfdjhcakimhaa
open Go.RowKit

/-- A byte of an atom. -/
def okByte (c : UInt8) : Bool := (decide (97 ≤ c.toNat) && decide (c.toNat ≤ 122)) || (decide (48 ≤ c.toNat) && decide (c.toNat ≤ 57)) || (c.toNat == 39) || (c.toNat == 45) || (c.toNat == 43) || (c.toNat == 42) || (c.toNat == 60) || (c.toNat == 61) || (c.toNat == 46)

set_option maxRecDepth 100000 in
set_option maxHeartbeats 1000000 in
theorem byteIs (c : UInt8) (w : World) : Calls Try.prog 58 #[.int .u8 c.toNat] w fun e w' => e = .returned (.bool (okByte c)) ∧ w = w' := by
  go_enter Try.func58, Try.ntmps58
  go_wp2
  go_ways
  all_goals (
    go_ret
    refine ⟨congrArg (fun b => Ending.returned (.bool b)) ?_, rfl⟩
    rw [Bool.eq_iff_iff]
    simp only [okByte, Bool.or_eq_true, Bool.and_eq_true, decide_eq_true_eq, beq_iff_eq, true_iff]
    omega)

theorem within (x lo hi : Int) (w : World) : Calls Try.prog 59 #[.int .i64 x, .int .i64 lo, .int .i64 hi] w fun e w' => e = .returned (.bool (decide (lo ≤ x ∧ x ≤ hi))) ∧ w = w' := by
  by_cases h1 : lo ≤ x
  · go_enter Try.func59, Try.ntmps59
    go_wp2
    go_ret
    refine ⟨congrArg (fun b => Ending.returned (.bool b)) ?_, rfl⟩
    rw [Bool.eq_iff_iff]
    simp [h1]
  · go_enter Try.func59, Try.ntmps59
    go_wp2
    go_ret
    refine ⟨congrArg (fun b => Ending.returned (.bool b)) ?_, rfl⟩
    rw [Bool.eq_iff_iff]
    simp
    omega
/-- What an atom is. -/
def okAtom (a : ByteArray) : Bool := a.data.toList.all okByte && decide (1 ≤ a.size ∧ a.size ≤ 12)
theorem all_take_snoc (s : ByteArray) (k : Nat) (h : k < s.size) : (s.data.toList.take (k + 1)).all okByte = ((s.data.toList.take k).all okByte && okByte s[k]) := by
  rw [List.take_succ_eq_append_getElem (by simpa using h)]
  simp
  rfl
theorem all_not {s : ByteArray} {k : Nat} (h : k < s.size) (hc : okByte s[k] = false) : okAtom s = false := by
  have : s.data.toList.all okByte = false := by
    rw [List.all_eq_false]
    exact ⟨s[k], by simp [Array.mem_iff_getElem]; exact ⟨k, h, rfl⟩, by simp [hc]⟩
  rw [okAtom, this, Bool.false_and]

set_option maxRecDepth 100000 in
set_option maxHeartbeats 1000000 in
theorem validAtom (s : ByteArray) (w : World) (hs : s.size ≤ 9223372036854775807) : Calls Try.prog 28 #[.string s] w fun e w' => e = .returned (.bool (okAtom s)) ∧ w = w' := by
  go_enter Try.func28, Try.ntmps28
  go_wp2
  go_loopw [3] (fun iv wr => ∃ k : Nat, k ≤ s.size ∧ iv = .int .i64 k ∧ (s.data.toList.take k).all okByte = true ∧ w = wr) (fun iv _ => s.size - (intOf iv).toNat)
  case atStart => exact ⟨0, Nat.zero_le _, rfl, rfl, rfl⟩
  case round =>
    obtain ⟨k, hk, rfl, ha, rfl⟩ := hrel
    by_cases hlt : k < s.size
    · have hst := all_take_snoc s k hlt
      have hno := @all_not s k hlt
      rw [ha, Bool.true_and] at hst
      have HS := Lib.hid hst
      have HN := Lib.hid hno
      have HA := Lib.hid ha
      clear hst hno ha
      go_wp2_with fail
      refine (byteIs s[k] _).mono ?_
      rintro e w1 ⟨rfl, rfl⟩
      cases hc : okByte s[k] with
      | true =>
        have HC := Lib.hid hc
        clear hc
        go_wp2
        go_roundw
        case rel => exact ⟨k + 1, by omega, by go_num, by rw [HS.out, HC.out], trivial⟩
        case measure => simp [intOf]; omega
      | false =>
        have HC := Lib.hid hc
        clear hc
        go_wp2
        go_ret
        exact ⟨congrArg (fun b => Ending.returned (.bool b)) (HN.out HC.out).symm, rfl⟩
    · have hkl : k = s.size := by omega
      subst hkl
      have hall : s.data.toList.all okByte = true := by rw [List.take_of_length_le (by simp)] at ha; exact ha
      have HA := Lib.hid hall
      clear ha hall
      go_wp2_with fail
      refine (within _ _ _ _).mono ?_
      rintro e w1 ⟨rfl, rfl⟩
      go_wp2
      go_ret
      refine ⟨congrArg (fun b => Ending.returned (.bool b)) ?_, rfl⟩
      rw [okAtom, HA.out, Bool.true_and]
      rw [Bool.eq_iff_iff]
      simp only [Bool.and_eq_true, decide_eq_true_eq]
      omega
end Go.Proofs.Ytbnfdjhcakimhaa
