/- What the reference model's FormatInt returns: the decimal numeral of every int. -/
import Derived.Test.YtkhpfmgclnhggaaDoorDigits
import Derived.Test.YtkhpfmgclnhggaaDoorBase
import Derived.Test.YtkhpfmgclnhggaaDoorProg
import Derived.WalkKit
import Derived.Outline
namespace Go.Proofs.YtkhpfmgclnhggaaDoor
open Go.RowKit Go.Lib

theorem digs_pos_step (m : Int) (l : List UInt8) (h : 0 < m) : digs (m / 10).natAbs ++ UInt8.ofNat (48 + m % 10).toNat :: l = digs m.natAbs ++ l := by
  rw [digs_step (show m.natAbs ≠ 0 by omega), show (m / 10).natAbs = m.natAbs / 10 by omega, show (48 + m % 10).toNat = 48 + m.natAbs % 10 by omega]
  simp
theorem digs_neg_step (m : Nat) (l : List UInt8) (h : 0 < m) (b : UInt8) (hb : b = UInt8.ofNat (48 + m % 10)) : digs (m / 10) ++ b :: l = digs m ++ l := by
  rw [digs_step (show m ≠ 0 by omega), hb]
  simp

set_option maxRecDepth 100000 in
set_option maxHeartbeats 400000 in
theorem fmt_pos (n : Int) (w : World) (h0 : 0 < n) (h1 : n ≤ 9223372036854775807) :
    Calls Tryd.prog 21 #[.int .i64 n] w fun e w' => e = .returned (.string ⟨(digs n.natAbs).toArray⟩) ∧ Below w.heap.size w w' := by
  have kc := fun (w : World) (z : Int) => conv_one (P := Tryd.prog) Tryd.underlying22 Tryd.underlying5 Tryd.underlying9 w z
  go_enter Tryd.func21, Tryd.ntmps21
  go_wp2
  go_loopw [0, 4] (fun a s wr => ∃ (m : Int) (l : List UInt8), 0 ≤ m ∧ m ≤ n ∧ a = .int .i64 m ∧ s = .string ⟨l.toArray⟩ ∧ digs m.natAbs ++ l = digs n.natAbs ∧ Below w.heap.size w wr) (fun a _ _ => (intOf a).toNat)
  case atStart => exact ⟨n, [], by omega, by omega, rfl, rfl, by simp, Below.refl _ _⟩
  case round =>
    obtain ⟨m, l, hm0, hm1, rfl, rfl, hl, hb⟩ := hrel
    have hll : (l.length : Int) ≤ 20 := by
      have := congrArg List.length hl
      have := digs_length_le 20 n.natAbs (by omega)
      rw [List.length_append] at *
      omega
    have HL := Lib.hid hl; clear hl
    by_cases hz : 0 < m
    · go_wp2
      go_roundw
      case rel => exact ⟨m / 10, UInt8.ofNat (48 + m % 10).toNat :: l, by omega, by omega, rfl, str_of (append_byte _ _), by rw [← HL.out]; exact digs_pos_step m l hz, hb.alloc hb.size _⟩
      case measure => simp [intOf]; omega
    · go_wp2
      go_ret
      refine ⟨ret_str ?_, hb⟩
      have := HL.out
      rw [show m.natAbs = 0 by omega, digs_zero, List.nil_append] at this
      rw [this]

set_option maxRecDepth 100000 in
set_option maxHeartbeats 400000 in
theorem fmt_neg (n : Int) (w : World) (h0 : n < 0) (h1 : -9223372036854775808 ≤ n) :
    Calls Tryd.prog 21 #[.int .i64 n] w fun e w' => e = .returned (.string ⟨(45 :: digs n.natAbs).toArray⟩) ∧ Below w.heap.size w w' := by
  have kc := fun (w : World) (z : Int) => conv_one (P := Tryd.prog) Tryd.underlying22 Tryd.underlying5 Tryd.underlying9 w z
  go_enter Tryd.func21, Tryd.ntmps21
  go_wp2
  go_loopw [0, 4] (fun a s wr => ∃ (m : Nat) (l : List UInt8), (m : Int) ≤ 9223372036854775808 ∧ a = .int .i64 (-(m : Int)) ∧ s = .string ⟨l.toArray⟩ ∧ digs m ++ l = digs n.natAbs ∧ Below w.heap.size w wr) (fun a _ _ => (intOf a).natAbs)
  case atStart => exact ⟨n.natAbs, [], by omega, by rw [show -(n.natAbs : Int) = n by omega], rfl, by simp, Below.refl _ _⟩
  case round =>
    obtain ⟨m, l, hm1, rfl, rfl, hl, hb⟩ := hrel
    have hll : (l.length : Int) ≤ 20 := by
      have := congrArg List.length hl
      have := digs_length_le 20 n.natAbs (by omega)
      rw [List.length_append] at *
      omega
    have HL := Lib.hid hl; clear hl
    by_cases hz : 0 < m
    · have e1 : (-(m : Int)).tmod 10 = -((m % 10 : Nat) : Int) := by rw [Int.neg_tmod]; rfl
      have e2 : (-(m : Int)).tdiv 10 = -((m / 10 : Nat) : Int) := by rw [Int.neg_tdiv]; rfl
      have hd : (m % 10 : Nat) < 10 := by omega
      have E1 := Lib.hid e1; clear e1
      have E2 := Lib.hid e2; clear e2
      go_wp2
      all_goals go_roundw
      case rel => exact ⟨m / 10, (48 + UInt8.ofNat (m % 10)) :: l, by omega, int_of (by omega), str_of (append_byte _ _), by rw [← HL.out]; exact digs_neg_step m l hz _ (by rw [show (48 : UInt8) = UInt8.ofNat 48 from rfl, ← UInt8.ofNat_add]), hb.alloc hb.size _⟩
      case measure => simp [intOf]; omega
      case rel => exact ⟨m / 10, UInt8.ofNat (48 + -((m : Int) % 10)).toNat :: l, by omega, int_of (by omega), str_of (append_byte _ _), by rw [← HL.out]; exact digs_neg_step m l hz _ (congrArg UInt8.ofNat (by omega)), hb.alloc hb.size _⟩
      case measure => simp [intOf]; omega
    · go_wp2
      go_ret
      refine ⟨ret_str ?_, hb⟩
      have := HL.out
      rw [show m = 0 by omega, digs_zero, List.nil_append] at this
      rw [← this]
      exact append_byte 45 l

set_option maxRecDepth 100000 in
theorem fmt_zero (w : World) : Calls Tryd.prog 21 #[.int .i64 0] w fun e w' => e = .returned (.string ⟨#[48]⟩) ∧ w = w' := by
  go_enter Tryd.func21, Tryd.ntmps21
  go_wp2
  go_ret
  exact ⟨rfl, rfl⟩

/-- THE REFERENCE MODEL's FormatInt, AT EVERY int: the numeral; of what was there nothing has turned. -/
theorem fmt_any (n : Int) (w : World) (h0 : -9223372036854775808 ≤ n) (h1 : n ≤ 9223372036854775807) :
    Calls Tryd.prog 21 #[.int .i64 n] w fun e w' => e = .returned (.string ⟨(itoa n).toArray⟩) ∧ Below w.heap.size w w' := by
  rcases Int.lt_trichotomy n 0 with h | rfl | h
  · rw [itoa_of_neg h]; exact fmt_neg n w h h0
  · rw [itoa_zero]; exact (fmt_zero w).mono fun e w' ⟨he, hw⟩ => ⟨he, hw ▸ Below.refl _ _⟩
  · rw [itoa_of_pos h]; exact fmt_pos n w h h1
#print axioms fmt_any
end Go.Proofs.YtkhpfmgclnhggaaDoor
