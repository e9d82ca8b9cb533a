/- The laws' own helper: the text of a mark. -/
import Derived.Test.YtenjlgcdbnddjaaMem
import Derived.Test.YtenjlgcdbnddjaaDigits
import Derived.Test.YtenjlgcdbnddjaaProg
import Derived.Lib.Hide
import Derived.Outline
namespace Go.Proofs.Ytenjlgcdbnddjaa
open Go.RowKit Go.Lib

/-- The text of a mark. -/
def mark (k : Nat) : ByteArray := ⟨(109 :: digs k).toArray⟩
theorem mark_step (m : Nat) (l : List UInt8) (h : 0 < m) (b : UInt8) (hb : b = UInt8.ofNat (48 + m % 10)) : digs (m / 10) ++ b :: l = digs m ++ l := by
  rw [digs_step (show m ≠ 0 by omega), hb]
  simp

set_option maxRecDepth 100000 in
set_option maxHeartbeats 400000 in
theorem markText (n : Nat) (w : World) (h0 : 0 < n) (h1 : n ≤ 9223372036854775807) :
    Calls Try.prog 55 #[.int .i64 n] w fun e w' => e = .returned (.string (mark n)) ∧ Below w.heap.size w w' := by
  have kc := fun (w : World) (z : Int) => conv_one (P := Try.prog) Try.underlying22 Try.underlying5 Try.underlying9 w z
  go_enter Try.func55, Try.ntmps55
  go_wp2
  go_loopw [0, 3] (fun a s wr => ∃ (m : Nat) (l : List UInt8), m ≤ n ∧ a = .int .i64 m ∧ s = .string ⟨l.toArray⟩ ∧ digs m ++ l = digs n ∧ Below w.heap.size w wr) (fun a _ _ => (intOf a).toNat)
  case atStart => exact ⟨n, [], by omega, rfl, rfl, by simp, Below.refl _ _⟩
  case round =>
    obtain ⟨m, l, hm1, rfl, rfl, hl, hb⟩ := hrel
    have hll : (l.length : Int) ≤ 20 := by
      have := congrArg List.length hl
      have := digs_length_le 20 n (by omega)
      rw [List.length_append] at *
      omega
    have HL := Lib.hid hl; clear hl
    by_cases hz : 0 < m
    · go_wp2
      go_roundw
      case rel => exact ⟨m / 10, (48 + UInt8.ofNat (m % 10)) :: l, by omega, int_of (by omega), str_of (append_byte _ _), by rw [← HL.out]; exact mark_step m l hz _ (by rw [show (48 : UInt8) = UInt8.ofNat 48 from rfl, ← UInt8.ofNat_add]), hb.alloc hb.size _⟩
      case measure => simp [intOf]; omega
    · go_wp2
      go_ret
      refine ⟨ret_str ?_, hb⟩
      have := HL.out
      rw [show m = 0 by omega, digs_zero, List.nil_append] at this
      rw [mark, ← this]
      exact append_byte 109 l

end Go.Proofs.Ytenjlgcdbnddjaa
