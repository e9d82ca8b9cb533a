/- The law of OccursIn. -/
import Derived.Test.YtpffmcofajlkgaaQ1
import Derived.Test.YtpffmcofajlkgaaZOccP
import Derived.Test.YtpffmcofajlkgaaZSpMgu
namespace Go.Proofs.Ytpffmcofajlkgaa
open Go.RowKit Go.Lib

set_option maxRecDepth 100000 in
set_option maxHeartbeats 2000000 in
theorem lawOccursIn (x : TypeX) (v : Value) (u : ByteArray) (hu : u.size ≤ 9223372036854775807) (w : World) (hok : DV.okL x.cells) (hv : TypeAt w (Und w.heap.size) x v) :
    Calls Try.prog 5 #[.string u, v] w fun e w' => e = .returned (.bool true) ∧ Below w.heap.size w w' := by
  obtain ⟨A, c, rfl, hx⟩ := hv
  have hb0 : Below w.heap.size w (w.alloc (.cells #[.int .i64 x.kind_, .string x.name_, .slice A x.args_.length c] 40)) := (Below.refl _ _).alloc (Nat.le_refl _) _
  have HW0 := Lib.hid (Whole.new w 40 #[.int .i64 x.kind_, .string x.name_, .slice A x.args_.length c])
  have HL0 := Lib.hid (hx.grow hb0)
  clear hx
  by_cases hlu : (1048576 : Int) < u.size
  · go_enter Try.func5, Try.ntmps5
    go_wp2
    go_ret
    exact ⟨rfl, hb0⟩
  have hul : (u.size : Int) ≤ 1048576 := by omega
  clear hlu
  by_cases hw : DV.wtL x.cells ≤ 1048576
  · have hsz : x.size ≤ 4294967296 := by have := TypeX.size_wt x; omega
    have hlf := leftV_yes hw
    have hnn : ¬ ((1048576 : Nat) : Int) - (DV.wtL x.cells : Int) < 0 := by omega
    have HF := Lib.hid hlf
    clear hlf
    go_enter Try.func5, Try.ntmps5
    go_wp2_with fail
    refine (szType x _ 1048576 _ hok ⟨_, _, rfl, HL0.out⟩ (by decide)).mono ?_
    rw [HF.out]
    rintro e w1 ⟨rfl, hb1⟩
    have h1 : Below w.heap.size w w1 := hb0.trans (hb1.mono hb0.size)
    have HW1 := Lib.hid (whole_keep HW0.out hb1)
    have HL1 := Lib.hid (HL0.out.grow hb1)
    obtain ⟨p0, p1, p2⟩ := cells3 HW1.out
    go_wp2_with fail
    refine (toType x _ _ hw ⟨_, _, rfl, HL1.out⟩).mono ?_
    intro e w2 hm2
    obtain ⟨A2, c2, rfl, hr2, hb2⟩ := made_type hm2
    clear hm2 p0 p1 p2
    have h2 : Below w.heap.size w w2 := h1.trans (hb2.mono h1.size)
    have HW2 := Lib.hid (whole_keep HW1.out hb2)
    have HL2 := Lib.hid (HL1.out.grow hb2)
    have HM2 := Lib.hid hr2
    clear hr2
    go_wp2_with fail
    refine (specOccurs u x _ _ _ hsz HM2.out).mono ?_
    rintro e w3 ⟨rfl, hb3⟩
    have h3 : Below w.heap.size w w3 := h2.trans (hb3.mono h2.size)
    have HW3 := Lib.hid (whole_keep HW2.out hb3)
    have HL3 := Lib.hid (HL2.out.grow hb3)
    obtain ⟨p0, p1, p2⟩ := cells3 HW3.out
    go_wp2_with fail
    refine (toType x _ _ hw ⟨_, _, rfl, HL3.out⟩).mono ?_
    intro e w4 hm4
    obtain ⟨A4, c4, rfl, hr4, hb4⟩ := made_type hm4
    clear hm4 p0 p1 p2
    have h4 : Below w.heap.size w w4 := h3.trans (hb4.mono h3.size)
    have n4 : Below w4.heap.size w4 (w4.alloc (.cells #[.int .i64 x.kind_, .string x.name_, .slice A4 x.args_.length c4] 26)) := (Below.refl _ _).alloc (Nat.le_refl _) _
    have HM4 := Lib.hid (hr4.grow n4)
    have HX4 := Lib.hid (Whole.new w4 26 #[.int .i64 x.kind_, .string x.name_, .slice A4 x.args_.length c4])
    have HW4 := Lib.hid (whole_keep (whole_keep HW3.out hb4) n4)
    have HL4 := Lib.hid ((HL3.out.grow hb4).grow n4)
    clear hr4
    go_wp2_with fail
    refine (implOccursIn u x _ _ _ hsz HM4.out).mono ?_
    rintro e w5 ⟨rfl, hb5⟩
    have m5 := n4.trans (hb5.mono n4.size)
    have h5 : Below w.heap.size w w5 := h4.trans (m5.mono h4.size)
    have HW5 := Lib.hid (whole_keep HW4.out hb5)
    have HX5 := Lib.hid (whole_keep HX4.out hb5)
    have HL5 := Lib.hid (HL4.out.grow hb5)
    have HM5 := Lib.hid (HM4.out.grow hb5)
    obtain ⟨p0, p1, p2⟩ := cells3 HW5.out
    obtain ⟨q0, q1, q2⟩ := cells3 HX5.out
    go_wp2
    go_region_with (first
      | (go_at_call 20
         refine (toType x _ _ hw ⟨_, _, rfl, HL5.out.drew_⟩).mono ?_
         intro e w6 hm6
         obtain ⟨A6, c6, rfl, hr6, hb6⟩ := made_type hm6
         have hb6 : Below w5.heap.size w5 w6 := (Below.refl _ w5).drew.trans hb6
         have HM6 := Lib.hid (HM5.out.grow hb6)
         have HN6 := Lib.hid hr6
         have h6 : Below w.heap.size w w6 := h5.trans (hb6.mono h5.size)
         obtain ⟨q0, q1, q2⟩ := cells3 (whole_keep HX5.out hb6)
         clear hr6 hm6)
      | (go_at_call 21
         refine (eqType x _ _ _ ⟨_, _, rfl, HM6.out⟩ ⟨_, _, rfl, HN6.out⟩).mono ?_
         rintro e w7 ⟨rfl, hb7⟩
         have h7 : Below w.heap.size w w7 := h6.trans (hb7.mono h6.size)))
    all_goals (
      go_wp2
      go_ret
      exact ⟨rfl, h7⟩)
  · have hlf := leftV_no (L := 1048576) (n := DV.wtL x.cells) (by omega)
    have HF := Lib.hid hlf
    clear hlf
    go_enter Try.func5, Try.ntmps5
    go_wp2_with fail
    refine (szType x _ 1048576 _ hok ⟨_, _, rfl, HL0.out⟩ (by decide)).mono ?_
    rw [HF.out]
    rintro e w1 ⟨rfl, hb1⟩
    have h1 : Below w.heap.size w w1 := hb0.trans (hb1.mono hb0.size)
    go_wp2
    go_ret
    exact ⟨rfl, h1⟩
end Go.Proofs.Ytpffmcofajlkgaa
