/- The law of SExprDepth. -/
import Derived.Test.YtfcedkcfnifdfaaDepthImpl
import Derived.Test.YtfcedkcfnifdfaaLawX
namespace Go.Proofs.Ytfcedkcfnifdfaa
open Go.RowKit Go.Lib

set_option maxRecDepth 100000 in
set_option maxHeartbeats 2000000 in
theorem lawDepth (x : SX) (A : Option Addr) (c : Nat) (w : World) (hok : x.ok) (hl : ListAt w (Lt w.heap.size) A x.list) :
    Calls Try.prog 9 #[.agg #[.string x.atom, .slice A x.list.length c]] w fun e w' => e = .returned (.bool true) ∧ Below w.heap.size w w' := by
  have hb0 : Below w.heap.size w (w.alloc (.cells #[.string x.atom, .slice A x.list.length c] 38)) := (Below.refl _ _).alloc (Nat.le_refl _) _
  have hl0 := hl.grow hb0
  have HL0 := Lib.hid hl0
  clear hl hl0
  by_cases hw : x.wt ≤ 1048576
  · have hm : x.nodes ≤ 4294967296 := by have := SX.nodes_wt x; omega
    have hlf := leftOf_yes hw
    have hnn : ¬ ((1048576 : Nat) : Int) - (x.wt : Int) < 0 := by omega
    have HF := Lib.hid hlf
    clear hlf
    go_enter Try.func9, Try.ntmps9
    go_wp2_with fail
    refine (szX x A c 1048576 _ hok HL0.out (by decide)).mono ?_
    rintro e w1 ⟨rfl, hb1⟩
    rw [HF.out]
    have h1 : Below w.heap.size w w1 := hb0.trans (hb1.mono hb0.size)
    obtain ⟨c0, c1, -⟩ := boxed hb1
    have HL1 := Lib.hid (HL0.out.grow hb1)
    go_wp2_with fail
    refine (toX x A c _ hw HL1.out).mono ?_
    rintro e w2 ⟨A2, d2, rfl, hl2, hb2⟩
    have h2 : Below w.heap.size w w2 := h1.trans (hb2.mono h1.size)
    have b2 := hb1.trans (hb2.mono hb1.size)
    obtain ⟨c0, c1, -⟩ := boxed b2
    have HL2 := Lib.hid (HL1.out.grow hb2)
    have HM2 := Lib.hid (made_lt hl2)
    clear hl2
    go_wp2_with fail
    refine (depthX _ x A2 d2 _ (Nat.le_refl _) hm HM2.out).mono ?_
    rintro e w3 ⟨rfl, hb3⟩
    have h3 : Below w.heap.size w w3 := h2.trans (hb3.mono h2.size)
    have b3 := b2.trans (hb3.mono b2.size)
    obtain ⟨c0, c1, -⟩ := boxed b3
    have HL3 := Lib.hid (HL2.out.grow hb3)
    go_wp2_with fail
    refine (toX x A c _ hw HL3.out).mono ?_
    rintro e w4 ⟨A4, d4, rfl, hl4, hb4⟩
    have h4 : Below w.heap.size w w4 := h3.trans (hb4.mono h3.size)
    have b4 := b3.trans (hb4.mono b3.size)
    have n4 : Below w4.heap.size w4 (w4.alloc (.cells #[.string x.atom, .slice A4 x.list.length d4] 26)) := (Below.refl _ _).alloc (Nat.le_refl _) _
    have HM4 := Lib.hid ((made_lt hl4).grow n4)
    have HL4 := Lib.hid ((HL3.out.grow hb4).grow n4)
    clear hl4
    go_wp2_with fail
    refine (implDepth x A4 d4 _ hm hok HM4.out).mono ?_
    rintro e w5 ⟨rfl, hb5⟩
    have m5 := n4.trans (hb5.mono n4.size)
    have h5 : Below w.heap.size w w5 := h4.trans (m5.mono h4.size)
    have b5 := b4.trans (m5.mono b4.size)
    obtain ⟨c0, c1, -⟩ := boxed b5
    obtain ⟨x0, x1, -⟩ := boxed hb5
    have HL5 := Lib.hid (HL4.out.grow hb5)
    have HM5 := Lib.hid (HM4.out.grow hb5)
    go_wp2
    go_region_with (first
      | (go_at_call 31
         refine (toX x A c _ hw HL5.out.drew_).mono ?_
         rintro e w6 ⟨A6, d6, rfl, hl6, hb6⟩
         have hb6 : Below w5.heap.size w5 w6 := (Below.refl _ w5).drew.trans hb6
         have HM6 := Lib.hid (HM5.out.grow hb6)
         have HN6 := Lib.hid (made_lt hl6)
         have h6 : Below w.heap.size w w6 := h5.trans (hb6.mono h5.size)
         obtain ⟨x0, x1, -⟩ := boxed (hb5.trans (hb6.mono hb5.size))
         clear hl6)
      | (go_at_call 32
         refine (eqX x A4 A6 d4 d6 _ hw HM6.out HN6.out).mono ?_
         rintro e w7 ⟨rfl, hb7⟩
         have h7 : Below w.heap.size w w7 := h6.trans (hb7.mono h6.size)))
    all_goals (
      go_wp2
      go_ret
      exact ⟨rfl, h7⟩)
  · have hlf := leftOf_no (L := 1048576) (n := x.wt) (by omega)
    have HF := Lib.hid hlf
    clear hlf
    go_enter Try.func9, Try.ntmps9
    go_wp2_with fail
    refine (szX x A c 1048576 _ hok HL0.out (by decide)).mono ?_
    rintro e w1 ⟨rfl, hb1⟩
    rw [HF.out]
    have h1 : Below w.heap.size w w1 := hb0.trans (hb1.mono hb0.size)
    go_wp2
    go_ret
    exact ⟨rfl, h1⟩
end Go.Proofs.Ytfcedkcfnifdfaa
