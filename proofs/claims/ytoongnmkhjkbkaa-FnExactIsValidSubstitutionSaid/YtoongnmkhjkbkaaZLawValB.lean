/- The law of IsValidSubstitution. -/
import Derived.Test.YtoongnmkhjkbkaaZLawK
import Derived.Test.YtoongnmkhjkbkaaZSpValB
namespace Go.Proofs.Ytoongnmkhjkbkaa
open Go.RowKit Go.Lib

set_option maxRecDepth 100000 in
set_option maxHeartbeats 8000000 in
theorem lawValB (l0 : List BindingX) (A0 : Option Addr) (c0 : Nat) (w : World) (hok0 : DV.okE (BindingX.rows l0)) (hn0 : l0.length ≤ 9223372036854775807) (hv0 : BindingRow w (Und w.heap.size) A0 c0 l0) :
    Calls Try.prog 4 #[.slice A0 l0.length c0] w fun e w' => e = .returned (.bool true) ∧ Below w.heap.size w w' := by
  have R0 := Lib.hid (rd_bet hv0)
  have OK0 := Lib.hid hok0
  clear hv0 hok0
  have h0 : Below w.heap.size w w := Below.refl _ _
  by_cases hw0 : DV.wtE (BindingX.rows l0) ≤ 1048576
  case neg =>
    have HF := Lib.hid (leftV_no (L := 1048576) (n := DV.wtE (BindingX.rows l0)) (by omega))
    go_enter Try.func4, Try.ntmps4
    go_wp2_with fail
    refine (szBindingS l0 A0 c0 1048576 _ OK0.out hn0 (rd_und R0.out (by omega)) (by decide)).mono ?_
    rw [HF.out]
    rintro e w1 ⟨rfl, hb⟩
    have hk := Keep.below hb
    have h1 : Below w.heap.size w w1 := h0.trans (hb.mono h0.size)
    have s1 := hk.size
    have R0 := Lib.hid (rd_carry R0.out hk (by omega) (by omega))
    clear hk hb
    go_wp2
    go_ret
    exact ⟨rfl, h1⟩
  case pos =>
    obtain ⟨L1, hL1, hl1⟩ : ∃ L : Nat, leftV 1048576 (DV.wtE (BindingX.rows l0)) = (L : Nat) ∧ L ≤ 1048576 := ⟨1048576 - DV.wtE (BindingX.rows l0), by rw [leftV_yes hw0]; omega, by omega⟩
    have HL1 := Lib.hid hL1
    have hnn1 : ¬ (L1 : Int) < 0 := by omega
    have hww0 : DV.wtE (BindingX.rows l0) ≤ 1048576 := by omega
    clear hL1
    obtain ⟨y, hy⟩ : ∃ y : Bool, y = okBs l0 := ⟨_, rfl⟩
    have HY := Lib.hid hy
    clear hy
    go_enter Try.func4, Try.ntmps4
    go_wp2_with fail
    refine (szBindingS l0 A0 c0 1048576 _ OK0.out hn0 (rd_und R0.out (by omega)) (by decide)).mono ?_
    rw [HL1.out]
    rintro e w1 ⟨rfl, hb⟩
    have hk := Keep.below hb
    have h1 : Below w.heap.size w w1 := h0.trans (hb.mono h0.size)
    have s1 := hk.size
    have R0 := Lib.hid (rd_carry R0.out hk (by omega) (by omega))
    clear hk hb
    go_wp2_with fail
    refine (toBindingS l0 A0 c0 _ hww0 (rd_und R0.out (by omega))).mono ?_
    intro e w2 hm
    obtain ⟨Ba0, da0, bsa0, rfl, ho, hnd, hr, hrg, hb⟩ := madeR_get (BindingX.rows_length l0) hm
    clear hm
    have hk := Keep.below hb
    have h2 : Below w.heap.size w w2 := h1.trans (hb.mono h1.size)
    have s2 := hk.size
    have R0 := Lib.hid (rd_carry R0.out hk (by omega) (by omega))
    clear hk hb
    have Ca0 := Lib.hid hr
    clear hr hrg ho hnd
    go_wp2_with fail
    refine (HY.out ▸ specValidB l0 Ba0 da0 _ OK0.out (rd_und Ca0.out (by omega))).mono ?_
    rintro e w3 ⟨rfl, hb⟩
    have hk := Keep.below hb
    have h3 : Below w.heap.size w w3 := h2.trans (hb.mono h2.size)
    have s3 := hk.size
    have R0 := Lib.hid (rd_carry R0.out hk (by omega) (by omega))
    have Ca0 := Lib.hid (rd_carry Ca0.out hk (by omega) (by omega))
    clear hk hb
    go_wp2_with fail
    refine (toBindingS l0 A0 c0 _ hww0 (rd_und R0.out (by omega))).mono ?_
    intro e w4 hm
    obtain ⟨Bx0, dx0, bsx0, rfl, ho, hnd, hr, hrg, hb⟩ := madeR_get (BindingX.rows_length l0) hm
    clear hm
    have hk := Keep.below hb
    have h4 : Below w.heap.size w w4 := h3.trans (hb.mono h3.size)
    have s4 := hk.size
    have R0 := Lib.hid (rd_carry R0.out hk (by omega) (by omega))
    clear hk hb
    have Cx0 := Lib.hid hr
    clear hr hrg ho hnd
    go_wp2_with fail
    refine (HY.out ▸ implValidB l0 Bx0 dx0 _ OK0.out (small_Binding hww0) (rd_und Cx0.out (by omega))).mono ?_
    rintro e w5 ⟨rfl, hb⟩
    have hk := Keep.below hb
    have h5 : Below w.heap.size w w5 := h4.trans (hb.mono h4.size)
    have s5 := hk.size
    have R0 := Lib.hid (rd_carry R0.out hk (by omega) (by omega))
    have Cx0 := Lib.hid (rd_carry Cx0.out hk (by omega) (by omega))
    clear hk hb
    go_wp2_with fail
    refine (toBindingS l0 A0 c0 _ hww0 (rd_und R0.out (by omega))).mono ?_
    intro e w6 hm
    obtain ⟨Bu0, du0, bsu0, rfl, ho, hnd, hr, hrg, hb⟩ := madeR_get (BindingX.rows_length l0) hm
    clear hm
    have hk := Keep.below hb
    have h6 : Below w.heap.size w w6 := h5.trans (hb.mono h5.size)
    have s6 := hk.size
    have R0 := Lib.hid (rd_carry R0.out hk (by omega) (by omega))
    have Cx0 := Lib.hid (rd_carry Cx0.out hk (by omega) (by omega))
    clear hk hb
    have Cu0 := Lib.hid hr
    clear hr hrg ho hnd
    go_wp2_with fail
    refine (eqBindingS l0 Bx0 Bu0 dx0 du0 _ (rd_und Cx0.out (by omega)) (rd_und Cu0.out (by omega))).mono ?_
    rintro e w7 ⟨rfl, hb⟩
    have hk := Keep.below hb
    have h7 : Below w.heap.size w w7 := h6.trans (hb.mono h6.size)
    have s7 := hk.size
    have R0 := Lib.hid (rd_carry R0.out hk (by omega) (by omega))
    have Cx0 := Lib.hid (rd_carry Cx0.out hk (by omega) (by omega))
    have Cu0 := Lib.hid (rd_carry Cu0.out hk (by omega) (by omega))
    clear hk hb
    go_wp2
    go_ret
    exact ⟨rfl, h7⟩
end Go.Proofs.Ytoongnmkhjkbkaa
