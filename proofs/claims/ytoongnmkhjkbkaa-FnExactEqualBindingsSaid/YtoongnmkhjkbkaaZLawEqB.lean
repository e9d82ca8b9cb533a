/- The law of EqualBindings. -/
import Derived.Test.YtoongnmkhjkbkaaZLawK
import Derived.Test.YtoongnmkhjkbkaaZSpEqB
namespace Go.Proofs.Ytoongnmkhjkbkaa
open Go.RowKit Go.Lib

set_option maxRecDepth 100000 in
set_option maxHeartbeats 8000000 in
theorem lawEqB (l0 : List BindingX) (A0 : Option Addr) (c0 : Nat) (l1 : List BindingX) (A1 : Option Addr) (c1 : Nat) (w : World) (hok0 : DV.okE (BindingX.rows l0)) (hn0 : l0.length ≤ 9223372036854775807) (hv0 : BindingRow w (Und w.heap.size) A0 c0 l0) (hok1 : DV.okE (BindingX.rows l1)) (hn1 : l1.length ≤ 9223372036854775807) (hv1 : BindingRow w (Und w.heap.size) A1 c1 l1) :
    Calls Try.prog 9 #[.slice A0 l0.length c0, .slice A1 l1.length c1] w fun e w' => e = .returned (.bool true) ∧ Below w.heap.size w w' := by
  have R0 := Lib.hid (rd_bet hv0)
  have OK0 := Lib.hid hok0
  have R1 := Lib.hid (rd_bet hv1)
  have OK1 := Lib.hid hok1
  clear hv0 hok0 hv1 hok1
  have h0 : Below w.heap.size w w := Below.refl _ _
  by_cases hw0 : DV.wtE (BindingX.rows l0) ≤ 1048576
  case neg =>
    have HF := Lib.hid (leftV_no (L := 1048576) (n := DV.wtE (BindingX.rows l0)) (by omega))
    go_enter Try.func9, Try.ntmps9
    go_wp2_with fail
    refine (szBindingS l0 A0 c0 1048576 _ OK0.out hn0 (rd_und R0.out (by omega)) (by decide)).mono ?_
    rw [HF.out]
    rintro e w1 ⟨rfl, hb⟩
    have hk := Keep.below hb
    have h1 : Below w.heap.size w w1 := h0.trans (hb.mono h0.size)
    have s1 := hk.size
    have R0 := Lib.hid (rd_carry R0.out hk (by omega) (by omega))
    have R1 := Lib.hid (rd_carry R1.out hk (by omega) (by omega))
    clear hk hb
    go_wp2
    go_ret
    exact ⟨rfl, h1⟩
  case pos =>
    obtain ⟨L1, hL1, hl1⟩ : ∃ L : Nat, leftV 1048576 (DV.wtE (BindingX.rows l0)) = (L : Nat) ∧ L ≤ 1048576 := ⟨1048576 - DV.wtE (BindingX.rows l0), by rw [leftV_yes hw0]; omega, by omega⟩
    have HL1 := Lib.hid hL1
    have hnn1 : ¬ (L1 : Int) < 0 := by omega
    have hww0 : DV.wtE (BindingX.rows l0) ≤ 1048576 := by omega
    clear hL1
    by_cases hw1 : DV.wtE (BindingX.rows l1) ≤ L1
    case neg =>
      have HF := Lib.hid (leftV_no (L := L1) (n := DV.wtE (BindingX.rows l1)) (by omega))
      go_enter Try.func9, Try.ntmps9
      go_wp2_with fail
      refine (szBindingS l0 A0 c0 1048576 _ OK0.out hn0 (rd_und R0.out (by omega)) (by decide)).mono ?_
      rw [HL1.out]
      rintro e w1 ⟨rfl, hb⟩
      have hk := Keep.below hb
      have h1 : Below w.heap.size w w1 := h0.trans (hb.mono h0.size)
      have s1 := hk.size
      have R0 := Lib.hid (rd_carry R0.out hk (by omega) (by omega))
      have R1 := Lib.hid (rd_carry R1.out hk (by omega) (by omega))
      clear hk hb
      go_wp2_with fail
      refine (szBindingS l1 A1 c1 L1 _ OK1.out hn1 (rd_und R1.out (by omega)) hl1).mono ?_
      rw [HF.out]
      rintro e w2 ⟨rfl, hb⟩
      have hk := Keep.below hb
      have h2 : Below w.heap.size w w2 := h1.trans (hb.mono h1.size)
      have s2 := hk.size
      have R0 := Lib.hid (rd_carry R0.out hk (by omega) (by omega))
      have R1 := Lib.hid (rd_carry R1.out hk (by omega) (by omega))
      clear hk hb
      go_wp2
      go_ret
      exact ⟨rfl, h2⟩
    case pos =>
      obtain ⟨L2, hL2, hl2⟩ : ∃ L : Nat, leftV L1 (DV.wtE (BindingX.rows l1)) = (L : Nat) ∧ L ≤ 1048576 := ⟨L1 - DV.wtE (BindingX.rows l1), by rw [leftV_yes hw1]; omega, by omega⟩
      have HL2 := Lib.hid hL2
      have hnn2 : ¬ (L2 : Int) < 0 := by omega
      have hww1 : DV.wtE (BindingX.rows l1) ≤ 1048576 := by omega
      clear hL2
      obtain ⟨y, hy⟩ : ∃ y : Bool, y = eqBs l0 l1 := ⟨_, rfl⟩
      have HY := Lib.hid hy
      clear hy
      go_enter Try.func9, Try.ntmps9
      go_wp2_with fail
      refine (szBindingS l0 A0 c0 1048576 _ OK0.out hn0 (rd_und R0.out (by omega)) (by decide)).mono ?_
      rw [HL1.out]
      rintro e w1 ⟨rfl, hb⟩
      have hk := Keep.below hb
      have h1 : Below w.heap.size w w1 := h0.trans (hb.mono h0.size)
      have s1 := hk.size
      have R0 := Lib.hid (rd_carry R0.out hk (by omega) (by omega))
      have R1 := Lib.hid (rd_carry R1.out hk (by omega) (by omega))
      clear hk hb
      go_wp2_with fail
      refine (szBindingS l1 A1 c1 L1 _ OK1.out hn1 (rd_und R1.out (by omega)) hl1).mono ?_
      rw [HL2.out]
      rintro e w2 ⟨rfl, hb⟩
      have hk := Keep.below hb
      have h2 : Below w.heap.size w w2 := h1.trans (hb.mono h1.size)
      have s2 := hk.size
      have R0 := Lib.hid (rd_carry R0.out hk (by omega) (by omega))
      have R1 := Lib.hid (rd_carry R1.out hk (by omega) (by omega))
      clear hk hb
      go_wp2_with fail
      refine (toBindingS l0 A0 c0 _ hww0 (rd_und R0.out (by omega))).mono ?_
      intro e w3 hm
      obtain ⟨Ba0, da0, bsa0, rfl, ho, hnd, hr, hrg, hb⟩ := madeR_get (BindingX.rows_length l0) hm
      clear hm
      have hk := Keep.below hb
      have h3 : Below w.heap.size w w3 := h2.trans (hb.mono h2.size)
      have s3 := hk.size
      have R0 := Lib.hid (rd_carry R0.out hk (by omega) (by omega))
      have R1 := Lib.hid (rd_carry R1.out hk (by omega) (by omega))
      clear hk hb
      have Ca0 := Lib.hid hr
      clear hr hrg ho hnd
      go_wp2_with fail
      refine (toBindingS l1 A1 c1 _ hww1 (rd_und R1.out (by omega))).mono ?_
      intro e w4 hm
      obtain ⟨Ba1, da1, bsa1, rfl, ho, hnd, hr, hrg, hb⟩ := madeR_get (BindingX.rows_length l1) hm
      clear hm
      have hk := Keep.below hb
      have h4 : Below w.heap.size w w4 := h3.trans (hb.mono h3.size)
      have s4 := hk.size
      have R0 := Lib.hid (rd_carry R0.out hk (by omega) (by omega))
      have R1 := Lib.hid (rd_carry R1.out hk (by omega) (by omega))
      have Ca0 := Lib.hid (rd_carry Ca0.out hk (by omega) (by omega))
      clear hk hb
      have Ca1 := Lib.hid hr
      clear hr hrg ho hnd
      go_wp2_with fail
      refine (HY.out ▸ specEqBs l0 l1 Ba0 Ba1 da0 da1 _ (rd_und Ca0.out (by omega)) (rd_und Ca1.out (by omega))).mono ?_
      rintro e w5 ⟨rfl, hb⟩
      have hk := Keep.below hb
      have h5 : Below w.heap.size w w5 := h4.trans (hb.mono h4.size)
      have s5 := hk.size
      have R0 := Lib.hid (rd_carry R0.out hk (by omega) (by omega))
      have R1 := Lib.hid (rd_carry R1.out hk (by omega) (by omega))
      have Ca0 := Lib.hid (rd_carry Ca0.out hk (by omega) (by omega))
      have Ca1 := Lib.hid (rd_carry Ca1.out hk (by omega) (by omega))
      clear hk hb
      go_wp2_with fail
      refine (toBindingS l0 A0 c0 _ hww0 (rd_und R0.out (by omega))).mono ?_
      intro e w6 hm
      obtain ⟨Bx0, dx0, bsx0, rfl, ho, hnd, hr, hrg, hb⟩ := madeR_get (BindingX.rows_length l0) hm
      clear hm
      have hk := Keep.below hb
      have h6 : Below w.heap.size w w6 := h5.trans (hb.mono h5.size)
      have s6 := hk.size
      have R0 := Lib.hid (rd_carry R0.out hk (by omega) (by omega))
      have R1 := Lib.hid (rd_carry R1.out hk (by omega) (by omega))
      clear hk hb
      have Cx0 := Lib.hid hr
      clear hr hrg ho hnd
      go_wp2_with fail
      refine (toBindingS l1 A1 c1 _ hww1 (rd_und R1.out (by omega))).mono ?_
      intro e w7 hm
      obtain ⟨Bx1, dx1, bsx1, rfl, ho, hnd, hr, hrg, hb⟩ := madeR_get (BindingX.rows_length l1) hm
      clear hm
      have hk := Keep.below hb
      have h7 : Below w.heap.size w w7 := h6.trans (hb.mono h6.size)
      have s7 := hk.size
      have R0 := Lib.hid (rd_carry R0.out hk (by omega) (by omega))
      have R1 := Lib.hid (rd_carry R1.out hk (by omega) (by omega))
      have Cx0 := Lib.hid (rd_carry Cx0.out hk (by omega) (by omega))
      clear hk hb
      have Cx1 := Lib.hid hr
      clear hr hrg ho hnd
      go_wp2_with fail
      refine (HY.out ▸ implEqBs l0 l1 Bx0 Bx1 dx0 dx1 _ (small_Binding hww0) (rd_und Cx0.out (by omega)) (rd_und Cx1.out (by omega))).mono ?_
      rintro e w8 ⟨rfl, hb⟩
      have hk := Keep.below hb
      have h8 : Below w.heap.size w w8 := h7.trans (hb.mono h7.size)
      have s8 := hk.size
      have R0 := Lib.hid (rd_carry R0.out hk (by omega) (by omega))
      have R1 := Lib.hid (rd_carry R1.out hk (by omega) (by omega))
      have Cx0 := Lib.hid (rd_carry Cx0.out hk (by omega) (by omega))
      have Cx1 := Lib.hid (rd_carry Cx1.out hk (by omega) (by omega))
      clear hk hb
      go_wp2_with fail
      refine (toBindingS l0 A0 c0 _ hww0 (rd_und R0.out (by omega))).mono ?_
      intro e w9 hm
      obtain ⟨Bu0, du0, bsu0, rfl, ho, hnd, hr, hrg, hb⟩ := madeR_get (BindingX.rows_length l0) hm
      clear hm
      have hk := Keep.below hb
      have h9 : Below w.heap.size w w9 := h8.trans (hb.mono h8.size)
      have s9 := hk.size
      have R0 := Lib.hid (rd_carry R0.out hk (by omega) (by omega))
      have R1 := Lib.hid (rd_carry R1.out hk (by omega) (by omega))
      have Cx0 := Lib.hid (rd_carry Cx0.out hk (by omega) (by omega))
      have Cx1 := Lib.hid (rd_carry Cx1.out hk (by omega) (by omega))
      clear hk hb
      have Cu0 := Lib.hid hr
      clear hr hrg ho hnd
      go_wp2_with fail
      refine (eqBindingS l0 Bx0 Bu0 dx0 du0 _ (rd_und Cx0.out (by omega)) (rd_und Cu0.out (by omega))).mono ?_
      rintro e w10 ⟨rfl, hb⟩
      have hk := Keep.below hb
      have h10 : Below w.heap.size w w10 := h9.trans (hb.mono h9.size)
      have s10 := hk.size
      have R0 := Lib.hid (rd_carry R0.out hk (by omega) (by omega))
      have R1 := Lib.hid (rd_carry R1.out hk (by omega) (by omega))
      have Cx0 := Lib.hid (rd_carry Cx0.out hk (by omega) (by omega))
      have Cx1 := Lib.hid (rd_carry Cx1.out hk (by omega) (by omega))
      have Cu0 := Lib.hid (rd_carry Cu0.out hk (by omega) (by omega))
      clear hk hb
      go_wp2_with fail
      refine (toBindingS l1 A1 c1 _ hww1 (rd_und R1.out (by omega))).mono ?_
      intro e w11 hm
      obtain ⟨Bu1, du1, bsu1, rfl, ho, hnd, hr, hrg, hb⟩ := madeR_get (BindingX.rows_length l1) hm
      clear hm
      have hk := Keep.below hb
      have h11 : Below w.heap.size w w11 := h10.trans (hb.mono h10.size)
      have s11 := hk.size
      have R0 := Lib.hid (rd_carry R0.out hk (by omega) (by omega))
      have R1 := Lib.hid (rd_carry R1.out hk (by omega) (by omega))
      have Cx0 := Lib.hid (rd_carry Cx0.out hk (by omega) (by omega))
      have Cx1 := Lib.hid (rd_carry Cx1.out hk (by omega) (by omega))
      clear hk hb
      have Cu1 := Lib.hid hr
      clear hr hrg ho hnd
      go_wp2_with fail
      refine (eqBindingS l1 Bx1 Bu1 dx1 du1 _ (rd_und Cx1.out (by omega)) (rd_und Cu1.out (by omega))).mono ?_
      rintro e w12 ⟨rfl, hb⟩
      have hk := Keep.below hb
      have h12 : Below w.heap.size w w12 := h11.trans (hb.mono h11.size)
      have s12 := hk.size
      have R0 := Lib.hid (rd_carry R0.out hk (by omega) (by omega))
      have R1 := Lib.hid (rd_carry R1.out hk (by omega) (by omega))
      have Cx0 := Lib.hid (rd_carry Cx0.out hk (by omega) (by omega))
      have Cx1 := Lib.hid (rd_carry Cx1.out hk (by omega) (by omega))
      have Cu1 := Lib.hid (rd_carry Cu1.out hk (by omega) (by omega))
      clear hk hb
      go_wp2
      go_ret
      exact ⟨rfl, h12⟩
end Go.Proofs.Ytoongnmkhjkbkaa
