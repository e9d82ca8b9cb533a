/- The law of Lookup. -/
import Derived.Test.YtkiofeiinecpiaaZLawK
import Derived.Test.YtkiofeiinecpiaaZSpLook
import Derived.Test.YtkiofeiinecpiaaZLawK2
namespace Go.Proofs.Ytkiofeiinecpiaa
open Go.RowKit Go.Lib

set_option maxRecDepth 100000 in
set_option maxHeartbeats 8000000 in
theorem lawLookup (l0 : List BindingX) (A0 : Option Addr) (c0 : Nat) (l1 : ByteArray) (w : World) (hok0 : DV.okE (BindingX.rows l0)) (hn0 : l0.length ≤ 9223372036854775807) (hv0 : BindingRow w (Und w.heap.size) A0 c0 l0) (hs1 : l1.size ≤ 9223372036854775807) :
    Calls Try.prog 11 #[.slice A0 l0.length c0, .string l1] w fun e w' => e = .returned (.bool true) ∧ Below w.heap.size w w' := by
  have R0 := Lib.hid (rd_bet hv0)
  have OK0 := Lib.hid hok0
  clear hv0 hok0
  have h0 : Below w.heap.size w w := Below.refl _ _
  by_cases hq1 : l1.size ≤ 1048576
  case neg =>
    have hq1' : ¬ ((l1.size : Int) ≤ 1048576) := by omega
    go_enter Try.func11, Try.ntmps11
    go_wp2
    go_ret
    exact ⟨rfl, h0⟩
  case pos =>
    by_cases hw0 : DV.wtE (BindingX.rows l0) ≤ 1048576
    case neg =>
      have HF := Lib.hid (leftV_no (L := 1048576) (n := DV.wtE (BindingX.rows l0)) (by omega))
      go_enter Try.func11, Try.ntmps11
      go_wp2_with fail
      refine (szBindingS l0 A0 c0 1048576 _ OK0.out hn0 (rd_und R0.out (by omega)) (by decide)).mono ?_
      rw [HF.out]
      rintro e w1 ⟨rfl, hb⟩
      have hk := Keep.below hb
      have h1 : Below w.heap.size w w1 := h0.trans (hb.mono h0.size)
      have s1 := hk.size
      have R0 := Lib.hid (rd_carry R0.out hk (by omega) (by omega))
      clear hk hb
      go_wp2
      go_ret
      exact ⟨rfl, h1⟩
    case pos =>
      obtain ⟨L1, hL1, hl1⟩ : ∃ L : Nat, leftV 1048576 (DV.wtE (BindingX.rows l0)) = (L : Nat) ∧ L ≤ 1048576 := ⟨1048576 - DV.wtE (BindingX.rows l0), by rw [leftV_yes hw0]; omega, by omega⟩
      have HL1 := Lib.hid hL1
      have hnn1 : ¬ (L1 : Int) < 0 := by omega
      have hww0 : DV.wtE (BindingX.rows l0) ≤ 1048576 := by omega
      clear hL1
      obtain ⟨y, hy⟩ : ∃ y, y = (lookX l1 l0).getD zeroX := ⟨_, rfl⟩
      obtain ⟨b, hbb⟩ : ∃ b, b = (lookX l1 l0).isSome := ⟨_, rfl⟩
      have HBB := Lib.hid hbb
      have HY := Lib.hid hy
      have hcnt : 1 + tcntL y.cells ≤ 4398046511104 := by rw [hy]; exact cnt_look hww0
      clear hy hbb
      go_enter Try.func11, Try.ntmps11
      go_wp2_with fail
      refine (szBindingS l0 A0 c0 1048576 _ OK0.out hn0 (rd_und R0.out (by first | omega | (simp only [World.size_alloc]; omega))) (by decide)).mono ?_
      rw [HL1.out]
      rintro e w1 ⟨rfl, hb⟩
      have hk := Keep.below hb
      have h1 : Below w.heap.size w w1 := h0.trans (hb.mono h0.size)
      have s1 := hk.size
      have R0 := Lib.hid (rd_carry R0.out hk (by first | omega | (simp only [World.size_alloc]; omega)) (by first | omega | (simp only [World.size_alloc]; omega)))
      clear hk hb
      go_wp2_with fail
      refine (toBindingS l0 A0 c0 _ hww0 (rd_und R0.out (by first | omega | (simp only [World.size_alloc]; omega)))).mono ?_
      intro e w2 hm
      obtain ⟨Ba0, da0, bsa0, rfl, ho, hnd, hr, hrg, hb⟩ := madeR_get (BindingX.rows_length l0) hm
      clear hm
      have hk := Keep.below hb
      have h2 : Below w.heap.size w w2 := h1.trans (hb.mono h1.size)
      have s2 := hk.size
      have R0 := Lib.hid (rd_carry R0.out hk (by first | omega | (simp only [World.size_alloc]; omega)) (by first | omega | (simp only [World.size_alloc]; omega)))
      clear hk hb
      have Ca0 := Lib.hid hr
      clear hr hrg ho hnd
      go_wp2_with fail
      refine (HBB.out ▸ HY.out ▸ specLookup l0 Ba0 da0 l1 _ (small_Binding hww0) (rd_und Ca0.out (by first | omega | (simp only [World.size_alloc]; omega)))).mono ?_
      intro e w3 hm
      obtain ⟨BW, dW, bsW, rfl, ho, hnd, hr, hrg, hb⟩ := madeB_get hm
      clear hm
      have hk := Keep.below hb
      have h3 : Below w.heap.size w w3 := h2.trans (hb.mono h2.size)
      have s3 := hk.size
      have R0 := Lib.hid (rd_carry R0.out hk (by first | omega | (simp only [World.size_alloc]; omega)) (by first | omega | (simp only [World.size_alloc]; omega)))
      have Ca0 := Lib.hid (rd_carry Ca0.out hk (by first | omega | (simp only [World.size_alloc]; omega)) (by first | omega | (simp only [World.size_alloc]; omega)))
      clear hk hb
      have CW := Lib.hid hr
      clear hr hrg ho hnd
      have hk := Keep.alloc w3 (.cells #[.int .i64 y.kind_, .string y.name_, .slice BW y.args_.length dW] 26)
      have h3' := h3.alloc h3.size (.cells #[.int .i64 y.kind_, .string y.name_, .slice BW y.args_.length dW] 26)
      have R0 := Lib.hid (rd_carry R0.out hk (by first | omega | (simp only [World.size_alloc]; omega)) (by first | omega | (simp only [World.size_alloc]; omega)))
      have Ca0 := Lib.hid (rd_carry Ca0.out hk (by first | omega | (simp only [World.size_alloc]; omega)) (by first | omega | (simp only [World.size_alloc]; omega)))
      have CW := Lib.hid (rd_carry CW.out hk (by first | omega | (simp only [World.size_alloc]; omega)) (by first | omega | (simp only [World.size_alloc]; omega)))
      have XW := Lib.hid (Whole.new w3 26 #[.int .i64 y.kind_, .string y.name_, .slice BW y.args_.length dW])
      clear hk
      go_wp2_with fail
      refine (toBindingS l0 A0 c0 _ hww0 (rd_und R0.out (by first | omega | (simp only [World.size_alloc]; omega)))).mono ?_
      intro e w4 hm
      obtain ⟨Bx0, dx0, bsx0, rfl, ho, hnd, hr, hrg, hb⟩ := madeR_get (BindingX.rows_length l0) hm
      simp only [World.size_alloc] at ho hr hrg
      clear hm
      have hk := Keep.below hb
      have h4 : Below w.heap.size w w4 := h3'.trans (hb.mono h3'.size)
      have s4 := hk.size
      simp only [World.size_alloc] at s4
      have R0 := Lib.hid (rd_carry R0.out hk (by first | omega | (simp only [World.size_alloc]; omega)) (by first | omega | (simp only [World.size_alloc]; omega)))
      have CW := Lib.hid (rd_carry CW.out hk (by first | omega | (simp only [World.size_alloc]; omega)) (by first | omega | (simp only [World.size_alloc]; omega)))
      have XW := Lib.hid (wh_carry XW.out hk (by first | omega | (simp only [World.size_alloc]; omega)))
      clear hk hb
      have Cx0 := Lib.hid hr
      have Gx0 := Lib.hid hrg
      have Ox0 := Lib.hid ho
      have Dx0 := Lib.hid hnd
      clear hr hrg ho hnd
      go_wp2_with fail
      refine (HBB.out ▸ HY.out ▸ implLookup l0 Bx0 dx0 l1 _ (small_Binding hww0) (rd_und Cx0.out (by first | omega | (simp only [World.size_alloc]; omega)))).mono ?_
      intro e w5 hm
      obtain ⟨Bg, dg, bsg, rfl, ho, hnd, hr, hrg, hb⟩ := madeB_get hm
      clear hm
      have hk := Keep.below hb
      have h5 : Below w.heap.size w w5 := h4.trans (hb.mono h4.size)
      have s5 := hk.size
      have R0 := Lib.hid (rd_carry R0.out hk (by first | omega | (simp only [World.size_alloc]; omega)) (by first | omega | (simp only [World.size_alloc]; omega)))
      have CW := Lib.hid (rd_carry CW.out hk (by first | omega | (simp only [World.size_alloc]; omega)) (by first | omega | (simp only [World.size_alloc]; omega)))
      have XW := Lib.hid (wh_carry XW.out hk (by first | omega | (simp only [World.size_alloc]; omega)))
      have Cx0 := Lib.hid (rd_carry Cx0.out hk (by first | omega | (simp only [World.size_alloc]; omega)) (by first | omega | (simp only [World.size_alloc]; omega)))
      have Ox0 := Lib.hid (ow_carry Ox0.out Gx0.out hk (by first | omega | (simp only [World.size_alloc]; omega)))
      clear hk hb
      have Cg := Lib.hid hr
      have Gg := Lib.hid hrg
      have Og := Lib.hid ho
      have Dg := Lib.hid hnd
      clear hr hrg ho hnd
      have hk := Keep.alloc w5 (.cells #[.int .i64 y.kind_, .string y.name_, .slice Bg y.args_.length dg] 26)
      have h5' := h5.alloc h5.size (.cells #[.int .i64 y.kind_, .string y.name_, .slice Bg y.args_.length dg] 26)
      have R0 := Lib.hid (rd_carry R0.out hk (by first | omega | (simp only [World.size_alloc]; omega)) (by first | omega | (simp only [World.size_alloc]; omega)))
      have CW := Lib.hid (rd_carry CW.out hk (by first | omega | (simp only [World.size_alloc]; omega)) (by first | omega | (simp only [World.size_alloc]; omega)))
      have XW := Lib.hid (wh_carry XW.out hk (by first | omega | (simp only [World.size_alloc]; omega)))
      have Cx0 := Lib.hid (rd_carry Cx0.out hk (by first | omega | (simp only [World.size_alloc]; omega)) (by first | omega | (simp only [World.size_alloc]; omega)))
      have Ox0 := Lib.hid (ow_carry Ox0.out Gx0.out hk (by first | omega | (simp only [World.size_alloc]; omega)))
      have Cg := Lib.hid (rd_carry Cg.out hk (by first | omega | (simp only [World.size_alloc]; omega)) (by first | omega | (simp only [World.size_alloc]; omega)))
      have Og := Lib.hid (ows_carry Og.out Gg.out hk (by first | omega | (simp only [World.size_alloc]; omega)))
      have Xg := Lib.hid (Whole.new w5 26 #[.int .i64 y.kind_, .string y.name_, .slice Bg y.args_.length dg])
      clear hk
      obtain ⟨xg0, xg1, xg2⟩ := cells3 Xg.out
      have xgl := Xg.out.lt
      obtain ⟨xw0, xw1, xw2⟩ := cells3 XW.out
      have xwl := XW.out.lt
      go_wp2_with fail
      refine (eqType y _ _ _ ⟨_, _, rfl, rd_und Cg.out (by first | omega | (simp only [World.size_alloc]; omega))⟩ ⟨_, _, rfl, rd_und CW.out (by first | omega | (simp only [World.size_alloc]; omega))⟩).mono ?_
      rintro e w6 ⟨rfl, hb⟩
      have hk := Keep.below hb
      have h6 : Below w.heap.size w w6 := h5'.trans (hb.mono h5'.size)
      have s6 := hk.size
      simp only [World.size_alloc] at s6
      have R0 := Lib.hid (rd_carry R0.out hk (by first | omega | (simp only [World.size_alloc]; omega)) (by first | omega | (simp only [World.size_alloc]; omega)))
      have CW := Lib.hid (rd_carry CW.out hk (by first | omega | (simp only [World.size_alloc]; omega)) (by first | omega | (simp only [World.size_alloc]; omega)))
      have XW := Lib.hid (wh_carry XW.out hk (by first | omega | (simp only [World.size_alloc]; omega)))
      have Cx0 := Lib.hid (rd_carry Cx0.out hk (by first | omega | (simp only [World.size_alloc]; omega)) (by first | omega | (simp only [World.size_alloc]; omega)))
      have Ox0 := Lib.hid (ow_carry Ox0.out Gx0.out hk (by first | omega | (simp only [World.size_alloc]; omega)))
      have Cg := Lib.hid (rd_carry Cg.out hk (by first | omega | (simp only [World.size_alloc]; omega)) (by first | omega | (simp only [World.size_alloc]; omega)))
      have Og := Lib.hid (ows_carry Og.out Gg.out hk (by first | omega | (simp only [World.size_alloc]; omega)))
      have Xg := Lib.hid (wh_carry Xg.out hk (by first | omega | (simp only [World.size_alloc]; omega)))
      clear hk hb xg0 xg1 xg2 xgl xw0 xw1 xw2 xwl
      go_wp2_with fail
      refine (toBindingS l0 A0 c0 _ hww0 (rd_und R0.out (by first | omega | (simp only [World.size_alloc]; omega)))).mono ?_
      intro e w7 hm
      obtain ⟨Bu0, du0, bsu0, rfl, ho, hnd, hr, hrg, hb⟩ := madeR_get (BindingX.rows_length l0) hm
      clear hm
      have hk := Keep.below hb
      have h7 : Below w.heap.size w w7 := h6.trans (hb.mono h6.size)
      have s7 := hk.size
      have R0 := Lib.hid (rd_carry R0.out hk (by first | omega | (simp only [World.size_alloc]; omega)) (by first | omega | (simp only [World.size_alloc]; omega)))
      have CW := Lib.hid (rd_carry CW.out hk (by first | omega | (simp only [World.size_alloc]; omega)) (by first | omega | (simp only [World.size_alloc]; omega)))
      have XW := Lib.hid (wh_carry XW.out hk (by first | omega | (simp only [World.size_alloc]; omega)))
      have Cx0 := Lib.hid (rd_carry Cx0.out hk (by first | omega | (simp only [World.size_alloc]; omega)) (by first | omega | (simp only [World.size_alloc]; omega)))
      have Ox0 := Lib.hid (ow_carry Ox0.out Gx0.out hk (by first | omega | (simp only [World.size_alloc]; omega)))
      have Cg := Lib.hid (rd_carry Cg.out hk (by first | omega | (simp only [World.size_alloc]; omega)) (by first | omega | (simp only [World.size_alloc]; omega)))
      have Og := Lib.hid (ows_carry Og.out Gg.out hk (by first | omega | (simp only [World.size_alloc]; omega)))
      have Xg := Lib.hid (wh_carry Xg.out hk (by first | omega | (simp only [World.size_alloc]; omega)))
      clear hk hb
      have Cu0 := Lib.hid hr
      clear hr hrg ho hnd
      go_wp2_with fail
      refine (eqBindingS l0 Bx0 Bu0 dx0 du0 _ (rd_und Cx0.out (by first | omega | (simp only [World.size_alloc]; omega))) (rd_und Cu0.out (by first | omega | (simp only [World.size_alloc]; omega)))).mono ?_
      rintro e w8 ⟨rfl, hb⟩
      have hk := Keep.below hb
      have h8 : Below w.heap.size w w8 := h7.trans (hb.mono h7.size)
      have s8 := hk.size
      have R0 := Lib.hid (rd_carry R0.out hk (by first | omega | (simp only [World.size_alloc]; omega)) (by first | omega | (simp only [World.size_alloc]; omega)))
      have CW := Lib.hid (rd_carry CW.out hk (by first | omega | (simp only [World.size_alloc]; omega)) (by first | omega | (simp only [World.size_alloc]; omega)))
      have XW := Lib.hid (wh_carry XW.out hk (by first | omega | (simp only [World.size_alloc]; omega)))
      have Cx0 := Lib.hid (rd_carry Cx0.out hk (by first | omega | (simp only [World.size_alloc]; omega)) (by first | omega | (simp only [World.size_alloc]; omega)))
      have Ox0 := Lib.hid (ow_carry Ox0.out Gx0.out hk (by first | omega | (simp only [World.size_alloc]; omega)))
      have Cg := Lib.hid (rd_carry Cg.out hk (by first | omega | (simp only [World.size_alloc]; omega)) (by first | omega | (simp only [World.size_alloc]; omega)))
      have Og := Lib.hid (ows_carry Og.out Gg.out hk (by first | omega | (simp only [World.size_alloc]; omega)))
      have Xg := Lib.hid (wh_carry Xg.out hk (by first | omega | (simp only [World.size_alloc]; omega)))
      have Cu0 := Lib.hid (rd_carry Cu0.out hk (by first | omega | (simp only [World.size_alloc]; omega)) (by first | omega | (simp only [World.size_alloc]; omega)))
      clear hk hb
      obtain ⟨k1, ek1⟩ : ∃ q : Nat, q = 1 + DV.cntE (BindingX.rows l0) := ⟨_, rfl⟩
      have pk1 : 0 < k1 := by omega
      have qk1 : k1 ≤ 10000000 := by have := cntE_Binding l0; omega
      have tk1 : ¬ ((k1 : Nat) : Int) < 0 := by omega
      have Ek1 := Lib.hid ek1
      clear ek1
      go_wp2_with fail
      refine (markBindingS l0 Bx0 dx0 1 _ bsx0 _ Ox0.out Dx0.out (by decide) (by have := Ek1.out; omega)).mono ?_
      rw [← Ek1.out]
      rintro e w9 ⟨rfl, -, hb⟩
      have hk := Keep.butV (lo := (w3.heap.size + 1)) (hi := w4.heap.size) hb Gx0.out
      have h9 : Below w.heap.size w w9 := below_butV h8 hb h8.size (fun x hx => by have := Gx0.out x hx; omega)
      have s9 := hk.size
      have R0 := Lib.hid (rd_carry R0.out hk (by first | omega | (simp only [World.size_alloc]; omega)) (by first | omega | (simp only [World.size_alloc]; omega)))
      have CW := Lib.hid (rd_carry CW.out hk (by first | omega | (simp only [World.size_alloc]; omega)) (by first | omega | (simp only [World.size_alloc]; omega)))
      have XW := Lib.hid (wh_carry XW.out hk (by first | omega | (simp only [World.size_alloc]; omega)))
      have Cg := Lib.hid (rd_carry Cg.out hk (by first | omega | (simp only [World.size_alloc]; omega)) (by first | omega | (simp only [World.size_alloc]; omega)))
      have Og := Lib.hid (ows_carry Og.out Gg.out hk (by first | omega | (simp only [World.size_alloc]; omega)))
      have Xg := Lib.hid (wh_carry Xg.out hk (by first | omega | (simp only [World.size_alloc]; omega)))
      clear hk hb
      obtain ⟨xg0, xg1, xg2⟩ := cells3 Xg.out
      have xgl := Xg.out.lt
      obtain ⟨xw0, xw1, xw2⟩ := cells3 XW.out
      have xwl := XW.out.lt
      go_wp2_with fail
      refine (eqType y _ _ _ ⟨_, _, rfl, rd_und Cg.out (by first | omega | (simp only [World.size_alloc]; omega))⟩ ⟨_, _, rfl, rd_und CW.out (by first | omega | (simp only [World.size_alloc]; omega))⟩).mono ?_
      rintro e w10 ⟨rfl, hb⟩
      have hk := Keep.below hb
      have h10 : Below w.heap.size w w10 := h9.trans (hb.mono h9.size)
      have s10 := hk.size
      have R0 := Lib.hid (rd_carry R0.out hk (by first | omega | (simp only [World.size_alloc]; omega)) (by first | omega | (simp only [World.size_alloc]; omega)))
      have CW := Lib.hid (rd_carry CW.out hk (by first | omega | (simp only [World.size_alloc]; omega)) (by first | omega | (simp only [World.size_alloc]; omega)))
      have XW := Lib.hid (wh_carry XW.out hk (by first | omega | (simp only [World.size_alloc]; omega)))
      have Cg := Lib.hid (rd_carry Cg.out hk (by first | omega | (simp only [World.size_alloc]; omega)) (by first | omega | (simp only [World.size_alloc]; omega)))
      have Og := Lib.hid (ows_carry Og.out Gg.out hk (by first | omega | (simp only [World.size_alloc]; omega)))
      have Xg := Lib.hid (wh_carry Xg.out hk (by first | omega | (simp only [World.size_alloc]; omega)))
      clear hk hb xg0 xg1 xg2 xgl xw0 xw1 xw2 xwl
      obtain ⟨m, em⟩ : ∃ q : Nat, q = 1 + tcntL y.cells := ⟨_, rfl⟩
      have EM := Lib.hid em
      have tm : ¬ ((m : Nat) : Int) < 0 := by omega
      have tm2 : (((m : Nat) : Int) == ((m : Nat) : Int)) = true := by simp
      clear em
      obtain ⟨xg0, xg1, xg2⟩ := cells3 Xg.out
      have xgl := Xg.out.lt
      go_wp2_with fail
      refine (markVType y _ 1 _ bsg _ Og.out Dg.out (by decide) hcnt).mono ?_
      rw [← EM.out]
      rintro e w11 ⟨rfl, hmk, hb⟩
      have hk := Keep.butV (lo := w4.heap.size) (hi := w5.heap.size) hb Gg.out
      have h11 : Below w.heap.size w w11 := below_butV h10 hb h10.size (fun x hx => by have := Gg.out x hx; omega)
      have s11 := hk.size
      have R0 := Lib.hid (rd_carry R0.out hk (by first | omega | (simp only [World.size_alloc]; omega)) (by first | omega | (simp only [World.size_alloc]; omega)))
      have CW := Lib.hid (rd_carry CW.out hk (by first | omega | (simp only [World.size_alloc]; omega)) (by first | omega | (simp only [World.size_alloc]; omega)))
      have XW := Lib.hid (wh_carry XW.out hk (by first | omega | (simp only [World.size_alloc]; omega)))
      have Xg := Lib.hid (wh_carry Xg.out hk (by first | omega | (simp only [World.size_alloc]; omega)))
      clear hk hb xg0 xg1 xg2 xgl
      have hmr := marked_row (P := Bet (w4.heap.size) (w5.heap.size)) Gg.out hmk
      have M := Lib.hid hmr
      clear hmk hmr
      have HCN := Lib.hid (show 1 + DV.cntE (TypeX.rows y.args_) ≤ 4398046511104 by rw [← TypeX.tcnt_eq]; exact hcnt)
      have EM2 := Lib.hid (show m = 1 + DV.cntE (TypeX.rows y.args_) by rw [← TypeX.tcnt_eq]; exact EM.out)
      obtain ⟨xg0, xg1, xg2⟩ := cells3 Xg.out
      have xgl := Xg.out.lt
      go_wp2_with fail
      refine (heldVType y Bg dg 1 _ (rd_und M.out (by first | omega | (simp only [World.size_alloc]; omega))) (by decide) HCN.out).mono ?_
      rw [← EM2.out]
      rintro e w12 ⟨rfl, hb⟩
      have hk := Keep.below hb
      have h12 : Below w.heap.size w w12 := h11.trans (hb.mono h11.size)
      have s12 := hk.size
      have R0 := Lib.hid (rd_carry R0.out hk (by first | omega | (simp only [World.size_alloc]; omega)) (by first | omega | (simp only [World.size_alloc]; omega)))
      have CW := Lib.hid (rd_carry CW.out hk (by first | omega | (simp only [World.size_alloc]; omega)) (by first | omega | (simp only [World.size_alloc]; omega)))
      have XW := Lib.hid (wh_carry XW.out hk (by first | omega | (simp only [World.size_alloc]; omega)))
      have Xg := Lib.hid (wh_carry Xg.out hk (by first | omega | (simp only [World.size_alloc]; omega)))
      have M := Lib.hid (rd_carry M.out hk (by first | omega | (simp only [World.size_alloc]; omega)) (by first | omega | (simp only [World.size_alloc]; omega)))
      clear hk hb xg0 xg1 xg2 xgl
      go_wp2_with fail
      refine (toBindingS l0 A0 c0 _ hww0 (rd_und R0.out (by first | omega | (simp only [World.size_alloc]; omega)))).mono ?_
      intro e w13 hm
      obtain ⟨Bz0, dz0, bsz0, rfl, ho, hnd, hr, hrg, hb⟩ := madeR_get (BindingX.rows_length l0) hm
      clear hm
      have hk := Keep.below hb
      have h13 : Below w.heap.size w w13 := h12.trans (hb.mono h12.size)
      have s13 := hk.size
      have R0 := Lib.hid (rd_carry R0.out hk (by first | omega | (simp only [World.size_alloc]; omega)) (by first | omega | (simp only [World.size_alloc]; omega)))
      have CW := Lib.hid (rd_carry CW.out hk (by first | omega | (simp only [World.size_alloc]; omega)) (by first | omega | (simp only [World.size_alloc]; omega)))
      have XW := Lib.hid (wh_carry XW.out hk (by first | omega | (simp only [World.size_alloc]; omega)))
      have Xg := Lib.hid (wh_carry Xg.out hk (by first | omega | (simp only [World.size_alloc]; omega)))
      have M := Lib.hid (rd_carry M.out hk (by first | omega | (simp only [World.size_alloc]; omega)) (by first | omega | (simp only [World.size_alloc]; omega)))
      clear hk hb
      have Cz0 := Lib.hid hr
      clear hr hrg ho hnd
      go_wp2_with fail
      refine (HBB.out ▸ HY.out ▸ implLookup l0 Bz0 dz0 l1 _ (small_Binding hww0) (rd_und Cz0.out (by first | omega | (simp only [World.size_alloc]; omega)))).mono ?_
      intro e w14 hm
      obtain ⟨Bh, dh, bsh, rfl, ho, hnd, hr, hrg, hb⟩ := madeB_get hm
      clear hm
      have hk := Keep.below hb
      have h14 : Below w.heap.size w w14 := h13.trans (hb.mono h13.size)
      have s14 := hk.size
      have R0 := Lib.hid (rd_carry R0.out hk (by first | omega | (simp only [World.size_alloc]; omega)) (by first | omega | (simp only [World.size_alloc]; omega)))
      have CW := Lib.hid (rd_carry CW.out hk (by first | omega | (simp only [World.size_alloc]; omega)) (by first | omega | (simp only [World.size_alloc]; omega)))
      have XW := Lib.hid (wh_carry XW.out hk (by first | omega | (simp only [World.size_alloc]; omega)))
      have Xg := Lib.hid (wh_carry Xg.out hk (by first | omega | (simp only [World.size_alloc]; omega)))
      have M := Lib.hid (rd_carry M.out hk (by first | omega | (simp only [World.size_alloc]; omega)) (by first | omega | (simp only [World.size_alloc]; omega)))
      have Cz0 := Lib.hid (rd_carry Cz0.out hk (by first | omega | (simp only [World.size_alloc]; omega)) (by first | omega | (simp only [World.size_alloc]; omega)))
      clear hk hb
      have Ch := Lib.hid hr
      clear hr hrg ho hnd
      have hk := Keep.alloc w14 (.cells #[.int .i64 y.kind_, .string y.name_, .slice Bh y.args_.length dh] 26)
      have h14' := h14.alloc h14.size (.cells #[.int .i64 y.kind_, .string y.name_, .slice Bh y.args_.length dh] 26)
      have R0 := Lib.hid (rd_carry R0.out hk (by first | omega | (simp only [World.size_alloc]; omega)) (by first | omega | (simp only [World.size_alloc]; omega)))
      have CW := Lib.hid (rd_carry CW.out hk (by first | omega | (simp only [World.size_alloc]; omega)) (by first | omega | (simp only [World.size_alloc]; omega)))
      have XW := Lib.hid (wh_carry XW.out hk (by first | omega | (simp only [World.size_alloc]; omega)))
      have Xg := Lib.hid (wh_carry Xg.out hk (by first | omega | (simp only [World.size_alloc]; omega)))
      have M := Lib.hid (rd_carry M.out hk (by first | omega | (simp only [World.size_alloc]; omega)) (by first | omega | (simp only [World.size_alloc]; omega)))
      have Cz0 := Lib.hid (rd_carry Cz0.out hk (by first | omega | (simp only [World.size_alloc]; omega)) (by first | omega | (simp only [World.size_alloc]; omega)))
      have Ch := Lib.hid (rd_carry Ch.out hk (by first | omega | (simp only [World.size_alloc]; omega)) (by first | omega | (simp only [World.size_alloc]; omega)))
      have Xh := Lib.hid (Whole.new w14 26 #[.int .i64 y.kind_, .string y.name_, .slice Bh y.args_.length dh])
      clear hk
      obtain ⟨xh0, xh1, xh2⟩ := cells3 Xh.out
      have xhl := Xh.out.lt
      obtain ⟨xw0, xw1, xw2⟩ := cells3 XW.out
      have xwl := XW.out.lt
      go_wp2_with fail
      refine (eqType y _ _ _ ⟨_, _, rfl, rd_und Ch.out (by first | omega | (simp only [World.size_alloc]; omega))⟩ ⟨_, _, rfl, rd_und CW.out (by first | omega | (simp only [World.size_alloc]; omega))⟩).mono ?_
      rintro e w15 ⟨rfl, hb⟩
      have hk := Keep.below hb
      have h15 : Below w.heap.size w w15 := h14'.trans (hb.mono h14'.size)
      have s15 := hk.size
      simp only [World.size_alloc] at s15
      have R0 := Lib.hid (rd_carry R0.out hk (by first | omega | (simp only [World.size_alloc]; omega)) (by first | omega | (simp only [World.size_alloc]; omega)))
      have CW := Lib.hid (rd_carry CW.out hk (by first | omega | (simp only [World.size_alloc]; omega)) (by first | omega | (simp only [World.size_alloc]; omega)))
      have XW := Lib.hid (wh_carry XW.out hk (by first | omega | (simp only [World.size_alloc]; omega)))
      have Xg := Lib.hid (wh_carry Xg.out hk (by first | omega | (simp only [World.size_alloc]; omega)))
      have M := Lib.hid (rd_carry M.out hk (by first | omega | (simp only [World.size_alloc]; omega)) (by first | omega | (simp only [World.size_alloc]; omega)))
      have Ch := Lib.hid (rd_carry Ch.out hk (by first | omega | (simp only [World.size_alloc]; omega)) (by first | omega | (simp only [World.size_alloc]; omega)))
      have Xh := Lib.hid (wh_carry Xh.out hk (by first | omega | (simp only [World.size_alloc]; omega)))
      clear hk hb xh0 xh1 xh2 xhl xw0 xw1 xw2 xwl
      obtain ⟨xg0, xg1, xg2⟩ := cells3 Xg.out
      have xgl := Xg.out.lt
      go_wp2_with fail
      refine (heldVType y Bg dg 1 _ (rd_und M.out (by first | omega | (simp only [World.size_alloc]; omega))) (by decide) HCN.out).mono ?_
      rw [← EM2.out]
      rintro e w16 ⟨rfl, hb⟩
      have hk := Keep.below hb
      have h16 : Below w.heap.size w w16 := h15.trans (hb.mono h15.size)
      have s16 := hk.size
      have R0 := Lib.hid (rd_carry R0.out hk (by first | omega | (simp only [World.size_alloc]; omega)) (by first | omega | (simp only [World.size_alloc]; omega)))
      have CW := Lib.hid (rd_carry CW.out hk (by first | omega | (simp only [World.size_alloc]; omega)) (by first | omega | (simp only [World.size_alloc]; omega)))
      have XW := Lib.hid (wh_carry XW.out hk (by first | omega | (simp only [World.size_alloc]; omega)))
      have Xg := Lib.hid (wh_carry Xg.out hk (by first | omega | (simp only [World.size_alloc]; omega)))
      have M := Lib.hid (rd_carry M.out hk (by first | omega | (simp only [World.size_alloc]; omega)) (by first | omega | (simp only [World.size_alloc]; omega)))
      have Ch := Lib.hid (rd_carry Ch.out hk (by first | omega | (simp only [World.size_alloc]; omega)) (by first | omega | (simp only [World.size_alloc]; omega)))
      have Xh := Lib.hid (wh_carry Xh.out hk (by first | omega | (simp only [World.size_alloc]; omega)))
      clear hk hb xg0 xg1 xg2 xgl
      go_wp2
      go_ret
      exact ⟨rfl, h16⟩
end Go.Proofs.Ytkiofeiinecpiaa
