/- The law of Canonicalize. -/
import Derived.Test.YtngbilblddngcaaDoorZLawK
import Derived.Test.YtngbilblddngcaaDoorZCanK
namespace Go.Proofs.YtngbilblddngcaaDoor
open Go.RowKit Go.Lib

set_option maxRecDepth 100000 in
set_option maxHeartbeats 8000000 in
theorem lawCanon (x0 : TypeX) (A0 : Option Addr) (c0 : Nat) (w : World) (hpw : Pow w) (hok0 : DV.okL x0.cells) (hv0 : TypeRow w (Und w.heap.size) A0 c0 x0.args_) :
    Calls Tryd.prog 5 #[.agg #[.int .i64 x0.kind_, .string x0.name_, .slice A0 x0.args_.length c0]] w fun e w' => e = .returned (.bool true) ∧ Below w.heap.size w w' := by
  have HPW := Lib.hid hpw
  clear hpw
  have R0 := Lib.hid (rd_bet hv0)
  have OK0 := Lib.hid hok0
  clear hv0 hok0
  have h0 : Below w.heap.size w w := Below.refl _ _
  by_cases hw0 : DV.wtL x0.cells ≤ 1048576
  case neg =>
    have HF := Lib.hid (leftV_no (L := 1048576) (n := DV.wtL x0.cells) (by first | omega | (simp only [World.size_alloc]; omega) | (simp only [World.size_drew]; omega) | (simp only [World.size_drew, World.size_alloc]; omega)))
    have hk := Keep.alloc w (.cells #[.int .i64 x0.kind_, .string x0.name_, .slice A0 x0.args_.length c0] 42)
    have h0' := h0.alloc h0.size (.cells #[.int .i64 x0.kind_, .string x0.name_, .slice A0 x0.args_.length c0] 42)
    have R0 := Lib.hid (rd_carry R0.out hk (by first | omega | (simp only [World.size_alloc]; omega) | (simp only [World.size_drew]; omega) | (simp only [World.size_drew, World.size_alloc]; omega)) (by first | omega | (simp only [World.size_alloc]; omega) | (simp only [World.size_drew]; omega) | (simp only [World.size_drew, World.size_alloc]; omega)))
    have P0 := Lib.hid (Whole.new w 42 #[.int .i64 x0.kind_, .string x0.name_, .slice A0 x0.args_.length c0])
    clear hk
    go_enter Tryd.func5, Tryd.ntmps5
    obtain ⟨p00, p01, p02⟩ := cells3 P0.out
    have p0l := P0.out.lt
    go_wp2_with fail
    refine (szType x0 _ 1048576 _ OK0.out ⟨_, _, rfl, rd_und R0.out (by first | omega | (simp only [World.size_alloc]; omega) | (simp only [World.size_drew]; omega) | (simp only [World.size_drew, World.size_alloc]; omega))⟩ (by decide)).mono ?_
    rw [HF.out]
    rintro e w1 ⟨rfl, hb⟩
    have hk := Keep.below hb
    have h1 : Below w.heap.size w w1 := h0'.trans (hb.mono h0'.size)
    have s1 := hk.size
    simp only [World.size_alloc] at s1
    have R0 := Lib.hid (rd_carry R0.out hk (by first | omega | (simp only [World.size_alloc]; omega) | (simp only [World.size_drew]; omega) | (simp only [World.size_drew, World.size_alloc]; omega)) (by first | omega | (simp only [World.size_alloc]; omega) | (simp only [World.size_drew]; omega) | (simp only [World.size_drew, World.size_alloc]; omega)))
    have P0 := Lib.hid (wh_carry P0.out hk (by first | omega | (simp only [World.size_alloc]; omega) | (simp only [World.size_drew]; omega) | (simp only [World.size_drew, World.size_alloc]; omega)))
    clear hk hb p00 p01 p02 p0l
    go_wp2
    go_ret
    exact ⟨rfl, h1⟩
  case pos =>
    obtain ⟨L1, hL1, hl1⟩ : ∃ L : Nat, leftV 1048576 (DV.wtL x0.cells) = (L : Nat) ∧ L ≤ 1048576 := ⟨1048576 - DV.wtL x0.cells, by rw [leftV_yes hw0]; omega, by omega⟩
    have HL1 := Lib.hid hL1
    have hnn1 : ¬ (L1 : Int) < 0 := by omega
    have hww0 : DV.wtL x0.cells ≤ 1048576 := by omega
    clear hL1
    obtain ⟨y, hy⟩ : ∃ y, y = x0.canon := ⟨_, rfl⟩
    have HY := Lib.hid hy
    have hcnt : 1 + tcntL y.cells ≤ 4398046511104 := by rw [hy]; exact cnt_canon hww0
    clear hy
    have hk := Keep.alloc w (.cells #[.int .i64 x0.kind_, .string x0.name_, .slice A0 x0.args_.length c0] 42)
    have h0' := h0.alloc h0.size (.cells #[.int .i64 x0.kind_, .string x0.name_, .slice A0 x0.args_.length c0] 42)
    have R0 := Lib.hid (rd_carry R0.out hk (by first | omega | (simp only [World.size_alloc]; omega) | (simp only [World.size_drew]; omega) | (simp only [World.size_drew, World.size_alloc]; omega)) (by first | omega | (simp only [World.size_alloc]; omega) | (simp only [World.size_drew]; omega) | (simp only [World.size_drew, World.size_alloc]; omega)))
    have P0 := Lib.hid (Whole.new w 42 #[.int .i64 x0.kind_, .string x0.name_, .slice A0 x0.args_.length c0])
    clear hk
    go_enter Tryd.func5, Tryd.ntmps5
    obtain ⟨p00, p01, p02⟩ := cells3 P0.out
    have p0l := P0.out.lt
    go_wp2_with fail
    refine (szType x0 _ 1048576 _ OK0.out ⟨_, _, rfl, rd_und R0.out (by first | omega | (simp only [World.size_alloc]; omega) | (simp only [World.size_drew]; omega) | (simp only [World.size_drew, World.size_alloc]; omega))⟩ (by decide)).mono ?_
    rw [HL1.out]
    rintro e w1 ⟨rfl, hb⟩
    have hk := Keep.below hb
    have h1 : Below w.heap.size w w1 := h0'.trans (hb.mono h0'.size)
    have s1 := hk.size
    simp only [World.size_alloc] at s1
    have R0 := Lib.hid (rd_carry R0.out hk (by first | omega | (simp only [World.size_alloc]; omega) | (simp only [World.size_drew]; omega) | (simp only [World.size_drew, World.size_alloc]; omega)) (by first | omega | (simp only [World.size_alloc]; omega) | (simp only [World.size_drew]; omega) | (simp only [World.size_drew, World.size_alloc]; omega)))
    have P0 := Lib.hid (wh_carry P0.out hk (by first | omega | (simp only [World.size_alloc]; omega) | (simp only [World.size_drew]; omega) | (simp only [World.size_drew, World.size_alloc]; omega)))
    clear hk hb p00 p01 p02 p0l
    obtain ⟨p00, p01, p02⟩ := cells3 P0.out
    have p0l := P0.out.lt
    go_wp2_with fail
    refine (toType x0 _ _ hww0 ⟨_, _, rfl, rd_und R0.out (by first | omega | (simp only [World.size_alloc]; omega) | (simp only [World.size_drew]; omega) | (simp only [World.size_drew, World.size_alloc]; omega))⟩).mono ?_
    intro e w2 hm
    obtain ⟨Ba0, da0, bsa0, rfl, ho, hnd, hr, hrg, hb⟩ := madeV_get hm
    clear hm
    have hk := Keep.below hb
    have h2 : Below w.heap.size w w2 := h1.trans (hb.mono h1.size)
    have s2 := hk.size
    have R0 := Lib.hid (rd_carry R0.out hk (by first | omega | (simp only [World.size_alloc]; omega) | (simp only [World.size_drew]; omega) | (simp only [World.size_drew, World.size_alloc]; omega)) (by first | omega | (simp only [World.size_alloc]; omega) | (simp only [World.size_drew]; omega) | (simp only [World.size_drew, World.size_alloc]; omega)))
    have P0 := Lib.hid (wh_carry P0.out hk (by first | omega | (simp only [World.size_alloc]; omega) | (simp only [World.size_drew]; omega) | (simp only [World.size_drew, World.size_alloc]; omega)))
    clear hk hb p00 p01 p02 p0l
    have Ca0 := Lib.hid hr
    clear hr hrg ho hnd
    go_wp2_with fail
    refine (HY.out ▸ specCanon x0 Ba0 da0 _ (by have := TypeX.size_wt x0; omega) (rd_und Ca0.out (by first | omega | (simp only [World.size_alloc]; omega) | (simp only [World.size_drew]; omega) | (simp only [World.size_drew, World.size_alloc]; omega)))).mono ?_
    intro e w3 hm
    obtain ⟨BW, dW, bsW, rfl, ho, hnd, hr, hrg, hb⟩ := madeV_get hm
    clear hm
    have hk := Keep.below hb
    have h3 : Below w.heap.size w w3 := h2.trans (hb.mono h2.size)
    have s3 := hk.size
    have R0 := Lib.hid (rd_carry R0.out hk (by first | omega | (simp only [World.size_alloc]; omega) | (simp only [World.size_drew]; omega) | (simp only [World.size_drew, World.size_alloc]; omega)) (by first | omega | (simp only [World.size_alloc]; omega) | (simp only [World.size_drew]; omega) | (simp only [World.size_drew, World.size_alloc]; omega)))
    have P0 := Lib.hid (wh_carry P0.out hk (by first | omega | (simp only [World.size_alloc]; omega) | (simp only [World.size_drew]; omega) | (simp only [World.size_drew, World.size_alloc]; omega)))
    have Ca0 := Lib.hid (rd_carry Ca0.out hk (by first | omega | (simp only [World.size_alloc]; omega) | (simp only [World.size_drew]; omega) | (simp only [World.size_drew, World.size_alloc]; omega)) (by first | omega | (simp only [World.size_alloc]; omega) | (simp only [World.size_drew]; omega) | (simp only [World.size_drew, World.size_alloc]; omega)))
    clear hk hb
    have CW := Lib.hid hr
    clear hr hrg ho hnd
    have hk := Keep.alloc w3 (.cells #[.int .i64 y.kind_, .string y.name_, .slice BW y.args_.length dW] 26)
    have h3' := h3.alloc h3.size (.cells #[.int .i64 y.kind_, .string y.name_, .slice BW y.args_.length dW] 26)
    have R0 := Lib.hid (rd_carry R0.out hk (by first | omega | (simp only [World.size_alloc]; omega) | (simp only [World.size_drew]; omega) | (simp only [World.size_drew, World.size_alloc]; omega)) (by first | omega | (simp only [World.size_alloc]; omega) | (simp only [World.size_drew]; omega) | (simp only [World.size_drew, World.size_alloc]; omega)))
    have P0 := Lib.hid (wh_carry P0.out hk (by first | omega | (simp only [World.size_alloc]; omega) | (simp only [World.size_drew]; omega) | (simp only [World.size_drew, World.size_alloc]; omega)))
    have Ca0 := Lib.hid (rd_carry Ca0.out hk (by first | omega | (simp only [World.size_alloc]; omega) | (simp only [World.size_drew]; omega) | (simp only [World.size_drew, World.size_alloc]; omega)) (by first | omega | (simp only [World.size_alloc]; omega) | (simp only [World.size_drew]; omega) | (simp only [World.size_drew, World.size_alloc]; omega)))
    have CW := Lib.hid (rd_carry CW.out hk (by first | omega | (simp only [World.size_alloc]; omega) | (simp only [World.size_drew]; omega) | (simp only [World.size_drew, World.size_alloc]; omega)) (by first | omega | (simp only [World.size_alloc]; omega) | (simp only [World.size_drew]; omega) | (simp only [World.size_drew, World.size_alloc]; omega)))
    have XW := Lib.hid (Whole.new w3 26 #[.int .i64 y.kind_, .string y.name_, .slice BW y.args_.length dW])
    clear hk
    obtain ⟨p00, p01, p02⟩ := cells3 P0.out
    have p0l := P0.out.lt
    go_wp2_with fail
    refine (toType x0 _ _ hww0 ⟨_, _, rfl, rd_und R0.out (by first | omega | (simp only [World.size_alloc]; omega) | (simp only [World.size_drew]; omega) | (simp only [World.size_drew, World.size_alloc]; omega))⟩).mono ?_
    intro e w4 hm
    obtain ⟨Bx0, dx0, bsx0, rfl, ho, hnd, hr, hrg, hb⟩ := madeV_get hm
    simp only [World.size_alloc] at ho hr hrg
    clear hm
    have hk := Keep.below hb
    have h4 : Below w.heap.size w w4 := h3'.trans (hb.mono h3'.size)
    have s4 := hk.size
    simp only [World.size_alloc] at s4
    have R0 := Lib.hid (rd_carry R0.out hk (by first | omega | (simp only [World.size_alloc]; omega) | (simp only [World.size_drew]; omega) | (simp only [World.size_drew, World.size_alloc]; omega)) (by first | omega | (simp only [World.size_alloc]; omega) | (simp only [World.size_drew]; omega) | (simp only [World.size_drew, World.size_alloc]; omega)))
    have P0 := Lib.hid (wh_carry P0.out hk (by first | omega | (simp only [World.size_alloc]; omega) | (simp only [World.size_drew]; omega) | (simp only [World.size_drew, World.size_alloc]; omega)))
    have CW := Lib.hid (rd_carry CW.out hk (by first | omega | (simp only [World.size_alloc]; omega) | (simp only [World.size_drew]; omega) | (simp only [World.size_drew, World.size_alloc]; omega)) (by first | omega | (simp only [World.size_alloc]; omega) | (simp only [World.size_drew]; omega) | (simp only [World.size_drew, World.size_alloc]; omega)))
    have XW := Lib.hid (wh_carry XW.out hk (by first | omega | (simp only [World.size_alloc]; omega) | (simp only [World.size_drew]; omega) | (simp only [World.size_drew, World.size_alloc]; omega)))
    clear hk hb p00 p01 p02 p0l
    have Cx0 := Lib.hid hr
    have Gx0 := Lib.hid hrg
    have Ox0 := Lib.hid ho
    have Dx0 := Lib.hid hnd
    clear hr hrg ho hnd
    have hk := Keep.alloc w4 (.cells #[.int .i64 x0.kind_, .string x0.name_, .slice Bx0 x0.args_.length dx0] 26)
    have h4' := h4.alloc h4.size (.cells #[.int .i64 x0.kind_, .string x0.name_, .slice Bx0 x0.args_.length dx0] 26)
    have R0 := Lib.hid (rd_carry R0.out hk (by first | omega | (simp only [World.size_alloc]; omega) | (simp only [World.size_drew]; omega) | (simp only [World.size_drew, World.size_alloc]; omega)) (by first | omega | (simp only [World.size_alloc]; omega) | (simp only [World.size_drew]; omega) | (simp only [World.size_drew, World.size_alloc]; omega)))
    have P0 := Lib.hid (wh_carry P0.out hk (by first | omega | (simp only [World.size_alloc]; omega) | (simp only [World.size_drew]; omega) | (simp only [World.size_drew, World.size_alloc]; omega)))
    have CW := Lib.hid (rd_carry CW.out hk (by first | omega | (simp only [World.size_alloc]; omega) | (simp only [World.size_drew]; omega) | (simp only [World.size_drew, World.size_alloc]; omega)) (by first | omega | (simp only [World.size_alloc]; omega) | (simp only [World.size_drew]; omega) | (simp only [World.size_drew, World.size_alloc]; omega)))
    have XW := Lib.hid (wh_carry XW.out hk (by first | omega | (simp only [World.size_alloc]; omega) | (simp only [World.size_drew]; omega) | (simp only [World.size_drew, World.size_alloc]; omega)))
    have Cx0 := Lib.hid (rd_carry Cx0.out hk (by first | omega | (simp only [World.size_alloc]; omega) | (simp only [World.size_drew]; omega) | (simp only [World.size_drew, World.size_alloc]; omega)) (by first | omega | (simp only [World.size_alloc]; omega) | (simp only [World.size_drew]; omega) | (simp only [World.size_drew, World.size_alloc]; omega)))
    have Ox0 := Lib.hid (ows_carry Ox0.out Gx0.out hk (by first | omega | (simp only [World.size_alloc]; omega) | (simp only [World.size_drew]; omega) | (simp only [World.size_drew, World.size_alloc]; omega)))
    have Xx0 := Lib.hid (Whole.new w4 26 #[.int .i64 x0.kind_, .string x0.name_, .slice Bx0 x0.args_.length dx0])
    clear hk
    obtain ⟨xx00, xx01, xx02⟩ := cells3 Xx0.out
    have xx0l := Xx0.out.lt
    go_wp2_with fail
    refine (HY.out ▸ implCanon x0 Bx0 dx0 _ (HPW.out.below h4') (by have := TypeX.size_wt x0; omega) (rd_und Cx0.out (by first | omega | (simp only [World.size_alloc]; omega) | (simp only [World.size_drew]; omega) | (simp only [World.size_drew, World.size_alloc]; omega)))).mono ?_
    intro e w5 hm
    obtain ⟨Bg, dg, bsg, rfl, ho, hnd, hr, hrg, hb⟩ := madeV_get hm
    simp only [World.size_alloc] at ho hr hrg
    clear hm
    have hk := Keep.below hb
    have h5 : Below w.heap.size w w5 := h4'.trans (hb.mono h4'.size)
    have s5 := hk.size
    simp only [World.size_alloc] at s5
    have R0 := Lib.hid (rd_carry R0.out hk (by first | omega | (simp only [World.size_alloc]; omega) | (simp only [World.size_drew]; omega) | (simp only [World.size_drew, World.size_alloc]; omega)) (by first | omega | (simp only [World.size_alloc]; omega) | (simp only [World.size_drew]; omega) | (simp only [World.size_drew, World.size_alloc]; omega)))
    have P0 := Lib.hid (wh_carry P0.out hk (by first | omega | (simp only [World.size_alloc]; omega) | (simp only [World.size_drew]; omega) | (simp only [World.size_drew, World.size_alloc]; omega)))
    have CW := Lib.hid (rd_carry CW.out hk (by first | omega | (simp only [World.size_alloc]; omega) | (simp only [World.size_drew]; omega) | (simp only [World.size_drew, World.size_alloc]; omega)) (by first | omega | (simp only [World.size_alloc]; omega) | (simp only [World.size_drew]; omega) | (simp only [World.size_drew, World.size_alloc]; omega)))
    have XW := Lib.hid (wh_carry XW.out hk (by first | omega | (simp only [World.size_alloc]; omega) | (simp only [World.size_drew]; omega) | (simp only [World.size_drew, World.size_alloc]; omega)))
    have Cx0 := Lib.hid (rd_carry Cx0.out hk (by first | omega | (simp only [World.size_alloc]; omega) | (simp only [World.size_drew]; omega) | (simp only [World.size_drew, World.size_alloc]; omega)) (by first | omega | (simp only [World.size_alloc]; omega) | (simp only [World.size_drew]; omega) | (simp only [World.size_drew, World.size_alloc]; omega)))
    have Ox0 := Lib.hid (ows_carry Ox0.out Gx0.out hk (by first | omega | (simp only [World.size_alloc]; omega) | (simp only [World.size_drew]; omega) | (simp only [World.size_drew, World.size_alloc]; omega)))
    have Xx0 := Lib.hid (wh_carry Xx0.out hk (by first | omega | (simp only [World.size_alloc]; omega) | (simp only [World.size_drew]; omega) | (simp only [World.size_drew, World.size_alloc]; omega)))
    clear hk hb xx00 xx01 xx02 xx0l
    have Cg := Lib.hid hr
    have Gg := Lib.hid hrg
    have Og := Lib.hid ho
    have Dg := Lib.hid hnd
    clear hr hrg ho hnd
    have hk := Keep.alloc w5 (.cells #[.int .i64 y.kind_, .string y.name_, .slice Bg y.args_.length dg] 26)
    have h5' := h5.alloc h5.size (.cells #[.int .i64 y.kind_, .string y.name_, .slice Bg y.args_.length dg] 26)
    have R0 := Lib.hid (rd_carry R0.out hk (by first | omega | (simp only [World.size_alloc]; omega) | (simp only [World.size_drew]; omega) | (simp only [World.size_drew, World.size_alloc]; omega)) (by first | omega | (simp only [World.size_alloc]; omega) | (simp only [World.size_drew]; omega) | (simp only [World.size_drew, World.size_alloc]; omega)))
    have P0 := Lib.hid (wh_carry P0.out hk (by first | omega | (simp only [World.size_alloc]; omega) | (simp only [World.size_drew]; omega) | (simp only [World.size_drew, World.size_alloc]; omega)))
    have CW := Lib.hid (rd_carry CW.out hk (by first | omega | (simp only [World.size_alloc]; omega) | (simp only [World.size_drew]; omega) | (simp only [World.size_drew, World.size_alloc]; omega)) (by first | omega | (simp only [World.size_alloc]; omega) | (simp only [World.size_drew]; omega) | (simp only [World.size_drew, World.size_alloc]; omega)))
    have XW := Lib.hid (wh_carry XW.out hk (by first | omega | (simp only [World.size_alloc]; omega) | (simp only [World.size_drew]; omega) | (simp only [World.size_drew, World.size_alloc]; omega)))
    have Cx0 := Lib.hid (rd_carry Cx0.out hk (by first | omega | (simp only [World.size_alloc]; omega) | (simp only [World.size_drew]; omega) | (simp only [World.size_drew, World.size_alloc]; omega)) (by first | omega | (simp only [World.size_alloc]; omega) | (simp only [World.size_drew]; omega) | (simp only [World.size_drew, World.size_alloc]; omega)))
    have Ox0 := Lib.hid (ows_carry Ox0.out Gx0.out hk (by first | omega | (simp only [World.size_alloc]; omega) | (simp only [World.size_drew]; omega) | (simp only [World.size_drew, World.size_alloc]; omega)))
    have Xx0 := Lib.hid (wh_carry Xx0.out hk (by first | omega | (simp only [World.size_alloc]; omega) | (simp only [World.size_drew]; omega) | (simp only [World.size_drew, World.size_alloc]; omega)))
    have Cg := Lib.hid (rd_carry Cg.out hk (by first | omega | (simp only [World.size_alloc]; omega) | (simp only [World.size_drew]; omega) | (simp only [World.size_drew, World.size_alloc]; omega)) (by first | omega | (simp only [World.size_alloc]; omega) | (simp only [World.size_drew]; omega) | (simp only [World.size_drew, World.size_alloc]; omega)))
    have Og := Lib.hid (ows_carry Og.out Gg.out hk (by first | omega | (simp only [World.size_alloc]; omega) | (simp only [World.size_drew]; omega) | (simp only [World.size_drew, World.size_alloc]; omega)))
    have Xg := Lib.hid (Whole.new w5 26 #[.int .i64 y.kind_, .string y.name_, .slice Bg y.args_.length dg])
    clear hk
    obtain ⟨xg0, xg1, xg2⟩ := cells3 Xg.out
    have xgl := Xg.out.lt
    obtain ⟨xw0, xw1, xw2⟩ := cells3 XW.out
    have xwl := XW.out.lt
    go_wp2_with fail
    refine (eqType y _ _ _ ⟨_, _, rfl, rd_und Cg.out (by first | omega | (simp only [World.size_alloc]; omega) | (simp only [World.size_drew]; omega) | (simp only [World.size_drew, World.size_alloc]; omega))⟩ ⟨_, _, rfl, rd_und CW.out (by first | omega | (simp only [World.size_alloc]; omega) | (simp only [World.size_drew]; omega) | (simp only [World.size_drew, World.size_alloc]; omega))⟩).mono ?_
    rintro e w6 ⟨rfl, hb⟩
    have hk := Keep.below hb
    have h6 : Below w.heap.size w w6 := h5'.trans (hb.mono h5'.size)
    have s6 := hk.size
    simp only [World.size_alloc] at s6
    have R0 := Lib.hid (rd_carry R0.out hk (by first | omega | (simp only [World.size_alloc]; omega) | (simp only [World.size_drew]; omega) | (simp only [World.size_drew, World.size_alloc]; omega)) (by first | omega | (simp only [World.size_alloc]; omega) | (simp only [World.size_drew]; omega) | (simp only [World.size_drew, World.size_alloc]; omega)))
    have P0 := Lib.hid (wh_carry P0.out hk (by first | omega | (simp only [World.size_alloc]; omega) | (simp only [World.size_drew]; omega) | (simp only [World.size_drew, World.size_alloc]; omega)))
    have CW := Lib.hid (rd_carry CW.out hk (by first | omega | (simp only [World.size_alloc]; omega) | (simp only [World.size_drew]; omega) | (simp only [World.size_drew, World.size_alloc]; omega)) (by first | omega | (simp only [World.size_alloc]; omega) | (simp only [World.size_drew]; omega) | (simp only [World.size_drew, World.size_alloc]; omega)))
    have XW := Lib.hid (wh_carry XW.out hk (by first | omega | (simp only [World.size_alloc]; omega) | (simp only [World.size_drew]; omega) | (simp only [World.size_drew, World.size_alloc]; omega)))
    have Cx0 := Lib.hid (rd_carry Cx0.out hk (by first | omega | (simp only [World.size_alloc]; omega) | (simp only [World.size_drew]; omega) | (simp only [World.size_drew, World.size_alloc]; omega)) (by first | omega | (simp only [World.size_alloc]; omega) | (simp only [World.size_drew]; omega) | (simp only [World.size_drew, World.size_alloc]; omega)))
    have Ox0 := Lib.hid (ows_carry Ox0.out Gx0.out hk (by first | omega | (simp only [World.size_alloc]; omega) | (simp only [World.size_drew]; omega) | (simp only [World.size_drew, World.size_alloc]; omega)))
    have Xx0 := Lib.hid (wh_carry Xx0.out hk (by first | omega | (simp only [World.size_alloc]; omega) | (simp only [World.size_drew]; omega) | (simp only [World.size_drew, World.size_alloc]; omega)))
    have Cg := Lib.hid (rd_carry Cg.out hk (by first | omega | (simp only [World.size_alloc]; omega) | (simp only [World.size_drew]; omega) | (simp only [World.size_drew, World.size_alloc]; omega)) (by first | omega | (simp only [World.size_alloc]; omega) | (simp only [World.size_drew]; omega) | (simp only [World.size_drew, World.size_alloc]; omega)))
    have Og := Lib.hid (ows_carry Og.out Gg.out hk (by first | omega | (simp only [World.size_alloc]; omega) | (simp only [World.size_drew]; omega) | (simp only [World.size_drew, World.size_alloc]; omega)))
    have Xg := Lib.hid (wh_carry Xg.out hk (by first | omega | (simp only [World.size_alloc]; omega) | (simp only [World.size_drew]; omega) | (simp only [World.size_drew, World.size_alloc]; omega)))
    clear hk hb xg0 xg1 xg2 xgl xw0 xw1 xw2 xwl
    go_upto_region 14 with (fail)
    obtain ⟨p00, p01, p02⟩ := cells3 P0.out
    have p0l := P0.out.lt
    obtain ⟨xx00, xx01, xx02⟩ := cells3 Xx0.out
    have xx0l := Xx0.out.lt
    have hk := Keep.below ((Below.refl _ w6).drew)
    have h6d := h6.drew
    have R0 := Lib.hid (rd_carry R0.out hk (by first | omega | (simp only [World.size_alloc]; omega) | (simp only [World.size_drew]; omega) | (simp only [World.size_drew, World.size_alloc]; omega)) (by first | omega | (simp only [World.size_alloc]; omega) | (simp only [World.size_drew]; omega) | (simp only [World.size_drew, World.size_alloc]; omega)))
    have P0 := Lib.hid (wh_carry P0.out hk (by first | omega | (simp only [World.size_alloc]; omega) | (simp only [World.size_drew]; omega) | (simp only [World.size_drew, World.size_alloc]; omega)))
    have CW := Lib.hid (rd_carry CW.out hk (by first | omega | (simp only [World.size_alloc]; omega) | (simp only [World.size_drew]; omega) | (simp only [World.size_drew, World.size_alloc]; omega)) (by first | omega | (simp only [World.size_alloc]; omega) | (simp only [World.size_drew]; omega) | (simp only [World.size_drew, World.size_alloc]; omega)))
    have XW := Lib.hid (wh_carry XW.out hk (by first | omega | (simp only [World.size_alloc]; omega) | (simp only [World.size_drew]; omega) | (simp only [World.size_drew, World.size_alloc]; omega)))
    have Cx0 := Lib.hid (rd_carry Cx0.out hk (by first | omega | (simp only [World.size_alloc]; omega) | (simp only [World.size_drew]; omega) | (simp only [World.size_drew, World.size_alloc]; omega)) (by first | omega | (simp only [World.size_alloc]; omega) | (simp only [World.size_drew]; omega) | (simp only [World.size_drew, World.size_alloc]; omega)))
    have Ox0 := Lib.hid (ows_carry Ox0.out Gx0.out hk (by first | omega | (simp only [World.size_alloc]; omega) | (simp only [World.size_drew]; omega) | (simp only [World.size_drew, World.size_alloc]; omega)))
    have Xx0 := Lib.hid (wh_carry Xx0.out hk (by first | omega | (simp only [World.size_alloc]; omega) | (simp only [World.size_drew]; omega) | (simp only [World.size_drew, World.size_alloc]; omega)))
    have Cg := Lib.hid (rd_carry Cg.out hk (by first | omega | (simp only [World.size_alloc]; omega) | (simp only [World.size_drew]; omega) | (simp only [World.size_drew, World.size_alloc]; omega)) (by first | omega | (simp only [World.size_alloc]; omega) | (simp only [World.size_drew]; omega) | (simp only [World.size_drew, World.size_alloc]; omega)))
    have Og := Lib.hid (ows_carry Og.out Gg.out hk (by first | omega | (simp only [World.size_alloc]; omega) | (simp only [World.size_drew]; omega) | (simp only [World.size_drew, World.size_alloc]; omega)))
    have Xg := Lib.hid (wh_carry Xg.out hk (by first | omega | (simp only [World.size_alloc]; omega) | (simp only [World.size_drew]; omega) | (simp only [World.size_drew, World.size_alloc]; omega)))
    clear hk
    go_region_held3 (fun w' => w'.cell? ⟨w.heap.size, 0, none⟩ = some (.int .i64 x0.kind_) ∧ w'.cell? ⟨w.heap.size, 1, none⟩ = some (.string x0.name_) ∧ w'.cell? ⟨w.heap.size, 2, none⟩ = some (.slice A0 x0.args_.length c0) ∧ w'.cell? ⟨w4.heap.size, 0, none⟩ = some (.int .i64 x0.kind_) ∧ w'.cell? ⟨w4.heap.size, 1, none⟩ = some (.string x0.name_) ∧ w'.cell? ⟨w4.heap.size, 2, none⟩ = some (.slice Bx0 x0.args_.length dx0))
      (first
        | go_keep
        | exact (⟨(cells3 P0.out).1, (cells3 P0.out).2.1, (cells3 P0.out).2.2, cells3 Xx0.out⟩))
      (first
        | (go_at_call 27
           refine (toType x0 _ _ hww0 ⟨_, _, rfl, rd_und R0.out (by first | omega | (simp only [World.size_alloc]; omega) | (simp only [World.size_drew]; omega) | (simp only [World.size_drew, World.size_alloc]; omega))⟩).mono ?_
           intro e w7 hm
           obtain ⟨Bu0, du0, bsu0, rfl, ho, hnd, hr, hrg, hb⟩ := madeV_get hm
           simp only [World.size_drew] at ho hr hrg
           clear hm
           have hk := Keep.below hb
           have h7 : Below w.heap.size w w7 := h6d.trans (hb.mono h6d.size)
           have s7 := hk.size
           simp only [World.size_drew] at s7
           have R0 := Lib.hid (rd_carry R0.out hk (by first | omega | (simp only [World.size_alloc]; omega) | (simp only [World.size_drew]; omega) | (simp only [World.size_drew, World.size_alloc]; omega)) (by first | omega | (simp only [World.size_alloc]; omega) | (simp only [World.size_drew]; omega) | (simp only [World.size_drew, World.size_alloc]; omega)))
           have P0 := Lib.hid (wh_carry P0.out hk (by first | omega | (simp only [World.size_alloc]; omega) | (simp only [World.size_drew]; omega) | (simp only [World.size_drew, World.size_alloc]; omega)))
           have CW := Lib.hid (rd_carry CW.out hk (by first | omega | (simp only [World.size_alloc]; omega) | (simp only [World.size_drew]; omega) | (simp only [World.size_drew, World.size_alloc]; omega)) (by first | omega | (simp only [World.size_alloc]; omega) | (simp only [World.size_drew]; omega) | (simp only [World.size_drew, World.size_alloc]; omega)))
           have XW := Lib.hid (wh_carry XW.out hk (by first | omega | (simp only [World.size_alloc]; omega) | (simp only [World.size_drew]; omega) | (simp only [World.size_drew, World.size_alloc]; omega)))
           have Cx0 := Lib.hid (rd_carry Cx0.out hk (by first | omega | (simp only [World.size_alloc]; omega) | (simp only [World.size_drew]; omega) | (simp only [World.size_drew, World.size_alloc]; omega)) (by first | omega | (simp only [World.size_alloc]; omega) | (simp only [World.size_drew]; omega) | (simp only [World.size_drew, World.size_alloc]; omega)))
           have Ox0 := Lib.hid (ows_carry Ox0.out Gx0.out hk (by first | omega | (simp only [World.size_alloc]; omega) | (simp only [World.size_drew]; omega) | (simp only [World.size_drew, World.size_alloc]; omega)))
           have Xx0 := Lib.hid (wh_carry Xx0.out hk (by first | omega | (simp only [World.size_alloc]; omega) | (simp only [World.size_drew]; omega) | (simp only [World.size_drew, World.size_alloc]; omega)))
           have Cg := Lib.hid (rd_carry Cg.out hk (by first | omega | (simp only [World.size_alloc]; omega) | (simp only [World.size_drew]; omega) | (simp only [World.size_drew, World.size_alloc]; omega)) (by first | omega | (simp only [World.size_alloc]; omega) | (simp only [World.size_drew]; omega) | (simp only [World.size_drew, World.size_alloc]; omega)))
           have Og := Lib.hid (ows_carry Og.out Gg.out hk (by first | omega | (simp only [World.size_alloc]; omega) | (simp only [World.size_drew]; omega) | (simp only [World.size_drew, World.size_alloc]; omega)))
           have Xg := Lib.hid (wh_carry Xg.out hk (by first | omega | (simp only [World.size_alloc]; omega) | (simp only [World.size_drew]; omega) | (simp only [World.size_drew, World.size_alloc]; omega)))
           clear hk hb
           have Cu0 := Lib.hid hr
           clear hr hrg ho hnd)
        | (go_at_call 28
           refine (eqType x0 _ _ _ ⟨_, _, rfl, rd_und Cx0.out (by first | omega | (simp only [World.size_alloc]; omega) | (simp only [World.size_drew]; omega) | (simp only [World.size_drew, World.size_alloc]; omega))⟩ ⟨_, _, rfl, rd_und Cu0.out (by first | omega | (simp only [World.size_alloc]; omega) | (simp only [World.size_drew]; omega) | (simp only [World.size_drew, World.size_alloc]; omega))⟩).mono ?_
           rintro e w8 ⟨rfl, hb⟩
           have hk := Keep.below hb
           have h8 : Below w.heap.size w w8 := h7.trans (hb.mono h7.size)
           have s8 := hk.size
           have R0 := Lib.hid (rd_carry R0.out hk (by first | omega | (simp only [World.size_alloc]; omega) | (simp only [World.size_drew]; omega) | (simp only [World.size_drew, World.size_alloc]; omega)) (by first | omega | (simp only [World.size_alloc]; omega) | (simp only [World.size_drew]; omega) | (simp only [World.size_drew, World.size_alloc]; omega)))
           have P0 := Lib.hid (wh_carry P0.out hk (by first | omega | (simp only [World.size_alloc]; omega) | (simp only [World.size_drew]; omega) | (simp only [World.size_drew, World.size_alloc]; omega)))
           have CW := Lib.hid (rd_carry CW.out hk (by first | omega | (simp only [World.size_alloc]; omega) | (simp only [World.size_drew]; omega) | (simp only [World.size_drew, World.size_alloc]; omega)) (by first | omega | (simp only [World.size_alloc]; omega) | (simp only [World.size_drew]; omega) | (simp only [World.size_drew, World.size_alloc]; omega)))
           have XW := Lib.hid (wh_carry XW.out hk (by first | omega | (simp only [World.size_alloc]; omega) | (simp only [World.size_drew]; omega) | (simp only [World.size_drew, World.size_alloc]; omega)))
           have Cx0 := Lib.hid (rd_carry Cx0.out hk (by first | omega | (simp only [World.size_alloc]; omega) | (simp only [World.size_drew]; omega) | (simp only [World.size_drew, World.size_alloc]; omega)) (by first | omega | (simp only [World.size_alloc]; omega) | (simp only [World.size_drew]; omega) | (simp only [World.size_drew, World.size_alloc]; omega)))
           have Ox0 := Lib.hid (ows_carry Ox0.out Gx0.out hk (by first | omega | (simp only [World.size_alloc]; omega) | (simp only [World.size_drew]; omega) | (simp only [World.size_drew, World.size_alloc]; omega)))
           have Xx0 := Lib.hid (wh_carry Xx0.out hk (by first | omega | (simp only [World.size_alloc]; omega) | (simp only [World.size_drew]; omega) | (simp only [World.size_drew, World.size_alloc]; omega)))
           have Cg := Lib.hid (rd_carry Cg.out hk (by first | omega | (simp only [World.size_alloc]; omega) | (simp only [World.size_drew]; omega) | (simp only [World.size_drew, World.size_alloc]; omega)) (by first | omega | (simp only [World.size_alloc]; omega) | (simp only [World.size_drew]; omega) | (simp only [World.size_drew, World.size_alloc]; omega)))
           have Og := Lib.hid (ows_carry Og.out Gg.out hk (by first | omega | (simp only [World.size_alloc]; omega) | (simp only [World.size_drew]; omega) | (simp only [World.size_drew, World.size_alloc]; omega)))
           have Xg := Lib.hid (wh_carry Xg.out hk (by first | omega | (simp only [World.size_alloc]; omega) | (simp only [World.size_drew]; omega) | (simp only [World.size_drew, World.size_alloc]; omega)))
           have Cu0 := Lib.hid (rd_carry Cu0.out hk (by first | omega | (simp only [World.size_alloc]; omega) | (simp only [World.size_drew]; omega) | (simp only [World.size_drew, World.size_alloc]; omega)) (by first | omega | (simp only [World.size_alloc]; omega) | (simp only [World.size_drew]; omega) | (simp only [World.size_drew, World.size_alloc]; omega)))
           clear hk hb))
    clear p00 p01 p02 p0l xx00 xx01 xx02 xx0l
    obtain ⟨k1, ek1⟩ : ∃ q : Nat, q = 1 + tcntL x0.cells := ⟨_, rfl⟩
    have pk1 : 0 < k1 := by omega
    have qk1 : k1 ≤ 30000000 := by have := tcnt_Type x0; have := TypeX.size_wt x0; omega
    have tk1 : ¬ ((k1 : Nat) : Int) < 0 := by omega
    have Ek1 := Lib.hid ek1
    clear ek1
    obtain ⟨xx00, xx01, xx02⟩ := cells3 Xx0.out
    have xx0l := Xx0.out.lt
    go_wp2_with fail
    refine (markVType x0 _ 1 _ bsx0 _ Ox0.out Dx0.out (by decide) (by have := Ek1.out; omega)).mono ?_
    rw [← Ek1.out]
    rintro e w9 ⟨rfl, -, hb⟩
    have hk := Keep.butV (lo := (w3.heap.size + 1)) (hi := w4.heap.size) hb Gx0.out
    have h9 : Below w.heap.size w w9 := below_butV h8 hb h8.size (fun x hx => by have := Gx0.out x hx; omega)
    have s9 := hk.size
    have R0 := Lib.hid (rd_carry R0.out hk (by first | omega | (simp only [World.size_alloc]; omega) | (simp only [World.size_drew]; omega) | (simp only [World.size_drew, World.size_alloc]; omega)) (by first | omega | (simp only [World.size_alloc]; omega) | (simp only [World.size_drew]; omega) | (simp only [World.size_drew, World.size_alloc]; omega)))
    have P0 := Lib.hid (wh_carry P0.out hk (by first | omega | (simp only [World.size_alloc]; omega) | (simp only [World.size_drew]; omega) | (simp only [World.size_drew, World.size_alloc]; omega)))
    have CW := Lib.hid (rd_carry CW.out hk (by first | omega | (simp only [World.size_alloc]; omega) | (simp only [World.size_drew]; omega) | (simp only [World.size_drew, World.size_alloc]; omega)) (by first | omega | (simp only [World.size_alloc]; omega) | (simp only [World.size_drew]; omega) | (simp only [World.size_drew, World.size_alloc]; omega)))
    have XW := Lib.hid (wh_carry XW.out hk (by first | omega | (simp only [World.size_alloc]; omega) | (simp only [World.size_drew]; omega) | (simp only [World.size_drew, World.size_alloc]; omega)))
    have Xx0 := Lib.hid (wh_carry Xx0.out hk (by first | omega | (simp only [World.size_alloc]; omega) | (simp only [World.size_drew]; omega) | (simp only [World.size_drew, World.size_alloc]; omega)))
    have Cg := Lib.hid (rd_carry Cg.out hk (by first | omega | (simp only [World.size_alloc]; omega) | (simp only [World.size_drew]; omega) | (simp only [World.size_drew, World.size_alloc]; omega)) (by first | omega | (simp only [World.size_alloc]; omega) | (simp only [World.size_drew]; omega) | (simp only [World.size_drew, World.size_alloc]; omega)))
    have Og := Lib.hid (ows_carry Og.out Gg.out hk (by first | omega | (simp only [World.size_alloc]; omega) | (simp only [World.size_drew]; omega) | (simp only [World.size_drew, World.size_alloc]; omega)))
    have Xg := Lib.hid (wh_carry Xg.out hk (by first | omega | (simp only [World.size_alloc]; omega) | (simp only [World.size_drew]; omega) | (simp only [World.size_drew, World.size_alloc]; omega)))
    clear hk hb xx00 xx01 xx02 xx0l
    obtain ⟨xg0, xg1, xg2⟩ := cells3 Xg.out
    have xgl := Xg.out.lt
    obtain ⟨xw0, xw1, xw2⟩ := cells3 XW.out
    have xwl := XW.out.lt
    go_wp2_with fail
    refine (eqType y _ _ _ ⟨_, _, rfl, rd_und Cg.out (by first | omega | (simp only [World.size_alloc]; omega) | (simp only [World.size_drew]; omega) | (simp only [World.size_drew, World.size_alloc]; omega))⟩ ⟨_, _, rfl, rd_und CW.out (by first | omega | (simp only [World.size_alloc]; omega) | (simp only [World.size_drew]; omega) | (simp only [World.size_drew, World.size_alloc]; omega))⟩).mono ?_
    rintro e w10 ⟨rfl, hb⟩
    have hk := Keep.below hb
    have h10 : Below w.heap.size w w10 := h9.trans (hb.mono h9.size)
    have s10 := hk.size
    have R0 := Lib.hid (rd_carry R0.out hk (by first | omega | (simp only [World.size_alloc]; omega) | (simp only [World.size_drew]; omega) | (simp only [World.size_drew, World.size_alloc]; omega)) (by first | omega | (simp only [World.size_alloc]; omega) | (simp only [World.size_drew]; omega) | (simp only [World.size_drew, World.size_alloc]; omega)))
    have P0 := Lib.hid (wh_carry P0.out hk (by first | omega | (simp only [World.size_alloc]; omega) | (simp only [World.size_drew]; omega) | (simp only [World.size_drew, World.size_alloc]; omega)))
    have CW := Lib.hid (rd_carry CW.out hk (by first | omega | (simp only [World.size_alloc]; omega) | (simp only [World.size_drew]; omega) | (simp only [World.size_drew, World.size_alloc]; omega)) (by first | omega | (simp only [World.size_alloc]; omega) | (simp only [World.size_drew]; omega) | (simp only [World.size_drew, World.size_alloc]; omega)))
    have XW := Lib.hid (wh_carry XW.out hk (by first | omega | (simp only [World.size_alloc]; omega) | (simp only [World.size_drew]; omega) | (simp only [World.size_drew, World.size_alloc]; omega)))
    have Xx0 := Lib.hid (wh_carry Xx0.out hk (by first | omega | (simp only [World.size_alloc]; omega) | (simp only [World.size_drew]; omega) | (simp only [World.size_drew, World.size_alloc]; omega)))
    have Cg := Lib.hid (rd_carry Cg.out hk (by first | omega | (simp only [World.size_alloc]; omega) | (simp only [World.size_drew]; omega) | (simp only [World.size_drew, World.size_alloc]; omega)) (by first | omega | (simp only [World.size_alloc]; omega) | (simp only [World.size_drew]; omega) | (simp only [World.size_drew, World.size_alloc]; omega)))
    have Og := Lib.hid (ows_carry Og.out Gg.out hk (by first | omega | (simp only [World.size_alloc]; omega) | (simp only [World.size_drew]; omega) | (simp only [World.size_drew, World.size_alloc]; omega)))
    have Xg := Lib.hid (wh_carry Xg.out hk (by first | omega | (simp only [World.size_alloc]; omega) | (simp only [World.size_drew]; omega) | (simp only [World.size_drew, World.size_alloc]; omega)))
    clear hk hb xg0 xg1 xg2 xgl xw0 xw1 xw2 xwl
    obtain ⟨m, em⟩ : ∃ q : Nat, q = 1 + tcntL y.cells := ⟨_, rfl⟩
    have EM := Lib.hid em
    have tm : ¬ ((m : Nat) : Int) < 0 := by omega
    have tm2 : (((m : Nat) : Int) == ((m : Nat) : Int)) = true := by simp
    clear em
    obtain ⟨xg0, xg1, xg2⟩ := cells3 Xg.out
    have xgl := Xg.out.lt
    go_wp2_with fail
    refine (markVType y _ 1 _ bsg _ Og.out Dg.out (by decide) hcnt).mono ?_
    rw [← EM.out]
    rintro e w11 ⟨rfl, hmk, hb⟩
    have hk := Keep.butV (lo := (w4.heap.size + 1)) (hi := w5.heap.size) hb Gg.out
    have h11 : Below w.heap.size w w11 := below_butV h10 hb h10.size (fun x hx => by have := Gg.out x hx; omega)
    have s11 := hk.size
    have R0 := Lib.hid (rd_carry R0.out hk (by first | omega | (simp only [World.size_alloc]; omega) | (simp only [World.size_drew]; omega) | (simp only [World.size_drew, World.size_alloc]; omega)) (by first | omega | (simp only [World.size_alloc]; omega) | (simp only [World.size_drew]; omega) | (simp only [World.size_drew, World.size_alloc]; omega)))
    have P0 := Lib.hid (wh_carry P0.out hk (by first | omega | (simp only [World.size_alloc]; omega) | (simp only [World.size_drew]; omega) | (simp only [World.size_drew, World.size_alloc]; omega)))
    have CW := Lib.hid (rd_carry CW.out hk (by first | omega | (simp only [World.size_alloc]; omega) | (simp only [World.size_drew]; omega) | (simp only [World.size_drew, World.size_alloc]; omega)) (by first | omega | (simp only [World.size_alloc]; omega) | (simp only [World.size_drew]; omega) | (simp only [World.size_drew, World.size_alloc]; omega)))
    have XW := Lib.hid (wh_carry XW.out hk (by first | omega | (simp only [World.size_alloc]; omega) | (simp only [World.size_drew]; omega) | (simp only [World.size_drew, World.size_alloc]; omega)))
    have Xx0 := Lib.hid (wh_carry Xx0.out hk (by first | omega | (simp only [World.size_alloc]; omega) | (simp only [World.size_drew]; omega) | (simp only [World.size_drew, World.size_alloc]; omega)))
    have Xg := Lib.hid (wh_carry Xg.out hk (by first | omega | (simp only [World.size_alloc]; omega) | (simp only [World.size_drew]; omega) | (simp only [World.size_drew, World.size_alloc]; omega)))
    clear hk hb xg0 xg1 xg2 xgl
    have hmr := marked_row (P := Bet ((w4.heap.size + 1)) (w5.heap.size)) Gg.out hmk
    have M := Lib.hid hmr
    clear hmk hmr
    have HCN := Lib.hid (show 1 + DV.cntE (TypeX.rows y.args_) ≤ 4398046511104 by rw [← TypeX.tcnt_eq]; exact hcnt)
    have EM2 := Lib.hid (show m = 1 + DV.cntE (TypeX.rows y.args_) by rw [← TypeX.tcnt_eq]; exact EM.out)
    obtain ⟨xg0, xg1, xg2⟩ := cells3 Xg.out
    have xgl := Xg.out.lt
    go_wp2_with fail
    refine (heldVType y Bg dg 1 _ (rd_und M.out (by first | omega | (simp only [World.size_alloc]; omega) | (simp only [World.size_drew]; omega) | (simp only [World.size_drew, World.size_alloc]; omega))) (by decide) HCN.out).mono ?_
    rw [← EM2.out]
    rintro e w12 ⟨rfl, hb⟩
    have hk := Keep.below hb
    have h12 : Below w.heap.size w w12 := h11.trans (hb.mono h11.size)
    have s12 := hk.size
    have R0 := Lib.hid (rd_carry R0.out hk (by first | omega | (simp only [World.size_alloc]; omega) | (simp only [World.size_drew]; omega) | (simp only [World.size_drew, World.size_alloc]; omega)) (by first | omega | (simp only [World.size_alloc]; omega) | (simp only [World.size_drew]; omega) | (simp only [World.size_drew, World.size_alloc]; omega)))
    have P0 := Lib.hid (wh_carry P0.out hk (by first | omega | (simp only [World.size_alloc]; omega) | (simp only [World.size_drew]; omega) | (simp only [World.size_drew, World.size_alloc]; omega)))
    have CW := Lib.hid (rd_carry CW.out hk (by first | omega | (simp only [World.size_alloc]; omega) | (simp only [World.size_drew]; omega) | (simp only [World.size_drew, World.size_alloc]; omega)) (by first | omega | (simp only [World.size_alloc]; omega) | (simp only [World.size_drew]; omega) | (simp only [World.size_drew, World.size_alloc]; omega)))
    have XW := Lib.hid (wh_carry XW.out hk (by first | omega | (simp only [World.size_alloc]; omega) | (simp only [World.size_drew]; omega) | (simp only [World.size_drew, World.size_alloc]; omega)))
    have Xx0 := Lib.hid (wh_carry Xx0.out hk (by first | omega | (simp only [World.size_alloc]; omega) | (simp only [World.size_drew]; omega) | (simp only [World.size_drew, World.size_alloc]; omega)))
    have Xg := Lib.hid (wh_carry Xg.out hk (by first | omega | (simp only [World.size_alloc]; omega) | (simp only [World.size_drew]; omega) | (simp only [World.size_drew, World.size_alloc]; omega)))
    have M := Lib.hid (rd_carry M.out hk (by first | omega | (simp only [World.size_alloc]; omega) | (simp only [World.size_drew]; omega) | (simp only [World.size_drew, World.size_alloc]; omega)) (by first | omega | (simp only [World.size_alloc]; omega) | (simp only [World.size_drew]; omega) | (simp only [World.size_drew, World.size_alloc]; omega)))
    clear hk hb xg0 xg1 xg2 xgl
    obtain ⟨p00, p01, p02⟩ := cells3 P0.out
    have p0l := P0.out.lt
    go_wp2_with fail
    refine (toType x0 _ _ hww0 ⟨_, _, rfl, rd_und R0.out (by first | omega | (simp only [World.size_alloc]; omega) | (simp only [World.size_drew]; omega) | (simp only [World.size_drew, World.size_alloc]; omega))⟩).mono ?_
    intro e w13 hm
    obtain ⟨Bz0, dz0, bsz0, rfl, ho, hnd, hr, hrg, hb⟩ := madeV_get hm
    clear hm
    have hk := Keep.below hb
    have h13 : Below w.heap.size w w13 := h12.trans (hb.mono h12.size)
    have s13 := hk.size
    have R0 := Lib.hid (rd_carry R0.out hk (by first | omega | (simp only [World.size_alloc]; omega) | (simp only [World.size_drew]; omega) | (simp only [World.size_drew, World.size_alloc]; omega)) (by first | omega | (simp only [World.size_alloc]; omega) | (simp only [World.size_drew]; omega) | (simp only [World.size_drew, World.size_alloc]; omega)))
    have P0 := Lib.hid (wh_carry P0.out hk (by first | omega | (simp only [World.size_alloc]; omega) | (simp only [World.size_drew]; omega) | (simp only [World.size_drew, World.size_alloc]; omega)))
    have CW := Lib.hid (rd_carry CW.out hk (by first | omega | (simp only [World.size_alloc]; omega) | (simp only [World.size_drew]; omega) | (simp only [World.size_drew, World.size_alloc]; omega)) (by first | omega | (simp only [World.size_alloc]; omega) | (simp only [World.size_drew]; omega) | (simp only [World.size_drew, World.size_alloc]; omega)))
    have XW := Lib.hid (wh_carry XW.out hk (by first | omega | (simp only [World.size_alloc]; omega) | (simp only [World.size_drew]; omega) | (simp only [World.size_drew, World.size_alloc]; omega)))
    have Xx0 := Lib.hid (wh_carry Xx0.out hk (by first | omega | (simp only [World.size_alloc]; omega) | (simp only [World.size_drew]; omega) | (simp only [World.size_drew, World.size_alloc]; omega)))
    have Xg := Lib.hid (wh_carry Xg.out hk (by first | omega | (simp only [World.size_alloc]; omega) | (simp only [World.size_drew]; omega) | (simp only [World.size_drew, World.size_alloc]; omega)))
    have M := Lib.hid (rd_carry M.out hk (by first | omega | (simp only [World.size_alloc]; omega) | (simp only [World.size_drew]; omega) | (simp only [World.size_drew, World.size_alloc]; omega)) (by first | omega | (simp only [World.size_alloc]; omega) | (simp only [World.size_drew]; omega) | (simp only [World.size_drew, World.size_alloc]; omega)))
    clear hk hb p00 p01 p02 p0l
    have Cz0 := Lib.hid hr
    clear hr hrg ho hnd
    go_wp2_with fail
    refine (HY.out ▸ implCanon x0 Bz0 dz0 _ (HPW.out.below h13) (by have := TypeX.size_wt x0; omega) (rd_und Cz0.out (by first | omega | (simp only [World.size_alloc]; omega) | (simp only [World.size_drew]; omega) | (simp only [World.size_drew, World.size_alloc]; omega)))).mono ?_
    intro e w14 hm
    obtain ⟨Bh, dh, bsh, rfl, ho, hnd, hr, hrg, hb⟩ := madeV_get hm
    clear hm
    have hk := Keep.below hb
    have h14 : Below w.heap.size w w14 := h13.trans (hb.mono h13.size)
    have s14 := hk.size
    have R0 := Lib.hid (rd_carry R0.out hk (by first | omega | (simp only [World.size_alloc]; omega) | (simp only [World.size_drew]; omega) | (simp only [World.size_drew, World.size_alloc]; omega)) (by first | omega | (simp only [World.size_alloc]; omega) | (simp only [World.size_drew]; omega) | (simp only [World.size_drew, World.size_alloc]; omega)))
    have P0 := Lib.hid (wh_carry P0.out hk (by first | omega | (simp only [World.size_alloc]; omega) | (simp only [World.size_drew]; omega) | (simp only [World.size_drew, World.size_alloc]; omega)))
    have CW := Lib.hid (rd_carry CW.out hk (by first | omega | (simp only [World.size_alloc]; omega) | (simp only [World.size_drew]; omega) | (simp only [World.size_drew, World.size_alloc]; omega)) (by first | omega | (simp only [World.size_alloc]; omega) | (simp only [World.size_drew]; omega) | (simp only [World.size_drew, World.size_alloc]; omega)))
    have XW := Lib.hid (wh_carry XW.out hk (by first | omega | (simp only [World.size_alloc]; omega) | (simp only [World.size_drew]; omega) | (simp only [World.size_drew, World.size_alloc]; omega)))
    have Xx0 := Lib.hid (wh_carry Xx0.out hk (by first | omega | (simp only [World.size_alloc]; omega) | (simp only [World.size_drew]; omega) | (simp only [World.size_drew, World.size_alloc]; omega)))
    have Xg := Lib.hid (wh_carry Xg.out hk (by first | omega | (simp only [World.size_alloc]; omega) | (simp only [World.size_drew]; omega) | (simp only [World.size_drew, World.size_alloc]; omega)))
    have M := Lib.hid (rd_carry M.out hk (by first | omega | (simp only [World.size_alloc]; omega) | (simp only [World.size_drew]; omega) | (simp only [World.size_drew, World.size_alloc]; omega)) (by first | omega | (simp only [World.size_alloc]; omega) | (simp only [World.size_drew]; omega) | (simp only [World.size_drew, World.size_alloc]; omega)))
    have Cz0 := Lib.hid (rd_carry Cz0.out hk (by first | omega | (simp only [World.size_alloc]; omega) | (simp only [World.size_drew]; omega) | (simp only [World.size_drew, World.size_alloc]; omega)) (by first | omega | (simp only [World.size_alloc]; omega) | (simp only [World.size_drew]; omega) | (simp only [World.size_drew, World.size_alloc]; omega)))
    clear hk hb
    have Ch := Lib.hid hr
    clear hr hrg ho hnd
    have hk := Keep.alloc w14 (.cells #[.int .i64 y.kind_, .string y.name_, .slice Bh y.args_.length dh] 26)
    have h14' := h14.alloc h14.size (.cells #[.int .i64 y.kind_, .string y.name_, .slice Bh y.args_.length dh] 26)
    have R0 := Lib.hid (rd_carry R0.out hk (by first | omega | (simp only [World.size_alloc]; omega) | (simp only [World.size_drew]; omega) | (simp only [World.size_drew, World.size_alloc]; omega)) (by first | omega | (simp only [World.size_alloc]; omega) | (simp only [World.size_drew]; omega) | (simp only [World.size_drew, World.size_alloc]; omega)))
    have P0 := Lib.hid (wh_carry P0.out hk (by first | omega | (simp only [World.size_alloc]; omega) | (simp only [World.size_drew]; omega) | (simp only [World.size_drew, World.size_alloc]; omega)))
    have CW := Lib.hid (rd_carry CW.out hk (by first | omega | (simp only [World.size_alloc]; omega) | (simp only [World.size_drew]; omega) | (simp only [World.size_drew, World.size_alloc]; omega)) (by first | omega | (simp only [World.size_alloc]; omega) | (simp only [World.size_drew]; omega) | (simp only [World.size_drew, World.size_alloc]; omega)))
    have XW := Lib.hid (wh_carry XW.out hk (by first | omega | (simp only [World.size_alloc]; omega) | (simp only [World.size_drew]; omega) | (simp only [World.size_drew, World.size_alloc]; omega)))
    have Xx0 := Lib.hid (wh_carry Xx0.out hk (by first | omega | (simp only [World.size_alloc]; omega) | (simp only [World.size_drew]; omega) | (simp only [World.size_drew, World.size_alloc]; omega)))
    have Xg := Lib.hid (wh_carry Xg.out hk (by first | omega | (simp only [World.size_alloc]; omega) | (simp only [World.size_drew]; omega) | (simp only [World.size_drew, World.size_alloc]; omega)))
    have M := Lib.hid (rd_carry M.out hk (by first | omega | (simp only [World.size_alloc]; omega) | (simp only [World.size_drew]; omega) | (simp only [World.size_drew, World.size_alloc]; omega)) (by first | omega | (simp only [World.size_alloc]; omega) | (simp only [World.size_drew]; omega) | (simp only [World.size_drew, World.size_alloc]; omega)))
    have Cz0 := Lib.hid (rd_carry Cz0.out hk (by first | omega | (simp only [World.size_alloc]; omega) | (simp only [World.size_drew]; omega) | (simp only [World.size_drew, World.size_alloc]; omega)) (by first | omega | (simp only [World.size_alloc]; omega) | (simp only [World.size_drew]; omega) | (simp only [World.size_drew, World.size_alloc]; omega)))
    have Ch := Lib.hid (rd_carry Ch.out hk (by first | omega | (simp only [World.size_alloc]; omega) | (simp only [World.size_drew]; omega) | (simp only [World.size_drew, World.size_alloc]; omega)) (by first | omega | (simp only [World.size_alloc]; omega) | (simp only [World.size_drew]; omega) | (simp only [World.size_drew, World.size_alloc]; omega)))
    have Xh := Lib.hid (Whole.new w14 26 #[.int .i64 y.kind_, .string y.name_, .slice Bh y.args_.length dh])
    clear hk
    obtain ⟨xh0, xh1, xh2⟩ := cells3 Xh.out
    have xhl := Xh.out.lt
    obtain ⟨xw0, xw1, xw2⟩ := cells3 XW.out
    have xwl := XW.out.lt
    go_wp2_with fail
    refine (eqType y _ _ _ ⟨_, _, rfl, rd_und Ch.out (by first | omega | (simp only [World.size_alloc]; omega) | (simp only [World.size_drew]; omega) | (simp only [World.size_drew, World.size_alloc]; omega))⟩ ⟨_, _, rfl, rd_und CW.out (by first | omega | (simp only [World.size_alloc]; omega) | (simp only [World.size_drew]; omega) | (simp only [World.size_drew, World.size_alloc]; omega))⟩).mono ?_
    rintro e w15 ⟨rfl, hb⟩
    have hk := Keep.below hb
    have h15 : Below w.heap.size w w15 := h14'.trans (hb.mono h14'.size)
    have s15 := hk.size
    simp only [World.size_alloc] at s15
    have R0 := Lib.hid (rd_carry R0.out hk (by first | omega | (simp only [World.size_alloc]; omega) | (simp only [World.size_drew]; omega) | (simp only [World.size_drew, World.size_alloc]; omega)) (by first | omega | (simp only [World.size_alloc]; omega) | (simp only [World.size_drew]; omega) | (simp only [World.size_drew, World.size_alloc]; omega)))
    have P0 := Lib.hid (wh_carry P0.out hk (by first | omega | (simp only [World.size_alloc]; omega) | (simp only [World.size_drew]; omega) | (simp only [World.size_drew, World.size_alloc]; omega)))
    have CW := Lib.hid (rd_carry CW.out hk (by first | omega | (simp only [World.size_alloc]; omega) | (simp only [World.size_drew]; omega) | (simp only [World.size_drew, World.size_alloc]; omega)) (by first | omega | (simp only [World.size_alloc]; omega) | (simp only [World.size_drew]; omega) | (simp only [World.size_drew, World.size_alloc]; omega)))
    have XW := Lib.hid (wh_carry XW.out hk (by first | omega | (simp only [World.size_alloc]; omega) | (simp only [World.size_drew]; omega) | (simp only [World.size_drew, World.size_alloc]; omega)))
    have Xx0 := Lib.hid (wh_carry Xx0.out hk (by first | omega | (simp only [World.size_alloc]; omega) | (simp only [World.size_drew]; omega) | (simp only [World.size_drew, World.size_alloc]; omega)))
    have Xg := Lib.hid (wh_carry Xg.out hk (by first | omega | (simp only [World.size_alloc]; omega) | (simp only [World.size_drew]; omega) | (simp only [World.size_drew, World.size_alloc]; omega)))
    have M := Lib.hid (rd_carry M.out hk (by first | omega | (simp only [World.size_alloc]; omega) | (simp only [World.size_drew]; omega) | (simp only [World.size_drew, World.size_alloc]; omega)) (by first | omega | (simp only [World.size_alloc]; omega) | (simp only [World.size_drew]; omega) | (simp only [World.size_drew, World.size_alloc]; omega)))
    have Ch := Lib.hid (rd_carry Ch.out hk (by first | omega | (simp only [World.size_alloc]; omega) | (simp only [World.size_drew]; omega) | (simp only [World.size_drew, World.size_alloc]; omega)) (by first | omega | (simp only [World.size_alloc]; omega) | (simp only [World.size_drew]; omega) | (simp only [World.size_drew, World.size_alloc]; omega)))
    have Xh := Lib.hid (wh_carry Xh.out hk (by first | omega | (simp only [World.size_alloc]; omega) | (simp only [World.size_drew]; omega) | (simp only [World.size_drew, World.size_alloc]; omega)))
    clear hk hb xh0 xh1 xh2 xhl xw0 xw1 xw2 xwl
    obtain ⟨xg0, xg1, xg2⟩ := cells3 Xg.out
    have xgl := Xg.out.lt
    go_wp2_with fail
    refine (heldVType y Bg dg 1 _ (rd_und M.out (by first | omega | (simp only [World.size_alloc]; omega) | (simp only [World.size_drew]; omega) | (simp only [World.size_drew, World.size_alloc]; omega))) (by decide) HCN.out).mono ?_
    rw [← EM2.out]
    rintro e w16 ⟨rfl, hb⟩
    have hk := Keep.below hb
    have h16 : Below w.heap.size w w16 := h15.trans (hb.mono h15.size)
    have s16 := hk.size
    have R0 := Lib.hid (rd_carry R0.out hk (by first | omega | (simp only [World.size_alloc]; omega) | (simp only [World.size_drew]; omega) | (simp only [World.size_drew, World.size_alloc]; omega)) (by first | omega | (simp only [World.size_alloc]; omega) | (simp only [World.size_drew]; omega) | (simp only [World.size_drew, World.size_alloc]; omega)))
    have P0 := Lib.hid (wh_carry P0.out hk (by first | omega | (simp only [World.size_alloc]; omega) | (simp only [World.size_drew]; omega) | (simp only [World.size_drew, World.size_alloc]; omega)))
    have CW := Lib.hid (rd_carry CW.out hk (by first | omega | (simp only [World.size_alloc]; omega) | (simp only [World.size_drew]; omega) | (simp only [World.size_drew, World.size_alloc]; omega)) (by first | omega | (simp only [World.size_alloc]; omega) | (simp only [World.size_drew]; omega) | (simp only [World.size_drew, World.size_alloc]; omega)))
    have XW := Lib.hid (wh_carry XW.out hk (by first | omega | (simp only [World.size_alloc]; omega) | (simp only [World.size_drew]; omega) | (simp only [World.size_drew, World.size_alloc]; omega)))
    have Xx0 := Lib.hid (wh_carry Xx0.out hk (by first | omega | (simp only [World.size_alloc]; omega) | (simp only [World.size_drew]; omega) | (simp only [World.size_drew, World.size_alloc]; omega)))
    have Xg := Lib.hid (wh_carry Xg.out hk (by first | omega | (simp only [World.size_alloc]; omega) | (simp only [World.size_drew]; omega) | (simp only [World.size_drew, World.size_alloc]; omega)))
    have M := Lib.hid (rd_carry M.out hk (by first | omega | (simp only [World.size_alloc]; omega) | (simp only [World.size_drew]; omega) | (simp only [World.size_drew, World.size_alloc]; omega)) (by first | omega | (simp only [World.size_alloc]; omega) | (simp only [World.size_drew]; omega) | (simp only [World.size_drew, World.size_alloc]; omega)))
    have Ch := Lib.hid (rd_carry Ch.out hk (by first | omega | (simp only [World.size_alloc]; omega) | (simp only [World.size_drew]; omega) | (simp only [World.size_drew, World.size_alloc]; omega)) (by first | omega | (simp only [World.size_alloc]; omega) | (simp only [World.size_drew]; omega) | (simp only [World.size_drew, World.size_alloc]; omega)))
    have Xh := Lib.hid (wh_carry Xh.out hk (by first | omega | (simp only [World.size_alloc]; omega) | (simp only [World.size_drew]; omega) | (simp only [World.size_drew, World.size_alloc]; omega)))
    clear hk hb xg0 xg1 xg2 xgl
    go_wp2
    go_ret
    exact ⟨rfl, h16⟩
end Go.Proofs.YtngbilblddngcaaDoor
