/- The law of AlphaEquivalent. -/
import Derived.Test.YtngbilblddngcaaDoorZLawK
import Derived.Test.YtngbilblddngcaaDoorZCanK
namespace Go.Proofs.YtngbilblddngcaaDoor
open Go.RowKit Go.Lib

set_option maxRecDepth 100000 in
set_option maxHeartbeats 8000000 in
theorem lawAlpha (x0 : TypeX) (A0 : Option Addr) (c0 : Nat) (x1 : TypeX) (A1 : Option Addr) (c1 : Nat) (w : World) (hpw : Pow w) (hok0 : DV.okL x0.cells) (hv0 : TypeRow w (Und w.heap.size) A0 c0 x0.args_) (hok1 : DV.okL x1.cells) (hv1 : TypeRow w (Und w.heap.size) A1 c1 x1.args_) :
    Calls Tryd.prog 7 #[.agg #[.int .i64 x0.kind_, .string x0.name_, .slice A0 x0.args_.length c0], .agg #[.int .i64 x1.kind_, .string x1.name_, .slice A1 x1.args_.length c1]] w fun e w' => e = .returned (.bool true) ∧ Below w.heap.size w w' := by
  have HPW := Lib.hid hpw
  clear hpw
  have R0 := Lib.hid (rd_bet hv0)
  have OK0 := Lib.hid hok0
  have R1 := Lib.hid (rd_bet hv1)
  have OK1 := Lib.hid hok1
  clear hv0 hok0 hv1 hok1
  have h0 : Below w.heap.size w w := Below.refl _ _
  by_cases hw0 : DV.wtL x0.cells ≤ 1048576
  case neg =>
    have HF := Lib.hid (leftV_no (L := 1048576) (n := DV.wtL x0.cells) (by first | omega | (simp only [World.size_alloc]; omega) | (simp only [World.size_drew]; omega) | (simp only [World.size_drew, World.size_alloc]; omega)))
    have hk := Keep.alloc w (.cells #[.int .i64 x0.kind_, .string x0.name_, .slice A0 x0.args_.length c0] 42)
    have h0' := h0.alloc h0.size (.cells #[.int .i64 x0.kind_, .string x0.name_, .slice A0 x0.args_.length c0] 42)
    have R0 := Lib.hid (rd_carry R0.out hk (by first | omega | (simp only [World.size_alloc]; omega) | (simp only [World.size_drew]; omega) | (simp only [World.size_drew, World.size_alloc]; omega)) (by first | omega | (simp only [World.size_alloc]; omega) | (simp only [World.size_drew]; omega) | (simp only [World.size_drew, World.size_alloc]; omega)))
    have R1 := Lib.hid (rd_carry R1.out hk (by first | omega | (simp only [World.size_alloc]; omega) | (simp only [World.size_drew]; omega) | (simp only [World.size_drew, World.size_alloc]; omega)) (by first | omega | (simp only [World.size_alloc]; omega) | (simp only [World.size_drew]; omega) | (simp only [World.size_drew, World.size_alloc]; omega)))
    have P0 := Lib.hid (Whole.new w 42 #[.int .i64 x0.kind_, .string x0.name_, .slice A0 x0.args_.length c0])
    clear hk
    have hk := Keep.alloc (w.alloc (.cells #[.int .i64 x0.kind_, .string x0.name_, .slice A0 x0.args_.length c0] 42)) (.cells #[.int .i64 x1.kind_, .string x1.name_, .slice A1 x1.args_.length c1] 42)
    have h0'' := h0'.alloc h0'.size (.cells #[.int .i64 x1.kind_, .string x1.name_, .slice A1 x1.args_.length c1] 42)
    have R0 := Lib.hid (rd_carry R0.out hk (by first | omega | (simp only [World.size_alloc]; omega) | (simp only [World.size_drew]; omega) | (simp only [World.size_drew, World.size_alloc]; omega)) (by first | omega | (simp only [World.size_alloc]; omega) | (simp only [World.size_drew]; omega) | (simp only [World.size_drew, World.size_alloc]; omega)))
    have R1 := Lib.hid (rd_carry R1.out hk (by first | omega | (simp only [World.size_alloc]; omega) | (simp only [World.size_drew]; omega) | (simp only [World.size_drew, World.size_alloc]; omega)) (by first | omega | (simp only [World.size_alloc]; omega) | (simp only [World.size_drew]; omega) | (simp only [World.size_drew, World.size_alloc]; omega)))
    have P0 := Lib.hid (wh_carry P0.out hk (by first | omega | (simp only [World.size_alloc]; omega) | (simp only [World.size_drew]; omega) | (simp only [World.size_drew, World.size_alloc]; omega)))
    have P1 := Lib.hid (show Whole ((w.alloc (.cells #[.int .i64 x0.kind_, .string x0.name_, .slice A0 x0.args_.length c0] 42)).alloc (.cells #[.int .i64 x1.kind_, .string x1.name_, .slice A1 x1.args_.length c1] 42)) (w.heap.size + 1) 42 #[.int .i64 x1.kind_, .string x1.name_, .slice A1 x1.args_.length c1] from by have h := Whole.new (w.alloc (.cells #[.int .i64 x0.kind_, .string x0.name_, .slice A0 x0.args_.length c0] 42)) 42 #[.int .i64 x1.kind_, .string x1.name_, .slice A1 x1.args_.length c1]; simp only [World.size_alloc] at h; exact h)
    clear hk
    go_enter Tryd.func7, Tryd.ntmps7
    obtain ⟨p00, p01, p02⟩ := cells3 P0.out
    have p0l := P0.out.lt
    go_wp2_with fail
    refine (szType x0 _ 1048576 _ OK0.out ⟨_, _, rfl, rd_und R0.out (by first | omega | (simp only [World.size_alloc]; omega) | (simp only [World.size_drew]; omega) | (simp only [World.size_drew, World.size_alloc]; omega))⟩ (by decide)).mono ?_
    rw [HF.out]
    rintro e w1 ⟨rfl, hb⟩
    have hk := Keep.below hb
    have h1 : Below w.heap.size w w1 := h0''.trans (hb.mono h0''.size)
    have s1 := hk.size
    simp only [World.size_alloc] at s1
    have R0 := Lib.hid (rd_carry R0.out hk (by first | omega | (simp only [World.size_alloc]; omega) | (simp only [World.size_drew]; omega) | (simp only [World.size_drew, World.size_alloc]; omega)) (by first | omega | (simp only [World.size_alloc]; omega) | (simp only [World.size_drew]; omega) | (simp only [World.size_drew, World.size_alloc]; omega)))
    have R1 := Lib.hid (rd_carry R1.out hk (by first | omega | (simp only [World.size_alloc]; omega) | (simp only [World.size_drew]; omega) | (simp only [World.size_drew, World.size_alloc]; omega)) (by first | omega | (simp only [World.size_alloc]; omega) | (simp only [World.size_drew]; omega) | (simp only [World.size_drew, World.size_alloc]; omega)))
    have P0 := Lib.hid (wh_carry P0.out hk (by first | omega | (simp only [World.size_alloc]; omega) | (simp only [World.size_drew]; omega) | (simp only [World.size_drew, World.size_alloc]; omega)))
    have P1 := Lib.hid (wh_carry P1.out hk (by first | omega | (simp only [World.size_alloc]; omega) | (simp only [World.size_drew]; omega) | (simp only [World.size_drew, World.size_alloc]; omega)))
    clear hk hb p00 p01 p02 p0l
    go_wp2
    go_ret
    exact ⟨rfl, h1⟩
  case pos =>
    obtain ⟨L1, hL1, hl1⟩ : ∃ L : Nat, leftV 1048576 (DV.wtL x0.cells) = (L : Nat) ∧ L ≤ 1048576 := ⟨1048576 - DV.wtL x0.cells, by rw [leftV_yes hw0]; omega, by omega⟩
    have HL1 := Lib.hid hL1
    have hnn1 : ¬ (L1 : Int) < 0 := by omega
    have hww0 : DV.wtL x0.cells ≤ 1048576 := by omega
    clear hL1
    by_cases hw1 : DV.wtL x1.cells ≤ L1
    case neg =>
      have HF := Lib.hid (leftV_no (L := L1) (n := DV.wtL x1.cells) (by first | omega | (simp only [World.size_alloc]; omega) | (simp only [World.size_drew]; omega) | (simp only [World.size_drew, World.size_alloc]; omega)))
      have hk := Keep.alloc w (.cells #[.int .i64 x0.kind_, .string x0.name_, .slice A0 x0.args_.length c0] 42)
      have h0' := h0.alloc h0.size (.cells #[.int .i64 x0.kind_, .string x0.name_, .slice A0 x0.args_.length c0] 42)
      have R0 := Lib.hid (rd_carry R0.out hk (by first | omega | (simp only [World.size_alloc]; omega) | (simp only [World.size_drew]; omega) | (simp only [World.size_drew, World.size_alloc]; omega)) (by first | omega | (simp only [World.size_alloc]; omega) | (simp only [World.size_drew]; omega) | (simp only [World.size_drew, World.size_alloc]; omega)))
      have R1 := Lib.hid (rd_carry R1.out hk (by first | omega | (simp only [World.size_alloc]; omega) | (simp only [World.size_drew]; omega) | (simp only [World.size_drew, World.size_alloc]; omega)) (by first | omega | (simp only [World.size_alloc]; omega) | (simp only [World.size_drew]; omega) | (simp only [World.size_drew, World.size_alloc]; omega)))
      have P0 := Lib.hid (Whole.new w 42 #[.int .i64 x0.kind_, .string x0.name_, .slice A0 x0.args_.length c0])
      clear hk
      have hk := Keep.alloc (w.alloc (.cells #[.int .i64 x0.kind_, .string x0.name_, .slice A0 x0.args_.length c0] 42)) (.cells #[.int .i64 x1.kind_, .string x1.name_, .slice A1 x1.args_.length c1] 42)
      have h0'' := h0'.alloc h0'.size (.cells #[.int .i64 x1.kind_, .string x1.name_, .slice A1 x1.args_.length c1] 42)
      have R0 := Lib.hid (rd_carry R0.out hk (by first | omega | (simp only [World.size_alloc]; omega) | (simp only [World.size_drew]; omega) | (simp only [World.size_drew, World.size_alloc]; omega)) (by first | omega | (simp only [World.size_alloc]; omega) | (simp only [World.size_drew]; omega) | (simp only [World.size_drew, World.size_alloc]; omega)))
      have R1 := Lib.hid (rd_carry R1.out hk (by first | omega | (simp only [World.size_alloc]; omega) | (simp only [World.size_drew]; omega) | (simp only [World.size_drew, World.size_alloc]; omega)) (by first | omega | (simp only [World.size_alloc]; omega) | (simp only [World.size_drew]; omega) | (simp only [World.size_drew, World.size_alloc]; omega)))
      have P0 := Lib.hid (wh_carry P0.out hk (by first | omega | (simp only [World.size_alloc]; omega) | (simp only [World.size_drew]; omega) | (simp only [World.size_drew, World.size_alloc]; omega)))
      have P1 := Lib.hid (show Whole ((w.alloc (.cells #[.int .i64 x0.kind_, .string x0.name_, .slice A0 x0.args_.length c0] 42)).alloc (.cells #[.int .i64 x1.kind_, .string x1.name_, .slice A1 x1.args_.length c1] 42)) (w.heap.size + 1) 42 #[.int .i64 x1.kind_, .string x1.name_, .slice A1 x1.args_.length c1] from by have h := Whole.new (w.alloc (.cells #[.int .i64 x0.kind_, .string x0.name_, .slice A0 x0.args_.length c0] 42)) 42 #[.int .i64 x1.kind_, .string x1.name_, .slice A1 x1.args_.length c1]; simp only [World.size_alloc] at h; exact h)
      clear hk
      go_enter Tryd.func7, Tryd.ntmps7
      obtain ⟨p00, p01, p02⟩ := cells3 P0.out
      have p0l := P0.out.lt
      go_wp2_with fail
      refine (szType x0 _ 1048576 _ OK0.out ⟨_, _, rfl, rd_und R0.out (by first | omega | (simp only [World.size_alloc]; omega) | (simp only [World.size_drew]; omega) | (simp only [World.size_drew, World.size_alloc]; omega))⟩ (by decide)).mono ?_
      rw [HL1.out]
      rintro e w1 ⟨rfl, hb⟩
      have hk := Keep.below hb
      have h1 : Below w.heap.size w w1 := h0''.trans (hb.mono h0''.size)
      have s1 := hk.size
      simp only [World.size_alloc] at s1
      have R0 := Lib.hid (rd_carry R0.out hk (by first | omega | (simp only [World.size_alloc]; omega) | (simp only [World.size_drew]; omega) | (simp only [World.size_drew, World.size_alloc]; omega)) (by first | omega | (simp only [World.size_alloc]; omega) | (simp only [World.size_drew]; omega) | (simp only [World.size_drew, World.size_alloc]; omega)))
      have R1 := Lib.hid (rd_carry R1.out hk (by first | omega | (simp only [World.size_alloc]; omega) | (simp only [World.size_drew]; omega) | (simp only [World.size_drew, World.size_alloc]; omega)) (by first | omega | (simp only [World.size_alloc]; omega) | (simp only [World.size_drew]; omega) | (simp only [World.size_drew, World.size_alloc]; omega)))
      have P0 := Lib.hid (wh_carry P0.out hk (by first | omega | (simp only [World.size_alloc]; omega) | (simp only [World.size_drew]; omega) | (simp only [World.size_drew, World.size_alloc]; omega)))
      have P1 := Lib.hid (wh_carry P1.out hk (by first | omega | (simp only [World.size_alloc]; omega) | (simp only [World.size_drew]; omega) | (simp only [World.size_drew, World.size_alloc]; omega)))
      clear hk hb p00 p01 p02 p0l
      obtain ⟨p10, p11, p12⟩ := cells3 P1.out
      have p1l := P1.out.lt
      go_wp2_with fail
      refine (szType x1 _ L1 _ OK1.out ⟨_, _, rfl, rd_und R1.out (by first | omega | (simp only [World.size_alloc]; omega) | (simp only [World.size_drew]; omega) | (simp only [World.size_drew, World.size_alloc]; omega))⟩ hl1).mono ?_
      rw [HF.out]
      rintro e w2 ⟨rfl, hb⟩
      have hk := Keep.below hb
      have h2 : Below w.heap.size w w2 := h1.trans (hb.mono h1.size)
      have s2 := hk.size
      have R0 := Lib.hid (rd_carry R0.out hk (by first | omega | (simp only [World.size_alloc]; omega) | (simp only [World.size_drew]; omega) | (simp only [World.size_drew, World.size_alloc]; omega)) (by first | omega | (simp only [World.size_alloc]; omega) | (simp only [World.size_drew]; omega) | (simp only [World.size_drew, World.size_alloc]; omega)))
      have R1 := Lib.hid (rd_carry R1.out hk (by first | omega | (simp only [World.size_alloc]; omega) | (simp only [World.size_drew]; omega) | (simp only [World.size_drew, World.size_alloc]; omega)) (by first | omega | (simp only [World.size_alloc]; omega) | (simp only [World.size_drew]; omega) | (simp only [World.size_drew, World.size_alloc]; omega)))
      have P0 := Lib.hid (wh_carry P0.out hk (by first | omega | (simp only [World.size_alloc]; omega) | (simp only [World.size_drew]; omega) | (simp only [World.size_drew, World.size_alloc]; omega)))
      have P1 := Lib.hid (wh_carry P1.out hk (by first | omega | (simp only [World.size_alloc]; omega) | (simp only [World.size_drew]; omega) | (simp only [World.size_drew, World.size_alloc]; omega)))
      clear hk hb p10 p11 p12 p1l
      go_wp2
      go_ret
      exact ⟨rfl, h2⟩
    case pos =>
      obtain ⟨L2, hL2, hl2⟩ : ∃ L : Nat, leftV L1 (DV.wtL x1.cells) = (L : Nat) ∧ L ≤ 1048576 := ⟨L1 - DV.wtL x1.cells, by rw [leftV_yes hw1]; omega, by omega⟩
      have HL2 := Lib.hid hL2
      have hnn2 : ¬ (L2 : Int) < 0 := by omega
      have hww1 : DV.wtL x1.cells ≤ 1048576 := by omega
      clear hL2
      obtain ⟨y, hy⟩ : ∃ y : Bool, y = x0.canon.same x1.canon := ⟨_, rfl⟩
      have HY := Lib.hid hy
      clear hy
      have hk := Keep.alloc w (.cells #[.int .i64 x0.kind_, .string x0.name_, .slice A0 x0.args_.length c0] 42)
      have h0' := h0.alloc h0.size (.cells #[.int .i64 x0.kind_, .string x0.name_, .slice A0 x0.args_.length c0] 42)
      have R0 := Lib.hid (rd_carry R0.out hk (by first | omega | (simp only [World.size_alloc]; omega) | (simp only [World.size_drew]; omega) | (simp only [World.size_drew, World.size_alloc]; omega)) (by first | omega | (simp only [World.size_alloc]; omega) | (simp only [World.size_drew]; omega) | (simp only [World.size_drew, World.size_alloc]; omega)))
      have R1 := Lib.hid (rd_carry R1.out hk (by first | omega | (simp only [World.size_alloc]; omega) | (simp only [World.size_drew]; omega) | (simp only [World.size_drew, World.size_alloc]; omega)) (by first | omega | (simp only [World.size_alloc]; omega) | (simp only [World.size_drew]; omega) | (simp only [World.size_drew, World.size_alloc]; omega)))
      have P0 := Lib.hid (Whole.new w 42 #[.int .i64 x0.kind_, .string x0.name_, .slice A0 x0.args_.length c0])
      clear hk
      have hk := Keep.alloc (w.alloc (.cells #[.int .i64 x0.kind_, .string x0.name_, .slice A0 x0.args_.length c0] 42)) (.cells #[.int .i64 x1.kind_, .string x1.name_, .slice A1 x1.args_.length c1] 42)
      have h0'' := h0'.alloc h0'.size (.cells #[.int .i64 x1.kind_, .string x1.name_, .slice A1 x1.args_.length c1] 42)
      have R0 := Lib.hid (rd_carry R0.out hk (by first | omega | (simp only [World.size_alloc]; omega) | (simp only [World.size_drew]; omega) | (simp only [World.size_drew, World.size_alloc]; omega)) (by first | omega | (simp only [World.size_alloc]; omega) | (simp only [World.size_drew]; omega) | (simp only [World.size_drew, World.size_alloc]; omega)))
      have R1 := Lib.hid (rd_carry R1.out hk (by first | omega | (simp only [World.size_alloc]; omega) | (simp only [World.size_drew]; omega) | (simp only [World.size_drew, World.size_alloc]; omega)) (by first | omega | (simp only [World.size_alloc]; omega) | (simp only [World.size_drew]; omega) | (simp only [World.size_drew, World.size_alloc]; omega)))
      have P0 := Lib.hid (wh_carry P0.out hk (by first | omega | (simp only [World.size_alloc]; omega) | (simp only [World.size_drew]; omega) | (simp only [World.size_drew, World.size_alloc]; omega)))
      have P1 := Lib.hid (show Whole ((w.alloc (.cells #[.int .i64 x0.kind_, .string x0.name_, .slice A0 x0.args_.length c0] 42)).alloc (.cells #[.int .i64 x1.kind_, .string x1.name_, .slice A1 x1.args_.length c1] 42)) (w.heap.size + 1) 42 #[.int .i64 x1.kind_, .string x1.name_, .slice A1 x1.args_.length c1] from by have h := Whole.new (w.alloc (.cells #[.int .i64 x0.kind_, .string x0.name_, .slice A0 x0.args_.length c0] 42)) 42 #[.int .i64 x1.kind_, .string x1.name_, .slice A1 x1.args_.length c1]; simp only [World.size_alloc] at h; exact h)
      clear hk
      go_enter Tryd.func7, Tryd.ntmps7
      obtain ⟨p00, p01, p02⟩ := cells3 P0.out
      have p0l := P0.out.lt
      go_wp2_with fail
      refine (szType x0 _ 1048576 _ OK0.out ⟨_, _, rfl, rd_und R0.out (by first | omega | (simp only [World.size_alloc]; omega) | (simp only [World.size_drew]; omega) | (simp only [World.size_drew, World.size_alloc]; omega))⟩ (by decide)).mono ?_
      rw [HL1.out]
      rintro e w1 ⟨rfl, hb⟩
      have hk := Keep.below hb
      have h1 : Below w.heap.size w w1 := h0''.trans (hb.mono h0''.size)
      have s1 := hk.size
      simp only [World.size_alloc] at s1
      have R0 := Lib.hid (rd_carry R0.out hk (by first | omega | (simp only [World.size_alloc]; omega) | (simp only [World.size_drew]; omega) | (simp only [World.size_drew, World.size_alloc]; omega)) (by first | omega | (simp only [World.size_alloc]; omega) | (simp only [World.size_drew]; omega) | (simp only [World.size_drew, World.size_alloc]; omega)))
      have R1 := Lib.hid (rd_carry R1.out hk (by first | omega | (simp only [World.size_alloc]; omega) | (simp only [World.size_drew]; omega) | (simp only [World.size_drew, World.size_alloc]; omega)) (by first | omega | (simp only [World.size_alloc]; omega) | (simp only [World.size_drew]; omega) | (simp only [World.size_drew, World.size_alloc]; omega)))
      have P0 := Lib.hid (wh_carry P0.out hk (by first | omega | (simp only [World.size_alloc]; omega) | (simp only [World.size_drew]; omega) | (simp only [World.size_drew, World.size_alloc]; omega)))
      have P1 := Lib.hid (wh_carry P1.out hk (by first | omega | (simp only [World.size_alloc]; omega) | (simp only [World.size_drew]; omega) | (simp only [World.size_drew, World.size_alloc]; omega)))
      clear hk hb p00 p01 p02 p0l
      obtain ⟨p10, p11, p12⟩ := cells3 P1.out
      have p1l := P1.out.lt
      go_wp2_with fail
      refine (szType x1 _ L1 _ OK1.out ⟨_, _, rfl, rd_und R1.out (by first | omega | (simp only [World.size_alloc]; omega) | (simp only [World.size_drew]; omega) | (simp only [World.size_drew, World.size_alloc]; omega))⟩ hl1).mono ?_
      rw [HL2.out]
      rintro e w2 ⟨rfl, hb⟩
      have hk := Keep.below hb
      have h2 : Below w.heap.size w w2 := h1.trans (hb.mono h1.size)
      have s2 := hk.size
      have R0 := Lib.hid (rd_carry R0.out hk (by first | omega | (simp only [World.size_alloc]; omega) | (simp only [World.size_drew]; omega) | (simp only [World.size_drew, World.size_alloc]; omega)) (by first | omega | (simp only [World.size_alloc]; omega) | (simp only [World.size_drew]; omega) | (simp only [World.size_drew, World.size_alloc]; omega)))
      have R1 := Lib.hid (rd_carry R1.out hk (by first | omega | (simp only [World.size_alloc]; omega) | (simp only [World.size_drew]; omega) | (simp only [World.size_drew, World.size_alloc]; omega)) (by first | omega | (simp only [World.size_alloc]; omega) | (simp only [World.size_drew]; omega) | (simp only [World.size_drew, World.size_alloc]; omega)))
      have P0 := Lib.hid (wh_carry P0.out hk (by first | omega | (simp only [World.size_alloc]; omega) | (simp only [World.size_drew]; omega) | (simp only [World.size_drew, World.size_alloc]; omega)))
      have P1 := Lib.hid (wh_carry P1.out hk (by first | omega | (simp only [World.size_alloc]; omega) | (simp only [World.size_drew]; omega) | (simp only [World.size_drew, World.size_alloc]; omega)))
      clear hk hb p10 p11 p12 p1l
      go_upto_region 8 with (fail)
      obtain ⟨p00, p01, p02⟩ := cells3 P0.out
      have p0l := P0.out.lt
      obtain ⟨p10, p11, p12⟩ := cells3 P1.out
      have p1l := P1.out.lt
      have hk := Keep.below ((Below.refl _ w2).drew)
      have h2d := h2.drew
      have R0 := Lib.hid (rd_carry R0.out hk (by first | omega | (simp only [World.size_alloc]; omega) | (simp only [World.size_drew]; omega) | (simp only [World.size_drew, World.size_alloc]; omega)) (by first | omega | (simp only [World.size_alloc]; omega) | (simp only [World.size_drew]; omega) | (simp only [World.size_drew, World.size_alloc]; omega)))
      have R1 := Lib.hid (rd_carry R1.out hk (by first | omega | (simp only [World.size_alloc]; omega) | (simp only [World.size_drew]; omega) | (simp only [World.size_drew, World.size_alloc]; omega)) (by first | omega | (simp only [World.size_alloc]; omega) | (simp only [World.size_drew]; omega) | (simp only [World.size_drew, World.size_alloc]; omega)))
      have P0 := Lib.hid (wh_carry P0.out hk (by first | omega | (simp only [World.size_alloc]; omega) | (simp only [World.size_drew]; omega) | (simp only [World.size_drew, World.size_alloc]; omega)))
      have P1 := Lib.hid (wh_carry P1.out hk (by first | omega | (simp only [World.size_alloc]; omega) | (simp only [World.size_drew]; omega) | (simp only [World.size_drew, World.size_alloc]; omega)))
      clear hk
      go_region_held3 (fun w' => w'.cell? ⟨w.heap.size, 0, none⟩ = some (.int .i64 x0.kind_) ∧ w'.cell? ⟨w.heap.size, 1, none⟩ = some (.string x0.name_) ∧ w'.cell? ⟨w.heap.size, 2, none⟩ = some (.slice A0 x0.args_.length c0) ∧ w'.cell? ⟨w.heap.size + 1, 0, none⟩ = some (.int .i64 x1.kind_) ∧ w'.cell? ⟨w.heap.size + 1, 1, none⟩ = some (.string x1.name_) ∧ w'.cell? ⟨w.heap.size + 1, 2, none⟩ = some (.slice A1 x1.args_.length c1))
        (first
          | go_keep
          | exact (⟨(cells3 P0.out).1, (cells3 P0.out).2.1, (cells3 P0.out).2.2, (cells3 P1.out)⟩))
        (first
          | (go_at_call_of 27 (Value.agg #[.int .i64 x0.kind_, .string x0.name_, .slice A0 x0.args_.length c0])
             refine (toType x0 _ _ hww0 ⟨_, _, rfl, rd_und R0.out (by first | omega | (simp only [World.size_alloc]; omega) | (simp only [World.size_drew]; omega) | (simp only [World.size_drew, World.size_alloc]; omega))⟩).mono ?_
             intro e w3 hm
             obtain ⟨Ba0, da0, bsa0, rfl, ho, hnd, hr, hrg, hb⟩ := madeV_get hm
             simp only [World.size_drew] at ho hr hrg
             clear hm
             have hk := Keep.below hb
             have h3 : Below w.heap.size w w3 := h2d.trans (hb.mono h2d.size)
             have s3 := hk.size
             simp only [World.size_drew] at s3
             have R0 := Lib.hid (rd_carry R0.out hk (by first | omega | (simp only [World.size_alloc]; omega) | (simp only [World.size_drew]; omega) | (simp only [World.size_drew, World.size_alloc]; omega)) (by first | omega | (simp only [World.size_alloc]; omega) | (simp only [World.size_drew]; omega) | (simp only [World.size_drew, World.size_alloc]; omega)))
             have R1 := Lib.hid (rd_carry R1.out hk (by first | omega | (simp only [World.size_alloc]; omega) | (simp only [World.size_drew]; omega) | (simp only [World.size_drew, World.size_alloc]; omega)) (by first | omega | (simp only [World.size_alloc]; omega) | (simp only [World.size_drew]; omega) | (simp only [World.size_drew, World.size_alloc]; omega)))
             have P0 := Lib.hid (wh_carry P0.out hk (by first | omega | (simp only [World.size_alloc]; omega) | (simp only [World.size_drew]; omega) | (simp only [World.size_drew, World.size_alloc]; omega)))
             have P1 := Lib.hid (wh_carry P1.out hk (by first | omega | (simp only [World.size_alloc]; omega) | (simp only [World.size_drew]; omega) | (simp only [World.size_drew, World.size_alloc]; omega)))
             clear hk hb
             have Ca0 := Lib.hid hr
             clear hr hrg ho hnd)
          | (go_at_call_of 27 (Value.agg #[.int .i64 x1.kind_, .string x1.name_, .slice A1 x1.args_.length c1])
             refine (toType x1 _ _ hww1 ⟨_, _, rfl, rd_und R1.out (by first | omega | (simp only [World.size_alloc]; omega) | (simp only [World.size_drew]; omega) | (simp only [World.size_drew, World.size_alloc]; omega))⟩).mono ?_
             intro e w4 hm
             obtain ⟨Ba1, da1, bsa1, rfl, ho, hnd, hr, hrg, hb⟩ := madeV_get hm
             clear hm
             have hk := Keep.below hb
             have h4 : Below w.heap.size w w4 := h3.trans (hb.mono h3.size)
             have s4 := hk.size
             have R0 := Lib.hid (rd_carry R0.out hk (by first | omega | (simp only [World.size_alloc]; omega) | (simp only [World.size_drew]; omega) | (simp only [World.size_drew, World.size_alloc]; omega)) (by first | omega | (simp only [World.size_alloc]; omega) | (simp only [World.size_drew]; omega) | (simp only [World.size_drew, World.size_alloc]; omega)))
             have R1 := Lib.hid (rd_carry R1.out hk (by first | omega | (simp only [World.size_alloc]; omega) | (simp only [World.size_drew]; omega) | (simp only [World.size_drew, World.size_alloc]; omega)) (by first | omega | (simp only [World.size_alloc]; omega) | (simp only [World.size_drew]; omega) | (simp only [World.size_drew, World.size_alloc]; omega)))
             have P0 := Lib.hid (wh_carry P0.out hk (by first | omega | (simp only [World.size_alloc]; omega) | (simp only [World.size_drew]; omega) | (simp only [World.size_drew, World.size_alloc]; omega)))
             have P1 := Lib.hid (wh_carry P1.out hk (by first | omega | (simp only [World.size_alloc]; omega) | (simp only [World.size_drew]; omega) | (simp only [World.size_drew, World.size_alloc]; omega)))
             have Ca0 := Lib.hid (rd_carry Ca0.out hk (by first | omega | (simp only [World.size_alloc]; omega) | (simp only [World.size_drew]; omega) | (simp only [World.size_drew, World.size_alloc]; omega)) (by first | omega | (simp only [World.size_alloc]; omega) | (simp only [World.size_drew]; omega) | (simp only [World.size_drew, World.size_alloc]; omega)))
             clear hk hb
             have Ca1 := Lib.hid hr
             clear hr hrg ho hnd)
          | (go_at_call 13
             refine (HY.out ▸ specAlpha x0 x1 Ba0 Ba1 da0 da1 _ (by have := TypeX.size_wt x0; omega) (by have := TypeX.size_wt x1; omega) (rd_und Ca0.out (by first | omega | (simp only [World.size_alloc]; omega) | (simp only [World.size_drew]; omega) | (simp only [World.size_drew, World.size_alloc]; omega))) (rd_und Ca1.out (by first | omega | (simp only [World.size_alloc]; omega) | (simp only [World.size_drew]; omega) | (simp only [World.size_drew, World.size_alloc]; omega)))).mono ?_
             rintro e w5 ⟨rfl, hb⟩
             have hk := Keep.below hb
             have h5 : Below w.heap.size w w5 := h4.trans (hb.mono h4.size)
             have s5 := hk.size
             have R0 := Lib.hid (rd_carry R0.out hk (by first | omega | (simp only [World.size_alloc]; omega) | (simp only [World.size_drew]; omega) | (simp only [World.size_drew, World.size_alloc]; omega)) (by first | omega | (simp only [World.size_alloc]; omega) | (simp only [World.size_drew]; omega) | (simp only [World.size_drew, World.size_alloc]; omega)))
             have R1 := Lib.hid (rd_carry R1.out hk (by first | omega | (simp only [World.size_alloc]; omega) | (simp only [World.size_drew]; omega) | (simp only [World.size_drew, World.size_alloc]; omega)) (by first | omega | (simp only [World.size_alloc]; omega) | (simp only [World.size_drew]; omega) | (simp only [World.size_drew, World.size_alloc]; omega)))
             have P0 := Lib.hid (wh_carry P0.out hk (by first | omega | (simp only [World.size_alloc]; omega) | (simp only [World.size_drew]; omega) | (simp only [World.size_drew, World.size_alloc]; omega)))
             have P1 := Lib.hid (wh_carry P1.out hk (by first | omega | (simp only [World.size_alloc]; omega) | (simp only [World.size_drew]; omega) | (simp only [World.size_drew, World.size_alloc]; omega)))
             have Ca0 := Lib.hid (rd_carry Ca0.out hk (by first | omega | (simp only [World.size_alloc]; omega) | (simp only [World.size_drew]; omega) | (simp only [World.size_drew, World.size_alloc]; omega)) (by first | omega | (simp only [World.size_alloc]; omega) | (simp only [World.size_drew]; omega) | (simp only [World.size_drew, World.size_alloc]; omega)))
             have Ca1 := Lib.hid (rd_carry Ca1.out hk (by first | omega | (simp only [World.size_alloc]; omega) | (simp only [World.size_drew]; omega) | (simp only [World.size_drew, World.size_alloc]; omega)) (by first | omega | (simp only [World.size_alloc]; omega) | (simp only [World.size_drew]; omega) | (simp only [World.size_drew, World.size_alloc]; omega)))
             clear hk hb))
      clear p00 p01 p02 p0l p10 p11 p12 p1l
      obtain ⟨p00, p01, p02⟩ := cells3 P0.out
      have p0l := P0.out.lt
      go_wp2_with fail
      refine (toType x0 _ _ hww0 ⟨_, _, rfl, rd_und R0.out (by first | omega | (simp only [World.size_alloc]; omega) | (simp only [World.size_drew]; omega) | (simp only [World.size_drew, World.size_alloc]; omega))⟩).mono ?_
      intro e w6 hm
      obtain ⟨Bx0, dx0, bsx0, rfl, ho, hnd, hr, hrg, hb⟩ := madeV_get hm
      clear hm
      have hk := Keep.below hb
      have h6 : Below w.heap.size w w6 := h5.trans (hb.mono h5.size)
      have s6 := hk.size
      have R0 := Lib.hid (rd_carry R0.out hk (by first | omega | (simp only [World.size_alloc]; omega) | (simp only [World.size_drew]; omega) | (simp only [World.size_drew, World.size_alloc]; omega)) (by first | omega | (simp only [World.size_alloc]; omega) | (simp only [World.size_drew]; omega) | (simp only [World.size_drew, World.size_alloc]; omega)))
      have R1 := Lib.hid (rd_carry R1.out hk (by first | omega | (simp only [World.size_alloc]; omega) | (simp only [World.size_drew]; omega) | (simp only [World.size_drew, World.size_alloc]; omega)) (by first | omega | (simp only [World.size_alloc]; omega) | (simp only [World.size_drew]; omega) | (simp only [World.size_drew, World.size_alloc]; omega)))
      have P0 := Lib.hid (wh_carry P0.out hk (by first | omega | (simp only [World.size_alloc]; omega) | (simp only [World.size_drew]; omega) | (simp only [World.size_drew, World.size_alloc]; omega)))
      have P1 := Lib.hid (wh_carry P1.out hk (by first | omega | (simp only [World.size_alloc]; omega) | (simp only [World.size_drew]; omega) | (simp only [World.size_drew, World.size_alloc]; omega)))
      clear hk hb p00 p01 p02 p0l
      have Cx0 := Lib.hid hr
      have Gx0 := Lib.hid hrg
      have Ox0 := Lib.hid ho
      have Dx0 := Lib.hid hnd
      clear hr hrg ho hnd
      have hk := Keep.alloc w6 (.cells #[.int .i64 x0.kind_, .string x0.name_, .slice Bx0 x0.args_.length dx0] 26)
      have h6' := h6.alloc h6.size (.cells #[.int .i64 x0.kind_, .string x0.name_, .slice Bx0 x0.args_.length dx0] 26)
      have R0 := Lib.hid (rd_carry R0.out hk (by first | omega | (simp only [World.size_alloc]; omega) | (simp only [World.size_drew]; omega) | (simp only [World.size_drew, World.size_alloc]; omega)) (by first | omega | (simp only [World.size_alloc]; omega) | (simp only [World.size_drew]; omega) | (simp only [World.size_drew, World.size_alloc]; omega)))
      have R1 := Lib.hid (rd_carry R1.out hk (by first | omega | (simp only [World.size_alloc]; omega) | (simp only [World.size_drew]; omega) | (simp only [World.size_drew, World.size_alloc]; omega)) (by first | omega | (simp only [World.size_alloc]; omega) | (simp only [World.size_drew]; omega) | (simp only [World.size_drew, World.size_alloc]; omega)))
      have P0 := Lib.hid (wh_carry P0.out hk (by first | omega | (simp only [World.size_alloc]; omega) | (simp only [World.size_drew]; omega) | (simp only [World.size_drew, World.size_alloc]; omega)))
      have P1 := Lib.hid (wh_carry P1.out hk (by first | omega | (simp only [World.size_alloc]; omega) | (simp only [World.size_drew]; omega) | (simp only [World.size_drew, World.size_alloc]; omega)))
      have Cx0 := Lib.hid (rd_carry Cx0.out hk (by first | omega | (simp only [World.size_alloc]; omega) | (simp only [World.size_drew]; omega) | (simp only [World.size_drew, World.size_alloc]; omega)) (by first | omega | (simp only [World.size_alloc]; omega) | (simp only [World.size_drew]; omega) | (simp only [World.size_drew, World.size_alloc]; omega)))
      have Ox0 := Lib.hid (ows_carry Ox0.out Gx0.out hk (by first | omega | (simp only [World.size_alloc]; omega) | (simp only [World.size_drew]; omega) | (simp only [World.size_drew, World.size_alloc]; omega)))
      have Xx0 := Lib.hid (Whole.new w6 26 #[.int .i64 x0.kind_, .string x0.name_, .slice Bx0 x0.args_.length dx0])
      clear hk
      obtain ⟨p10, p11, p12⟩ := cells3 P1.out
      have p1l := P1.out.lt
      go_wp2_with fail
      refine (toType x1 _ _ hww1 ⟨_, _, rfl, rd_und R1.out (by first | omega | (simp only [World.size_alloc]; omega) | (simp only [World.size_drew]; omega) | (simp only [World.size_drew, World.size_alloc]; omega))⟩).mono ?_
      intro e w7 hm
      obtain ⟨Bx1, dx1, bsx1, rfl, ho, hnd, hr, hrg, hb⟩ := madeV_get hm
      simp only [World.size_alloc] at ho hr hrg
      clear hm
      have hk := Keep.below hb
      have h7 : Below w.heap.size w w7 := h6'.trans (hb.mono h6'.size)
      have s7 := hk.size
      simp only [World.size_alloc] at s7
      have R0 := Lib.hid (rd_carry R0.out hk (by first | omega | (simp only [World.size_alloc]; omega) | (simp only [World.size_drew]; omega) | (simp only [World.size_drew, World.size_alloc]; omega)) (by first | omega | (simp only [World.size_alloc]; omega) | (simp only [World.size_drew]; omega) | (simp only [World.size_drew, World.size_alloc]; omega)))
      have R1 := Lib.hid (rd_carry R1.out hk (by first | omega | (simp only [World.size_alloc]; omega) | (simp only [World.size_drew]; omega) | (simp only [World.size_drew, World.size_alloc]; omega)) (by first | omega | (simp only [World.size_alloc]; omega) | (simp only [World.size_drew]; omega) | (simp only [World.size_drew, World.size_alloc]; omega)))
      have P0 := Lib.hid (wh_carry P0.out hk (by first | omega | (simp only [World.size_alloc]; omega) | (simp only [World.size_drew]; omega) | (simp only [World.size_drew, World.size_alloc]; omega)))
      have P1 := Lib.hid (wh_carry P1.out hk (by first | omega | (simp only [World.size_alloc]; omega) | (simp only [World.size_drew]; omega) | (simp only [World.size_drew, World.size_alloc]; omega)))
      have Cx0 := Lib.hid (rd_carry Cx0.out hk (by first | omega | (simp only [World.size_alloc]; omega) | (simp only [World.size_drew]; omega) | (simp only [World.size_drew, World.size_alloc]; omega)) (by first | omega | (simp only [World.size_alloc]; omega) | (simp only [World.size_drew]; omega) | (simp only [World.size_drew, World.size_alloc]; omega)))
      have Ox0 := Lib.hid (ows_carry Ox0.out Gx0.out hk (by first | omega | (simp only [World.size_alloc]; omega) | (simp only [World.size_drew]; omega) | (simp only [World.size_drew, World.size_alloc]; omega)))
      have Xx0 := Lib.hid (wh_carry Xx0.out hk (by first | omega | (simp only [World.size_alloc]; omega) | (simp only [World.size_drew]; omega) | (simp only [World.size_drew, World.size_alloc]; omega)))
      clear hk hb p10 p11 p12 p1l
      have Cx1 := Lib.hid hr
      have Gx1 := Lib.hid hrg
      have Ox1 := Lib.hid ho
      have Dx1 := Lib.hid hnd
      clear hr hrg ho hnd
      have hk := Keep.alloc w7 (.cells #[.int .i64 x1.kind_, .string x1.name_, .slice Bx1 x1.args_.length dx1] 26)
      have h7' := h7.alloc h7.size (.cells #[.int .i64 x1.kind_, .string x1.name_, .slice Bx1 x1.args_.length dx1] 26)
      have R0 := Lib.hid (rd_carry R0.out hk (by first | omega | (simp only [World.size_alloc]; omega) | (simp only [World.size_drew]; omega) | (simp only [World.size_drew, World.size_alloc]; omega)) (by first | omega | (simp only [World.size_alloc]; omega) | (simp only [World.size_drew]; omega) | (simp only [World.size_drew, World.size_alloc]; omega)))
      have R1 := Lib.hid (rd_carry R1.out hk (by first | omega | (simp only [World.size_alloc]; omega) | (simp only [World.size_drew]; omega) | (simp only [World.size_drew, World.size_alloc]; omega)) (by first | omega | (simp only [World.size_alloc]; omega) | (simp only [World.size_drew]; omega) | (simp only [World.size_drew, World.size_alloc]; omega)))
      have P0 := Lib.hid (wh_carry P0.out hk (by first | omega | (simp only [World.size_alloc]; omega) | (simp only [World.size_drew]; omega) | (simp only [World.size_drew, World.size_alloc]; omega)))
      have P1 := Lib.hid (wh_carry P1.out hk (by first | omega | (simp only [World.size_alloc]; omega) | (simp only [World.size_drew]; omega) | (simp only [World.size_drew, World.size_alloc]; omega)))
      have Cx0 := Lib.hid (rd_carry Cx0.out hk (by first | omega | (simp only [World.size_alloc]; omega) | (simp only [World.size_drew]; omega) | (simp only [World.size_drew, World.size_alloc]; omega)) (by first | omega | (simp only [World.size_alloc]; omega) | (simp only [World.size_drew]; omega) | (simp only [World.size_drew, World.size_alloc]; omega)))
      have Ox0 := Lib.hid (ows_carry Ox0.out Gx0.out hk (by first | omega | (simp only [World.size_alloc]; omega) | (simp only [World.size_drew]; omega) | (simp only [World.size_drew, World.size_alloc]; omega)))
      have Xx0 := Lib.hid (wh_carry Xx0.out hk (by first | omega | (simp only [World.size_alloc]; omega) | (simp only [World.size_drew]; omega) | (simp only [World.size_drew, World.size_alloc]; omega)))
      have Cx1 := Lib.hid (rd_carry Cx1.out hk (by first | omega | (simp only [World.size_alloc]; omega) | (simp only [World.size_drew]; omega) | (simp only [World.size_drew, World.size_alloc]; omega)) (by first | omega | (simp only [World.size_alloc]; omega) | (simp only [World.size_drew]; omega) | (simp only [World.size_drew, World.size_alloc]; omega)))
      have Ox1 := Lib.hid (ows_carry Ox1.out Gx1.out hk (by first | omega | (simp only [World.size_alloc]; omega) | (simp only [World.size_drew]; omega) | (simp only [World.size_drew, World.size_alloc]; omega)))
      have Xx1 := Lib.hid (Whole.new w7 26 #[.int .i64 x1.kind_, .string x1.name_, .slice Bx1 x1.args_.length dx1])
      clear hk
      obtain ⟨xx00, xx01, xx02⟩ := cells3 Xx0.out
      have xx0l := Xx0.out.lt
      obtain ⟨xx10, xx11, xx12⟩ := cells3 Xx1.out
      have xx1l := Xx1.out.lt
      go_wp2_with fail
      refine (HY.out ▸ implAlpha x0 x1 Bx0 Bx1 dx0 dx1 _ (HPW.out.below h7') (by have := TypeX.size_wt x0; omega) (by have := TypeX.size_wt x1; omega) (rd_und Cx0.out (by first | omega | (simp only [World.size_alloc]; omega) | (simp only [World.size_drew]; omega) | (simp only [World.size_drew, World.size_alloc]; omega))) (rd_und Cx1.out (by first | omega | (simp only [World.size_alloc]; omega) | (simp only [World.size_drew]; omega) | (simp only [World.size_drew, World.size_alloc]; omega)))).mono ?_
      rintro e w8 ⟨rfl, hb⟩
      have hk := Keep.below hb
      have h8 : Below w.heap.size w w8 := h7'.trans (hb.mono h7'.size)
      have s8 := hk.size
      simp only [World.size_alloc] at s8
      have R0 := Lib.hid (rd_carry R0.out hk (by first | omega | (simp only [World.size_alloc]; omega) | (simp only [World.size_drew]; omega) | (simp only [World.size_drew, World.size_alloc]; omega)) (by first | omega | (simp only [World.size_alloc]; omega) | (simp only [World.size_drew]; omega) | (simp only [World.size_drew, World.size_alloc]; omega)))
      have R1 := Lib.hid (rd_carry R1.out hk (by first | omega | (simp only [World.size_alloc]; omega) | (simp only [World.size_drew]; omega) | (simp only [World.size_drew, World.size_alloc]; omega)) (by first | omega | (simp only [World.size_alloc]; omega) | (simp only [World.size_drew]; omega) | (simp only [World.size_drew, World.size_alloc]; omega)))
      have P0 := Lib.hid (wh_carry P0.out hk (by first | omega | (simp only [World.size_alloc]; omega) | (simp only [World.size_drew]; omega) | (simp only [World.size_drew, World.size_alloc]; omega)))
      have P1 := Lib.hid (wh_carry P1.out hk (by first | omega | (simp only [World.size_alloc]; omega) | (simp only [World.size_drew]; omega) | (simp only [World.size_drew, World.size_alloc]; omega)))
      have Cx0 := Lib.hid (rd_carry Cx0.out hk (by first | omega | (simp only [World.size_alloc]; omega) | (simp only [World.size_drew]; omega) | (simp only [World.size_drew, World.size_alloc]; omega)) (by first | omega | (simp only [World.size_alloc]; omega) | (simp only [World.size_drew]; omega) | (simp only [World.size_drew, World.size_alloc]; omega)))
      have Ox0 := Lib.hid (ows_carry Ox0.out Gx0.out hk (by first | omega | (simp only [World.size_alloc]; omega) | (simp only [World.size_drew]; omega) | (simp only [World.size_drew, World.size_alloc]; omega)))
      have Xx0 := Lib.hid (wh_carry Xx0.out hk (by first | omega | (simp only [World.size_alloc]; omega) | (simp only [World.size_drew]; omega) | (simp only [World.size_drew, World.size_alloc]; omega)))
      have Cx1 := Lib.hid (rd_carry Cx1.out hk (by first | omega | (simp only [World.size_alloc]; omega) | (simp only [World.size_drew]; omega) | (simp only [World.size_drew, World.size_alloc]; omega)) (by first | omega | (simp only [World.size_alloc]; omega) | (simp only [World.size_drew]; omega) | (simp only [World.size_drew, World.size_alloc]; omega)))
      have Ox1 := Lib.hid (ows_carry Ox1.out Gx1.out hk (by first | omega | (simp only [World.size_alloc]; omega) | (simp only [World.size_drew]; omega) | (simp only [World.size_drew, World.size_alloc]; omega)))
      have Xx1 := Lib.hid (wh_carry Xx1.out hk (by first | omega | (simp only [World.size_alloc]; omega) | (simp only [World.size_drew]; omega) | (simp only [World.size_drew, World.size_alloc]; omega)))
      clear hk hb xx00 xx01 xx02 xx0l xx10 xx11 xx12 xx1l
      go_upto_region 14 with (fail)
      obtain ⟨p00, p01, p02⟩ := cells3 P0.out
      have p0l := P0.out.lt
      obtain ⟨xx00, xx01, xx02⟩ := cells3 Xx0.out
      have xx0l := Xx0.out.lt
      have hk := Keep.below ((Below.refl _ w8).drew)
      have h8d := h8.drew
      have R0 := Lib.hid (rd_carry R0.out hk (by first | omega | (simp only [World.size_alloc]; omega) | (simp only [World.size_drew]; omega) | (simp only [World.size_drew, World.size_alloc]; omega)) (by first | omega | (simp only [World.size_alloc]; omega) | (simp only [World.size_drew]; omega) | (simp only [World.size_drew, World.size_alloc]; omega)))
      have R1 := Lib.hid (rd_carry R1.out hk (by first | omega | (simp only [World.size_alloc]; omega) | (simp only [World.size_drew]; omega) | (simp only [World.size_drew, World.size_alloc]; omega)) (by first | omega | (simp only [World.size_alloc]; omega) | (simp only [World.size_drew]; omega) | (simp only [World.size_drew, World.size_alloc]; omega)))
      have P0 := Lib.hid (wh_carry P0.out hk (by first | omega | (simp only [World.size_alloc]; omega) | (simp only [World.size_drew]; omega) | (simp only [World.size_drew, World.size_alloc]; omega)))
      have P1 := Lib.hid (wh_carry P1.out hk (by first | omega | (simp only [World.size_alloc]; omega) | (simp only [World.size_drew]; omega) | (simp only [World.size_drew, World.size_alloc]; omega)))
      have Cx0 := Lib.hid (rd_carry Cx0.out hk (by first | omega | (simp only [World.size_alloc]; omega) | (simp only [World.size_drew]; omega) | (simp only [World.size_drew, World.size_alloc]; omega)) (by first | omega | (simp only [World.size_alloc]; omega) | (simp only [World.size_drew]; omega) | (simp only [World.size_drew, World.size_alloc]; omega)))
      have Ox0 := Lib.hid (ows_carry Ox0.out Gx0.out hk (by first | omega | (simp only [World.size_alloc]; omega) | (simp only [World.size_drew]; omega) | (simp only [World.size_drew, World.size_alloc]; omega)))
      have Xx0 := Lib.hid (wh_carry Xx0.out hk (by first | omega | (simp only [World.size_alloc]; omega) | (simp only [World.size_drew]; omega) | (simp only [World.size_drew, World.size_alloc]; omega)))
      have Cx1 := Lib.hid (rd_carry Cx1.out hk (by first | omega | (simp only [World.size_alloc]; omega) | (simp only [World.size_drew]; omega) | (simp only [World.size_drew, World.size_alloc]; omega)) (by first | omega | (simp only [World.size_alloc]; omega) | (simp only [World.size_drew]; omega) | (simp only [World.size_drew, World.size_alloc]; omega)))
      have Ox1 := Lib.hid (ows_carry Ox1.out Gx1.out hk (by first | omega | (simp only [World.size_alloc]; omega) | (simp only [World.size_drew]; omega) | (simp only [World.size_drew, World.size_alloc]; omega)))
      have Xx1 := Lib.hid (wh_carry Xx1.out hk (by first | omega | (simp only [World.size_alloc]; omega) | (simp only [World.size_drew]; omega) | (simp only [World.size_drew, World.size_alloc]; omega)))
      clear hk
      go_region_held3 (fun w' => w'.cell? ⟨w.heap.size, 0, none⟩ = some (.int .i64 x0.kind_) ∧ w'.cell? ⟨w.heap.size, 1, none⟩ = some (.string x0.name_) ∧ w'.cell? ⟨w.heap.size, 2, none⟩ = some (.slice A0 x0.args_.length c0) ∧ w'.cell? ⟨w6.heap.size, 0, none⟩ = some (.int .i64 x0.kind_) ∧ w'.cell? ⟨w6.heap.size, 1, none⟩ = some (.string x0.name_) ∧ w'.cell? ⟨w6.heap.size, 2, none⟩ = some (.slice Bx0 x0.args_.length dx0))
        (first
          | go_keep
          | exact (⟨(cells3 P0.out).1, (cells3 P0.out).2.1, (cells3 P0.out).2.2, cells3 Xx0.out⟩))
        (first
          | (go_at_call 27
             refine (toType x0 _ _ hww0 ⟨_, _, rfl, rd_und R0.out (by first | omega | (simp only [World.size_alloc]; omega) | (simp only [World.size_drew]; omega) | (simp only [World.size_drew, World.size_alloc]; omega))⟩).mono ?_
             intro e w9 hm
             obtain ⟨Bu0, du0, bsu0, rfl, ho, hnd, hr, hrg, hb⟩ := madeV_get hm
             simp only [World.size_drew] at ho hr hrg
             clear hm
             have hk := Keep.below hb
             have h9 : Below w.heap.size w w9 := h8d.trans (hb.mono h8d.size)
             have s9 := hk.size
             simp only [World.size_drew] at s9
             have R0 := Lib.hid (rd_carry R0.out hk (by first | omega | (simp only [World.size_alloc]; omega) | (simp only [World.size_drew]; omega) | (simp only [World.size_drew, World.size_alloc]; omega)) (by first | omega | (simp only [World.size_alloc]; omega) | (simp only [World.size_drew]; omega) | (simp only [World.size_drew, World.size_alloc]; omega)))
             have R1 := Lib.hid (rd_carry R1.out hk (by first | omega | (simp only [World.size_alloc]; omega) | (simp only [World.size_drew]; omega) | (simp only [World.size_drew, World.size_alloc]; omega)) (by first | omega | (simp only [World.size_alloc]; omega) | (simp only [World.size_drew]; omega) | (simp only [World.size_drew, World.size_alloc]; omega)))
             have P0 := Lib.hid (wh_carry P0.out hk (by first | omega | (simp only [World.size_alloc]; omega) | (simp only [World.size_drew]; omega) | (simp only [World.size_drew, World.size_alloc]; omega)))
             have P1 := Lib.hid (wh_carry P1.out hk (by first | omega | (simp only [World.size_alloc]; omega) | (simp only [World.size_drew]; omega) | (simp only [World.size_drew, World.size_alloc]; omega)))
             have Cx0 := Lib.hid (rd_carry Cx0.out hk (by first | omega | (simp only [World.size_alloc]; omega) | (simp only [World.size_drew]; omega) | (simp only [World.size_drew, World.size_alloc]; omega)) (by first | omega | (simp only [World.size_alloc]; omega) | (simp only [World.size_drew]; omega) | (simp only [World.size_drew, World.size_alloc]; omega)))
             have Ox0 := Lib.hid (ows_carry Ox0.out Gx0.out hk (by first | omega | (simp only [World.size_alloc]; omega) | (simp only [World.size_drew]; omega) | (simp only [World.size_drew, World.size_alloc]; omega)))
             have Xx0 := Lib.hid (wh_carry Xx0.out hk (by first | omega | (simp only [World.size_alloc]; omega) | (simp only [World.size_drew]; omega) | (simp only [World.size_drew, World.size_alloc]; omega)))
             have Cx1 := Lib.hid (rd_carry Cx1.out hk (by first | omega | (simp only [World.size_alloc]; omega) | (simp only [World.size_drew]; omega) | (simp only [World.size_drew, World.size_alloc]; omega)) (by first | omega | (simp only [World.size_alloc]; omega) | (simp only [World.size_drew]; omega) | (simp only [World.size_drew, World.size_alloc]; omega)))
             have Ox1 := Lib.hid (ows_carry Ox1.out Gx1.out hk (by first | omega | (simp only [World.size_alloc]; omega) | (simp only [World.size_drew]; omega) | (simp only [World.size_drew, World.size_alloc]; omega)))
             have Xx1 := Lib.hid (wh_carry Xx1.out hk (by first | omega | (simp only [World.size_alloc]; omega) | (simp only [World.size_drew]; omega) | (simp only [World.size_drew, World.size_alloc]; omega)))
             clear hk hb
             have Cu0 := Lib.hid hr
             clear hr hrg ho hnd)
          | (go_at_call 28
             refine (eqType x0 _ _ _ ⟨_, _, rfl, rd_und Cx0.out (by first | omega | (simp only [World.size_alloc]; omega) | (simp only [World.size_drew]; omega) | (simp only [World.size_drew, World.size_alloc]; omega))⟩ ⟨_, _, rfl, rd_und Cu0.out (by first | omega | (simp only [World.size_alloc]; omega) | (simp only [World.size_drew]; omega) | (simp only [World.size_drew, World.size_alloc]; omega))⟩).mono ?_
             rintro e w10 ⟨rfl, hb⟩
             have hk := Keep.below hb
             have h10 : Below w.heap.size w w10 := h9.trans (hb.mono h9.size)
             have s10 := hk.size
             have R0 := Lib.hid (rd_carry R0.out hk (by first | omega | (simp only [World.size_alloc]; omega) | (simp only [World.size_drew]; omega) | (simp only [World.size_drew, World.size_alloc]; omega)) (by first | omega | (simp only [World.size_alloc]; omega) | (simp only [World.size_drew]; omega) | (simp only [World.size_drew, World.size_alloc]; omega)))
             have R1 := Lib.hid (rd_carry R1.out hk (by first | omega | (simp only [World.size_alloc]; omega) | (simp only [World.size_drew]; omega) | (simp only [World.size_drew, World.size_alloc]; omega)) (by first | omega | (simp only [World.size_alloc]; omega) | (simp only [World.size_drew]; omega) | (simp only [World.size_drew, World.size_alloc]; omega)))
             have P0 := Lib.hid (wh_carry P0.out hk (by first | omega | (simp only [World.size_alloc]; omega) | (simp only [World.size_drew]; omega) | (simp only [World.size_drew, World.size_alloc]; omega)))
             have P1 := Lib.hid (wh_carry P1.out hk (by first | omega | (simp only [World.size_alloc]; omega) | (simp only [World.size_drew]; omega) | (simp only [World.size_drew, World.size_alloc]; omega)))
             have Cx0 := Lib.hid (rd_carry Cx0.out hk (by first | omega | (simp only [World.size_alloc]; omega) | (simp only [World.size_drew]; omega) | (simp only [World.size_drew, World.size_alloc]; omega)) (by first | omega | (simp only [World.size_alloc]; omega) | (simp only [World.size_drew]; omega) | (simp only [World.size_drew, World.size_alloc]; omega)))
             have Ox0 := Lib.hid (ows_carry Ox0.out Gx0.out hk (by first | omega | (simp only [World.size_alloc]; omega) | (simp only [World.size_drew]; omega) | (simp only [World.size_drew, World.size_alloc]; omega)))
             have Xx0 := Lib.hid (wh_carry Xx0.out hk (by first | omega | (simp only [World.size_alloc]; omega) | (simp only [World.size_drew]; omega) | (simp only [World.size_drew, World.size_alloc]; omega)))
             have Cx1 := Lib.hid (rd_carry Cx1.out hk (by first | omega | (simp only [World.size_alloc]; omega) | (simp only [World.size_drew]; omega) | (simp only [World.size_drew, World.size_alloc]; omega)) (by first | omega | (simp only [World.size_alloc]; omega) | (simp only [World.size_drew]; omega) | (simp only [World.size_drew, World.size_alloc]; omega)))
             have Ox1 := Lib.hid (ows_carry Ox1.out Gx1.out hk (by first | omega | (simp only [World.size_alloc]; omega) | (simp only [World.size_drew]; omega) | (simp only [World.size_drew, World.size_alloc]; omega)))
             have Xx1 := Lib.hid (wh_carry Xx1.out hk (by first | omega | (simp only [World.size_alloc]; omega) | (simp only [World.size_drew]; omega) | (simp only [World.size_drew, World.size_alloc]; omega)))
             have Cu0 := Lib.hid (rd_carry Cu0.out hk (by first | omega | (simp only [World.size_alloc]; omega) | (simp only [World.size_drew]; omega) | (simp only [World.size_drew, World.size_alloc]; omega)) (by first | omega | (simp only [World.size_alloc]; omega) | (simp only [World.size_drew]; omega) | (simp only [World.size_drew, World.size_alloc]; omega)))
             clear hk hb))
      clear p00 p01 p02 p0l xx00 xx01 xx02 xx0l
      go_upto_region 16 with (fail)
      obtain ⟨p10, p11, p12⟩ := cells3 P1.out
      have p1l := P1.out.lt
      obtain ⟨xx10, xx11, xx12⟩ := cells3 Xx1.out
      have xx1l := Xx1.out.lt
      have hk := Keep.below ((Below.refl _ w10).drew)
      have h10d := h10.drew
      have R0 := Lib.hid (rd_carry R0.out hk (by first | omega | (simp only [World.size_alloc]; omega) | (simp only [World.size_drew]; omega) | (simp only [World.size_drew, World.size_alloc]; omega)) (by first | omega | (simp only [World.size_alloc]; omega) | (simp only [World.size_drew]; omega) | (simp only [World.size_drew, World.size_alloc]; omega)))
      have R1 := Lib.hid (rd_carry R1.out hk (by first | omega | (simp only [World.size_alloc]; omega) | (simp only [World.size_drew]; omega) | (simp only [World.size_drew, World.size_alloc]; omega)) (by first | omega | (simp only [World.size_alloc]; omega) | (simp only [World.size_drew]; omega) | (simp only [World.size_drew, World.size_alloc]; omega)))
      have P0 := Lib.hid (wh_carry P0.out hk (by first | omega | (simp only [World.size_alloc]; omega) | (simp only [World.size_drew]; omega) | (simp only [World.size_drew, World.size_alloc]; omega)))
      have P1 := Lib.hid (wh_carry P1.out hk (by first | omega | (simp only [World.size_alloc]; omega) | (simp only [World.size_drew]; omega) | (simp only [World.size_drew, World.size_alloc]; omega)))
      have Cx0 := Lib.hid (rd_carry Cx0.out hk (by first | omega | (simp only [World.size_alloc]; omega) | (simp only [World.size_drew]; omega) | (simp only [World.size_drew, World.size_alloc]; omega)) (by first | omega | (simp only [World.size_alloc]; omega) | (simp only [World.size_drew]; omega) | (simp only [World.size_drew, World.size_alloc]; omega)))
      have Ox0 := Lib.hid (ows_carry Ox0.out Gx0.out hk (by first | omega | (simp only [World.size_alloc]; omega) | (simp only [World.size_drew]; omega) | (simp only [World.size_drew, World.size_alloc]; omega)))
      have Xx0 := Lib.hid (wh_carry Xx0.out hk (by first | omega | (simp only [World.size_alloc]; omega) | (simp only [World.size_drew]; omega) | (simp only [World.size_drew, World.size_alloc]; omega)))
      have Cx1 := Lib.hid (rd_carry Cx1.out hk (by first | omega | (simp only [World.size_alloc]; omega) | (simp only [World.size_drew]; omega) | (simp only [World.size_drew, World.size_alloc]; omega)) (by first | omega | (simp only [World.size_alloc]; omega) | (simp only [World.size_drew]; omega) | (simp only [World.size_drew, World.size_alloc]; omega)))
      have Ox1 := Lib.hid (ows_carry Ox1.out Gx1.out hk (by first | omega | (simp only [World.size_alloc]; omega) | (simp only [World.size_drew]; omega) | (simp only [World.size_drew, World.size_alloc]; omega)))
      have Xx1 := Lib.hid (wh_carry Xx1.out hk (by first | omega | (simp only [World.size_alloc]; omega) | (simp only [World.size_drew]; omega) | (simp only [World.size_drew, World.size_alloc]; omega)))
      clear hk
      go_region_held3 (fun w' => w'.cell? ⟨w.heap.size + 1, 0, none⟩ = some (.int .i64 x1.kind_) ∧ w'.cell? ⟨w.heap.size + 1, 1, none⟩ = some (.string x1.name_) ∧ w'.cell? ⟨w.heap.size + 1, 2, none⟩ = some (.slice A1 x1.args_.length c1) ∧ w'.cell? ⟨w7.heap.size, 0, none⟩ = some (.int .i64 x1.kind_) ∧ w'.cell? ⟨w7.heap.size, 1, none⟩ = some (.string x1.name_) ∧ w'.cell? ⟨w7.heap.size, 2, none⟩ = some (.slice Bx1 x1.args_.length dx1))
        (first
          | go_keep
          | exact (⟨(cells3 P1.out).1, (cells3 P1.out).2.1, (cells3 P1.out).2.2, cells3 Xx1.out⟩))
        (first
          | (go_at_call 27
             refine (toType x1 _ _ hww1 ⟨_, _, rfl, rd_und R1.out (by first | omega | (simp only [World.size_alloc]; omega) | (simp only [World.size_drew]; omega) | (simp only [World.size_drew, World.size_alloc]; omega))⟩).mono ?_
             intro e w11 hm
             obtain ⟨Bu1, du1, bsu1, rfl, ho, hnd, hr, hrg, hb⟩ := madeV_get hm
             simp only [World.size_drew] at ho hr hrg
             clear hm
             have hk := Keep.below hb
             have h11 : Below w.heap.size w w11 := h10d.trans (hb.mono h10d.size)
             have s11 := hk.size
             simp only [World.size_drew] at s11
             have R0 := Lib.hid (rd_carry R0.out hk (by first | omega | (simp only [World.size_alloc]; omega) | (simp only [World.size_drew]; omega) | (simp only [World.size_drew, World.size_alloc]; omega)) (by first | omega | (simp only [World.size_alloc]; omega) | (simp only [World.size_drew]; omega) | (simp only [World.size_drew, World.size_alloc]; omega)))
             have R1 := Lib.hid (rd_carry R1.out hk (by first | omega | (simp only [World.size_alloc]; omega) | (simp only [World.size_drew]; omega) | (simp only [World.size_drew, World.size_alloc]; omega)) (by first | omega | (simp only [World.size_alloc]; omega) | (simp only [World.size_drew]; omega) | (simp only [World.size_drew, World.size_alloc]; omega)))
             have P0 := Lib.hid (wh_carry P0.out hk (by first | omega | (simp only [World.size_alloc]; omega) | (simp only [World.size_drew]; omega) | (simp only [World.size_drew, World.size_alloc]; omega)))
             have P1 := Lib.hid (wh_carry P1.out hk (by first | omega | (simp only [World.size_alloc]; omega) | (simp only [World.size_drew]; omega) | (simp only [World.size_drew, World.size_alloc]; omega)))
             have Cx0 := Lib.hid (rd_carry Cx0.out hk (by first | omega | (simp only [World.size_alloc]; omega) | (simp only [World.size_drew]; omega) | (simp only [World.size_drew, World.size_alloc]; omega)) (by first | omega | (simp only [World.size_alloc]; omega) | (simp only [World.size_drew]; omega) | (simp only [World.size_drew, World.size_alloc]; omega)))
             have Ox0 := Lib.hid (ows_carry Ox0.out Gx0.out hk (by first | omega | (simp only [World.size_alloc]; omega) | (simp only [World.size_drew]; omega) | (simp only [World.size_drew, World.size_alloc]; omega)))
             have Xx0 := Lib.hid (wh_carry Xx0.out hk (by first | omega | (simp only [World.size_alloc]; omega) | (simp only [World.size_drew]; omega) | (simp only [World.size_drew, World.size_alloc]; omega)))
             have Cx1 := Lib.hid (rd_carry Cx1.out hk (by first | omega | (simp only [World.size_alloc]; omega) | (simp only [World.size_drew]; omega) | (simp only [World.size_drew, World.size_alloc]; omega)) (by first | omega | (simp only [World.size_alloc]; omega) | (simp only [World.size_drew]; omega) | (simp only [World.size_drew, World.size_alloc]; omega)))
             have Ox1 := Lib.hid (ows_carry Ox1.out Gx1.out hk (by first | omega | (simp only [World.size_alloc]; omega) | (simp only [World.size_drew]; omega) | (simp only [World.size_drew, World.size_alloc]; omega)))
             have Xx1 := Lib.hid (wh_carry Xx1.out hk (by first | omega | (simp only [World.size_alloc]; omega) | (simp only [World.size_drew]; omega) | (simp only [World.size_drew, World.size_alloc]; omega)))
             clear hk hb
             have Cu1 := Lib.hid hr
             clear hr hrg ho hnd)
          | (go_at_call 28
             refine (eqType x1 _ _ _ ⟨_, _, rfl, rd_und Cx1.out (by first | omega | (simp only [World.size_alloc]; omega) | (simp only [World.size_drew]; omega) | (simp only [World.size_drew, World.size_alloc]; omega))⟩ ⟨_, _, rfl, rd_und Cu1.out (by first | omega | (simp only [World.size_alloc]; omega) | (simp only [World.size_drew]; omega) | (simp only [World.size_drew, World.size_alloc]; omega))⟩).mono ?_
             rintro e w12 ⟨rfl, hb⟩
             have hk := Keep.below hb
             have h12 : Below w.heap.size w w12 := h11.trans (hb.mono h11.size)
             have s12 := hk.size
             have R0 := Lib.hid (rd_carry R0.out hk (by first | omega | (simp only [World.size_alloc]; omega) | (simp only [World.size_drew]; omega) | (simp only [World.size_drew, World.size_alloc]; omega)) (by first | omega | (simp only [World.size_alloc]; omega) | (simp only [World.size_drew]; omega) | (simp only [World.size_drew, World.size_alloc]; omega)))
             have R1 := Lib.hid (rd_carry R1.out hk (by first | omega | (simp only [World.size_alloc]; omega) | (simp only [World.size_drew]; omega) | (simp only [World.size_drew, World.size_alloc]; omega)) (by first | omega | (simp only [World.size_alloc]; omega) | (simp only [World.size_drew]; omega) | (simp only [World.size_drew, World.size_alloc]; omega)))
             have P0 := Lib.hid (wh_carry P0.out hk (by first | omega | (simp only [World.size_alloc]; omega) | (simp only [World.size_drew]; omega) | (simp only [World.size_drew, World.size_alloc]; omega)))
             have P1 := Lib.hid (wh_carry P1.out hk (by first | omega | (simp only [World.size_alloc]; omega) | (simp only [World.size_drew]; omega) | (simp only [World.size_drew, World.size_alloc]; omega)))
             have Cx0 := Lib.hid (rd_carry Cx0.out hk (by first | omega | (simp only [World.size_alloc]; omega) | (simp only [World.size_drew]; omega) | (simp only [World.size_drew, World.size_alloc]; omega)) (by first | omega | (simp only [World.size_alloc]; omega) | (simp only [World.size_drew]; omega) | (simp only [World.size_drew, World.size_alloc]; omega)))
             have Ox0 := Lib.hid (ows_carry Ox0.out Gx0.out hk (by first | omega | (simp only [World.size_alloc]; omega) | (simp only [World.size_drew]; omega) | (simp only [World.size_drew, World.size_alloc]; omega)))
             have Xx0 := Lib.hid (wh_carry Xx0.out hk (by first | omega | (simp only [World.size_alloc]; omega) | (simp only [World.size_drew]; omega) | (simp only [World.size_drew, World.size_alloc]; omega)))
             have Cx1 := Lib.hid (rd_carry Cx1.out hk (by first | omega | (simp only [World.size_alloc]; omega) | (simp only [World.size_drew]; omega) | (simp only [World.size_drew, World.size_alloc]; omega)) (by first | omega | (simp only [World.size_alloc]; omega) | (simp only [World.size_drew]; omega) | (simp only [World.size_drew, World.size_alloc]; omega)))
             have Ox1 := Lib.hid (ows_carry Ox1.out Gx1.out hk (by first | omega | (simp only [World.size_alloc]; omega) | (simp only [World.size_drew]; omega) | (simp only [World.size_drew, World.size_alloc]; omega)))
             have Xx1 := Lib.hid (wh_carry Xx1.out hk (by first | omega | (simp only [World.size_alloc]; omega) | (simp only [World.size_drew]; omega) | (simp only [World.size_drew, World.size_alloc]; omega)))
             have Cu1 := Lib.hid (rd_carry Cu1.out hk (by first | omega | (simp only [World.size_alloc]; omega) | (simp only [World.size_drew]; omega) | (simp only [World.size_drew, World.size_alloc]; omega)) (by first | omega | (simp only [World.size_alloc]; omega) | (simp only [World.size_drew]; omega) | (simp only [World.size_drew, World.size_alloc]; omega)))
             clear hk hb))
      clear p10 p11 p12 p1l xx10 xx11 xx12 xx1l
      go_wp2
      go_ret
      exact ⟨rfl, h12⟩
end Go.Proofs.YtngbilblddngcaaDoor
