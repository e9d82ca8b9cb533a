/- The law of Match. -/
import Derived.Test.YtkiofeiinecpiaaZLawK
import Derived.Test.YtkiofeiinecpiaaZSpMatchM
import Derived.Test.YtkiofeiinecpiaaZLawK2
import Derived.Test.YtkiofeiinecpiaaZLawM
namespace Go.Proofs.Ytkiofeiinecpiaa
open Go.RowKit Go.Lib

set_option maxRecDepth 100000 in
set_option maxHeartbeats 8000000 in
theorem lawMatch (x0 : TypeX) (A0 : Option Addr) (c0 : Nat) (x1 : TypeX) (A1 : Option Addr) (c1 : Nat) (w : World) (hok0 : DV.okL x0.cells) (hv0 : TypeRow w (Und w.heap.size) A0 c0 x0.args_) (hok1 : DV.okL x1.cells) (hv1 : TypeRow w (Und w.heap.size) A1 c1 x1.args_) :
    Calls Try.prog 5 #[.agg #[.int .i64 x0.kind_, .string x0.name_, .slice A0 x0.args_.length c0], .agg #[.int .i64 x1.kind_, .string x1.name_, .slice A1 x1.args_.length c1]] w fun e w' => e = .returned (.bool true) ∧ Below w.heap.size w w' := by
  have R0 := Lib.hid (rd_bet hv0)
  have OK0 := Lib.hid hok0
  have R1 := Lib.hid (rd_bet hv1)
  have OK1 := Lib.hid hok1
  clear hv0 hok0 hv1 hok1
  have h0 : Below w.heap.size w w := Below.refl _ _
  by_cases hw0 : DV.wtL x0.cells ≤ 1048576
  case neg =>
    have HF := Lib.hid (leftV_no (L := 1048576) (n := DV.wtL x0.cells) (by first | omega | (simp only [World.size_alloc]; omega) | (simp only [World.size_drew]; omega) | (simp only [World.size_drew, World.size_alloc]; omega)))
    have hk := Keep.alloc w (.cells #[.int .i64 x0.kind_, .string x0.name_, .slice A0 x0.args_.length c0] 44)
    have h0' := h0.alloc h0.size (.cells #[.int .i64 x0.kind_, .string x0.name_, .slice A0 x0.args_.length c0] 44)
    have R0 := Lib.hid (rd_carry R0.out hk (by first | omega | (simp only [World.size_alloc]; omega) | (simp only [World.size_drew]; omega) | (simp only [World.size_drew, World.size_alloc]; omega)) (by first | omega | (simp only [World.size_alloc]; omega) | (simp only [World.size_drew]; omega) | (simp only [World.size_drew, World.size_alloc]; omega)))
    have R1 := Lib.hid (rd_carry R1.out hk (by first | omega | (simp only [World.size_alloc]; omega) | (simp only [World.size_drew]; omega) | (simp only [World.size_drew, World.size_alloc]; omega)) (by first | omega | (simp only [World.size_alloc]; omega) | (simp only [World.size_drew]; omega) | (simp only [World.size_drew, World.size_alloc]; omega)))
    have P0 := Lib.hid (Whole.new w 44 #[.int .i64 x0.kind_, .string x0.name_, .slice A0 x0.args_.length c0])
    clear hk
    have hk := Keep.alloc (w.alloc (.cells #[.int .i64 x0.kind_, .string x0.name_, .slice A0 x0.args_.length c0] 44)) (.cells #[.int .i64 x1.kind_, .string x1.name_, .slice A1 x1.args_.length c1] 44)
    have h0'' := h0'.alloc h0'.size (.cells #[.int .i64 x1.kind_, .string x1.name_, .slice A1 x1.args_.length c1] 44)
    have R0 := Lib.hid (rd_carry R0.out hk (by first | omega | (simp only [World.size_alloc]; omega) | (simp only [World.size_drew]; omega) | (simp only [World.size_drew, World.size_alloc]; omega)) (by first | omega | (simp only [World.size_alloc]; omega) | (simp only [World.size_drew]; omega) | (simp only [World.size_drew, World.size_alloc]; omega)))
    have R1 := Lib.hid (rd_carry R1.out hk (by first | omega | (simp only [World.size_alloc]; omega) | (simp only [World.size_drew]; omega) | (simp only [World.size_drew, World.size_alloc]; omega)) (by first | omega | (simp only [World.size_alloc]; omega) | (simp only [World.size_drew]; omega) | (simp only [World.size_drew, World.size_alloc]; omega)))
    have P0 := Lib.hid (wh_carry P0.out hk (by first | omega | (simp only [World.size_alloc]; omega) | (simp only [World.size_drew]; omega) | (simp only [World.size_drew, World.size_alloc]; omega)))
    have P1 := Lib.hid (show Whole ((w.alloc (.cells #[.int .i64 x0.kind_, .string x0.name_, .slice A0 x0.args_.length c0] 44)).alloc (.cells #[.int .i64 x1.kind_, .string x1.name_, .slice A1 x1.args_.length c1] 44)) (w.heap.size + 1) 44 #[.int .i64 x1.kind_, .string x1.name_, .slice A1 x1.args_.length c1] from by have h := Whole.new (w.alloc (.cells #[.int .i64 x0.kind_, .string x0.name_, .slice A0 x0.args_.length c0] 44)) 44 #[.int .i64 x1.kind_, .string x1.name_, .slice A1 x1.args_.length c1]; simp only [World.size_alloc] at h; exact h)
    clear hk
    go_enter Try.func5, Try.ntmps5
    obtain ⟨p00, p01, p02⟩ := cells3 P0.out
    have p0l := P0.out.lt
    go_wp2_with fail
    refine (szType x0 _ 1048576 _ OK0.out ⟨_, _, rfl, rd_und R0.out (by first | omega | (simp only [World.size_alloc]; omega) | (simp only [World.size_drew]; omega) | (simp only [World.size_drew, World.size_alloc]; omega))⟩ (by decide)).mono ?_
    rw [HF.out]
    rintro e w1 ⟨rfl, hb⟩
    have hk := Keep.below hb
    have h1 : Below w.heap.size w w1 := h0''.trans (hb.mono h0''.size)
    have s1 := hk.size
    simp only [World.size_alloc] at s1
    have R0 := Lib.hid (rd_carry R0.out hk (by first | omega | (simp only [World.size_alloc]; omega) | (simp only [World.size_drew]; omega) | (simp only [World.size_drew, World.size_alloc]; omega)) (by first | omega | (simp only [World.size_alloc]; omega) | (simp only [World.size_drew]; omega) | (simp only [World.size_drew, World.size_alloc]; omega)))
    have R1 := Lib.hid (rd_carry R1.out hk (by first | omega | (simp only [World.size_alloc]; omega) | (simp only [World.size_drew]; omega) | (simp only [World.size_drew, World.size_alloc]; omega)) (by first | omega | (simp only [World.size_alloc]; omega) | (simp only [World.size_drew]; omega) | (simp only [World.size_drew, World.size_alloc]; omega)))
    have P0 := Lib.hid (wh_carry P0.out hk (by first | omega | (simp only [World.size_alloc]; omega) | (simp only [World.size_drew]; omega) | (simp only [World.size_drew, World.size_alloc]; omega)))
    have P1 := Lib.hid (wh_carry P1.out hk (by first | omega | (simp only [World.size_alloc]; omega) | (simp only [World.size_drew]; omega) | (simp only [World.size_drew, World.size_alloc]; omega)))
    clear hk hb p00 p01 p02 p0l
    go_wp2
    go_ret
    exact ⟨rfl, h1⟩
  case pos =>
    obtain ⟨L1, hL1, hl1⟩ : ∃ L : Nat, leftV 1048576 (DV.wtL x0.cells) = (L : Nat) ∧ L ≤ 1048576 := ⟨1048576 - DV.wtL x0.cells, by rw [leftV_yes hw0]; omega, by omega⟩
    have HL1 := Lib.hid hL1
    have hnn1 : ¬ (L1 : Int) < 0 := by omega
    have hww0 : DV.wtL x0.cells ≤ 1048576 := by omega
    clear hL1
    by_cases hw1 : DV.wtL x1.cells ≤ L1
    case neg =>
      have HF := Lib.hid (leftV_no (L := L1) (n := DV.wtL x1.cells) (by first | omega | (simp only [World.size_alloc]; omega) | (simp only [World.size_drew]; omega) | (simp only [World.size_drew, World.size_alloc]; omega)))
      have hk := Keep.alloc w (.cells #[.int .i64 x0.kind_, .string x0.name_, .slice A0 x0.args_.length c0] 44)
      have h0' := h0.alloc h0.size (.cells #[.int .i64 x0.kind_, .string x0.name_, .slice A0 x0.args_.length c0] 44)
      have R0 := Lib.hid (rd_carry R0.out hk (by first | omega | (simp only [World.size_alloc]; omega) | (simp only [World.size_drew]; omega) | (simp only [World.size_drew, World.size_alloc]; omega)) (by first | omega | (simp only [World.size_alloc]; omega) | (simp only [World.size_drew]; omega) | (simp only [World.size_drew, World.size_alloc]; omega)))
      have R1 := Lib.hid (rd_carry R1.out hk (by first | omega | (simp only [World.size_alloc]; omega) | (simp only [World.size_drew]; omega) | (simp only [World.size_drew, World.size_alloc]; omega)) (by first | omega | (simp only [World.size_alloc]; omega) | (simp only [World.size_drew]; omega) | (simp only [World.size_drew, World.size_alloc]; omega)))
      have P0 := Lib.hid (Whole.new w 44 #[.int .i64 x0.kind_, .string x0.name_, .slice A0 x0.args_.length c0])
      clear hk
      have hk := Keep.alloc (w.alloc (.cells #[.int .i64 x0.kind_, .string x0.name_, .slice A0 x0.args_.length c0] 44)) (.cells #[.int .i64 x1.kind_, .string x1.name_, .slice A1 x1.args_.length c1] 44)
      have h0'' := h0'.alloc h0'.size (.cells #[.int .i64 x1.kind_, .string x1.name_, .slice A1 x1.args_.length c1] 44)
      have R0 := Lib.hid (rd_carry R0.out hk (by first | omega | (simp only [World.size_alloc]; omega) | (simp only [World.size_drew]; omega) | (simp only [World.size_drew, World.size_alloc]; omega)) (by first | omega | (simp only [World.size_alloc]; omega) | (simp only [World.size_drew]; omega) | (simp only [World.size_drew, World.size_alloc]; omega)))
      have R1 := Lib.hid (rd_carry R1.out hk (by first | omega | (simp only [World.size_alloc]; omega) | (simp only [World.size_drew]; omega) | (simp only [World.size_drew, World.size_alloc]; omega)) (by first | omega | (simp only [World.size_alloc]; omega) | (simp only [World.size_drew]; omega) | (simp only [World.size_drew, World.size_alloc]; omega)))
      have P0 := Lib.hid (wh_carry P0.out hk (by first | omega | (simp only [World.size_alloc]; omega) | (simp only [World.size_drew]; omega) | (simp only [World.size_drew, World.size_alloc]; omega)))
      have P1 := Lib.hid (show Whole ((w.alloc (.cells #[.int .i64 x0.kind_, .string x0.name_, .slice A0 x0.args_.length c0] 44)).alloc (.cells #[.int .i64 x1.kind_, .string x1.name_, .slice A1 x1.args_.length c1] 44)) (w.heap.size + 1) 44 #[.int .i64 x1.kind_, .string x1.name_, .slice A1 x1.args_.length c1] from by have h := Whole.new (w.alloc (.cells #[.int .i64 x0.kind_, .string x0.name_, .slice A0 x0.args_.length c0] 44)) 44 #[.int .i64 x1.kind_, .string x1.name_, .slice A1 x1.args_.length c1]; simp only [World.size_alloc] at h; exact h)
      clear hk
      go_enter Try.func5, Try.ntmps5
      obtain ⟨p00, p01, p02⟩ := cells3 P0.out
      have p0l := P0.out.lt
      go_wp2_with fail
      refine (szType x0 _ 1048576 _ OK0.out ⟨_, _, rfl, rd_und R0.out (by first | omega | (simp only [World.size_alloc]; omega) | (simp only [World.size_drew]; omega) | (simp only [World.size_drew, World.size_alloc]; omega))⟩ (by decide)).mono ?_
      rw [HL1.out]
      rintro e w1 ⟨rfl, hb⟩
      have hk := Keep.below hb
      have h1 : Below w.heap.size w w1 := h0''.trans (hb.mono h0''.size)
      have s1 := hk.size
      simp only [World.size_alloc] at s1
      have R0 := Lib.hid (rd_carry R0.out hk (by first | omega | (simp only [World.size_alloc]; omega) | (simp only [World.size_drew]; omega) | (simp only [World.size_drew, World.size_alloc]; omega)) (by first | omega | (simp only [World.size_alloc]; omega) | (simp only [World.size_drew]; omega) | (simp only [World.size_drew, World.size_alloc]; omega)))
      have R1 := Lib.hid (rd_carry R1.out hk (by first | omega | (simp only [World.size_alloc]; omega) | (simp only [World.size_drew]; omega) | (simp only [World.size_drew, World.size_alloc]; omega)) (by first | omega | (simp only [World.size_alloc]; omega) | (simp only [World.size_drew]; omega) | (simp only [World.size_drew, World.size_alloc]; omega)))
      have P0 := Lib.hid (wh_carry P0.out hk (by first | omega | (simp only [World.size_alloc]; omega) | (simp only [World.size_drew]; omega) | (simp only [World.size_drew, World.size_alloc]; omega)))
      have P1 := Lib.hid (wh_carry P1.out hk (by first | omega | (simp only [World.size_alloc]; omega) | (simp only [World.size_drew]; omega) | (simp only [World.size_drew, World.size_alloc]; omega)))
      clear hk hb p00 p01 p02 p0l
      obtain ⟨p10, p11, p12⟩ := cells3 P1.out
      have p1l := P1.out.lt
      go_wp2_with fail
      refine (szType x1 _ L1 _ OK1.out ⟨_, _, rfl, rd_und R1.out (by first | omega | (simp only [World.size_alloc]; omega) | (simp only [World.size_drew]; omega) | (simp only [World.size_drew, World.size_alloc]; omega))⟩ hl1).mono ?_
      rw [HF.out]
      rintro e w2 ⟨rfl, hb⟩
      have hk := Keep.below hb
      have h2 : Below w.heap.size w w2 := h1.trans (hb.mono h1.size)
      have s2 := hk.size
      have R0 := Lib.hid (rd_carry R0.out hk (by first | omega | (simp only [World.size_alloc]; omega) | (simp only [World.size_drew]; omega) | (simp only [World.size_drew, World.size_alloc]; omega)) (by first | omega | (simp only [World.size_alloc]; omega) | (simp only [World.size_drew]; omega) | (simp only [World.size_drew, World.size_alloc]; omega)))
      have R1 := Lib.hid (rd_carry R1.out hk (by first | omega | (simp only [World.size_alloc]; omega) | (simp only [World.size_drew]; omega) | (simp only [World.size_drew, World.size_alloc]; omega)) (by first | omega | (simp only [World.size_alloc]; omega) | (simp only [World.size_drew]; omega) | (simp only [World.size_drew, World.size_alloc]; omega)))
      have P0 := Lib.hid (wh_carry P0.out hk (by first | omega | (simp only [World.size_alloc]; omega) | (simp only [World.size_drew]; omega) | (simp only [World.size_drew, World.size_alloc]; omega)))
      have P1 := Lib.hid (wh_carry P1.out hk (by first | omega | (simp only [World.size_alloc]; omega) | (simp only [World.size_drew]; omega) | (simp only [World.size_drew, World.size_alloc]; omega)))
      clear hk hb p10 p11 p12 p1l
      go_wp2
      go_ret
      exact ⟨rfl, h2⟩
    case pos =>
      obtain ⟨L2, hL2, hl2⟩ : ∃ L : Nat, leftV L1 (DV.wtL x1.cells) = (L : Nat) ∧ L ≤ 1048576 := ⟨L1 - DV.wtL x1.cells, by rw [leftV_yes hw1]; omega, by omega⟩
      have HL2 := Lib.hid hL2
      have hnn2 : ¬ (L2 : Int) < 0 := by omega
      have hww1 : DV.wtL x1.cells ≤ 1048576 := by omega
      clear hL2
      obtain ⟨y, hy⟩ : ∃ y, y = (x0.mat x1 []).getD [] := ⟨_, rfl⟩
      have HRL := Lib.hid (BindingX.rows_length y)
      obtain ⟨b, hbb⟩ : ∃ b, b = (x0.mat x1 []).isSome := ⟨_, rfl⟩
      have HBB := Lib.hid hbb
      have HY := Lib.hid hy
      have hcnt : 1 + DV.cntE (BindingX.rows y) ≤ 4398046511104 := by rw [hy]; exact cnt_mat hww0 hww1
      clear hy hbb
      have hk := Keep.alloc w (.cells #[.int .i64 x0.kind_, .string x0.name_, .slice A0 x0.args_.length c0] 44)
      have h0' := h0.alloc h0.size (.cells #[.int .i64 x0.kind_, .string x0.name_, .slice A0 x0.args_.length c0] 44)
      have R0 := Lib.hid (rd_carry R0.out hk (by first | omega | (simp only [World.size_alloc]; omega) | (simp only [World.size_drew]; omega) | (simp only [World.size_drew, World.size_alloc]; omega)) (by first | omega | (simp only [World.size_alloc]; omega) | (simp only [World.size_drew]; omega) | (simp only [World.size_drew, World.size_alloc]; omega)))
      have R1 := Lib.hid (rd_carry R1.out hk (by first | omega | (simp only [World.size_alloc]; omega) | (simp only [World.size_drew]; omega) | (simp only [World.size_drew, World.size_alloc]; omega)) (by first | omega | (simp only [World.size_alloc]; omega) | (simp only [World.size_drew]; omega) | (simp only [World.size_drew, World.size_alloc]; omega)))
      have P0 := Lib.hid (Whole.new w 44 #[.int .i64 x0.kind_, .string x0.name_, .slice A0 x0.args_.length c0])
      clear hk
      have hk := Keep.alloc (w.alloc (.cells #[.int .i64 x0.kind_, .string x0.name_, .slice A0 x0.args_.length c0] 44)) (.cells #[.int .i64 x1.kind_, .string x1.name_, .slice A1 x1.args_.length c1] 44)
      have h0'' := h0'.alloc h0'.size (.cells #[.int .i64 x1.kind_, .string x1.name_, .slice A1 x1.args_.length c1] 44)
      have R0 := Lib.hid (rd_carry R0.out hk (by first | omega | (simp only [World.size_alloc]; omega) | (simp only [World.size_drew]; omega) | (simp only [World.size_drew, World.size_alloc]; omega)) (by first | omega | (simp only [World.size_alloc]; omega) | (simp only [World.size_drew]; omega) | (simp only [World.size_drew, World.size_alloc]; omega)))
      have R1 := Lib.hid (rd_carry R1.out hk (by first | omega | (simp only [World.size_alloc]; omega) | (simp only [World.size_drew]; omega) | (simp only [World.size_drew, World.size_alloc]; omega)) (by first | omega | (simp only [World.size_alloc]; omega) | (simp only [World.size_drew]; omega) | (simp only [World.size_drew, World.size_alloc]; omega)))
      have P0 := Lib.hid (wh_carry P0.out hk (by first | omega | (simp only [World.size_alloc]; omega) | (simp only [World.size_drew]; omega) | (simp only [World.size_drew, World.size_alloc]; omega)))
      have P1 := Lib.hid (show Whole ((w.alloc (.cells #[.int .i64 x0.kind_, .string x0.name_, .slice A0 x0.args_.length c0] 44)).alloc (.cells #[.int .i64 x1.kind_, .string x1.name_, .slice A1 x1.args_.length c1] 44)) (w.heap.size + 1) 44 #[.int .i64 x1.kind_, .string x1.name_, .slice A1 x1.args_.length c1] from by have h := Whole.new (w.alloc (.cells #[.int .i64 x0.kind_, .string x0.name_, .slice A0 x0.args_.length c0] 44)) 44 #[.int .i64 x1.kind_, .string x1.name_, .slice A1 x1.args_.length c1]; simp only [World.size_alloc] at h; exact h)
      clear hk
      go_enter Try.func5, Try.ntmps5
      obtain ⟨p00, p01, p02⟩ := cells3 P0.out
      have p0l := P0.out.lt
      go_wp2_with fail
      refine (szType x0 _ 1048576 _ OK0.out ⟨_, _, rfl, rd_und R0.out (by first | omega | (simp only [World.size_alloc]; omega) | (simp only [World.size_drew]; omega) | (simp only [World.size_drew, World.size_alloc]; omega))⟩ (by decide)).mono ?_
      rw [HL1.out]
      rintro e w1 ⟨rfl, hb⟩
      have hk := Keep.below hb
      have h1 : Below w.heap.size w w1 := h0''.trans (hb.mono h0''.size)
      have s1 := hk.size
      simp only [World.size_alloc] at s1
      have R0 := Lib.hid (rd_carry R0.out hk (by first | omega | (simp only [World.size_alloc]; omega) | (simp only [World.size_drew]; omega) | (simp only [World.size_drew, World.size_alloc]; omega)) (by first | omega | (simp only [World.size_alloc]; omega) | (simp only [World.size_drew]; omega) | (simp only [World.size_drew, World.size_alloc]; omega)))
      have R1 := Lib.hid (rd_carry R1.out hk (by first | omega | (simp only [World.size_alloc]; omega) | (simp only [World.size_drew]; omega) | (simp only [World.size_drew, World.size_alloc]; omega)) (by first | omega | (simp only [World.size_alloc]; omega) | (simp only [World.size_drew]; omega) | (simp only [World.size_drew, World.size_alloc]; omega)))
      have P0 := Lib.hid (wh_carry P0.out hk (by first | omega | (simp only [World.size_alloc]; omega) | (simp only [World.size_drew]; omega) | (simp only [World.size_drew, World.size_alloc]; omega)))
      have P1 := Lib.hid (wh_carry P1.out hk (by first | omega | (simp only [World.size_alloc]; omega) | (simp only [World.size_drew]; omega) | (simp only [World.size_drew, World.size_alloc]; omega)))
      clear hk hb p00 p01 p02 p0l
      obtain ⟨p10, p11, p12⟩ := cells3 P1.out
      have p1l := P1.out.lt
      go_wp2_with fail
      refine (szType x1 _ L1 _ OK1.out ⟨_, _, rfl, rd_und R1.out (by first | omega | (simp only [World.size_alloc]; omega) | (simp only [World.size_drew]; omega) | (simp only [World.size_drew, World.size_alloc]; omega))⟩ hl1).mono ?_
      rw [HL2.out]
      rintro e w2 ⟨rfl, hb⟩
      have hk := Keep.below hb
      have h2 : Below w.heap.size w w2 := h1.trans (hb.mono h1.size)
      have s2 := hk.size
      have R0 := Lib.hid (rd_carry R0.out hk (by first | omega | (simp only [World.size_alloc]; omega) | (simp only [World.size_drew]; omega) | (simp only [World.size_drew, World.size_alloc]; omega)) (by first | omega | (simp only [World.size_alloc]; omega) | (simp only [World.size_drew]; omega) | (simp only [World.size_drew, World.size_alloc]; omega)))
      have R1 := Lib.hid (rd_carry R1.out hk (by first | omega | (simp only [World.size_alloc]; omega) | (simp only [World.size_drew]; omega) | (simp only [World.size_drew, World.size_alloc]; omega)) (by first | omega | (simp only [World.size_alloc]; omega) | (simp only [World.size_drew]; omega) | (simp only [World.size_drew, World.size_alloc]; omega)))
      have P0 := Lib.hid (wh_carry P0.out hk (by first | omega | (simp only [World.size_alloc]; omega) | (simp only [World.size_drew]; omega) | (simp only [World.size_drew, World.size_alloc]; omega)))
      have P1 := Lib.hid (wh_carry P1.out hk (by first | omega | (simp only [World.size_alloc]; omega) | (simp only [World.size_drew]; omega) | (simp only [World.size_drew, World.size_alloc]; omega)))
      clear hk hb p10 p11 p12 p1l
      go_upto_region 8 with (fail)
      obtain ⟨p00, p01, p02⟩ := cells3 P0.out
      have p0l := P0.out.lt
      obtain ⟨p10, p11, p12⟩ := cells3 P1.out
      have p1l := P1.out.lt
      have hk := Keep.below ((Below.refl _ w2).drew)
      have h2d := h2.drew
      have R0 := Lib.hid (rd_carry R0.out hk (by first | omega | (simp only [World.size_alloc]; omega) | (simp only [World.size_drew]; omega) | (simp only [World.size_drew, World.size_alloc]; omega)) (by first | omega | (simp only [World.size_alloc]; omega) | (simp only [World.size_drew]; omega) | (simp only [World.size_drew, World.size_alloc]; omega)))
      have R1 := Lib.hid (rd_carry R1.out hk (by first | omega | (simp only [World.size_alloc]; omega) | (simp only [World.size_drew]; omega) | (simp only [World.size_drew, World.size_alloc]; omega)) (by first | omega | (simp only [World.size_alloc]; omega) | (simp only [World.size_drew]; omega) | (simp only [World.size_drew, World.size_alloc]; omega)))
      have P0 := Lib.hid (wh_carry P0.out hk (by first | omega | (simp only [World.size_alloc]; omega) | (simp only [World.size_drew]; omega) | (simp only [World.size_drew, World.size_alloc]; omega)))
      have P1 := Lib.hid (wh_carry P1.out hk (by first | omega | (simp only [World.size_alloc]; omega) | (simp only [World.size_drew]; omega) | (simp only [World.size_drew, World.size_alloc]; omega)))
      clear hk
      go_region_held3 (fun w' => w'.cell? ⟨w.heap.size, 0, none⟩ = some (.int .i64 x0.kind_) ∧ w'.cell? ⟨w.heap.size, 1, none⟩ = some (.string x0.name_) ∧ w'.cell? ⟨w.heap.size, 2, none⟩ = some (.slice A0 x0.args_.length c0) ∧ w'.cell? ⟨w.heap.size + 1, 0, none⟩ = some (.int .i64 x1.kind_) ∧ w'.cell? ⟨w.heap.size + 1, 1, none⟩ = some (.string x1.name_) ∧ w'.cell? ⟨w.heap.size + 1, 2, none⟩ = some (.slice A1 x1.args_.length c1))
        (first
          | go_keep
          | exact (⟨(cells3 P0.out).1, (cells3 P0.out).2.1, (cells3 P0.out).2.2, (cells3 P1.out)⟩))
        (first
          | (go_at_call_of 30 (Value.agg #[.int .i64 x0.kind_, .string x0.name_, .slice A0 x0.args_.length c0])
             refine (toType x0 _ _ hww0 ⟨_, _, rfl, rd_und R0.out (by first | omega | (simp only [World.size_alloc]; omega) | (simp only [World.size_drew]; omega) | (simp only [World.size_drew, World.size_alloc]; omega))⟩).mono ?_
             intro e w3 hm
             obtain ⟨Ba0, da0, bsa0, rfl, ho, hnd, hr, hrg, hb⟩ := madeV_get hm
             simp only [World.size_drew] at ho hr hrg
             clear hm
             have hk := Keep.below hb
             have h3 : Below w.heap.size w w3 := h2d.trans (hb.mono h2d.size)
             have s3 := hk.size
             simp only [World.size_drew] at s3
             have R0 := Lib.hid (rd_carry R0.out hk (by first | omega | (simp only [World.size_alloc]; omega) | (simp only [World.size_drew]; omega) | (simp only [World.size_drew, World.size_alloc]; omega)) (by first | omega | (simp only [World.size_alloc]; omega) | (simp only [World.size_drew]; omega) | (simp only [World.size_drew, World.size_alloc]; omega)))
             have R1 := Lib.hid (rd_carry R1.out hk (by first | omega | (simp only [World.size_alloc]; omega) | (simp only [World.size_drew]; omega) | (simp only [World.size_drew, World.size_alloc]; omega)) (by first | omega | (simp only [World.size_alloc]; omega) | (simp only [World.size_drew]; omega) | (simp only [World.size_drew, World.size_alloc]; omega)))
             have P0 := Lib.hid (wh_carry P0.out hk (by first | omega | (simp only [World.size_alloc]; omega) | (simp only [World.size_drew]; omega) | (simp only [World.size_drew, World.size_alloc]; omega)))
             have P1 := Lib.hid (wh_carry P1.out hk (by first | omega | (simp only [World.size_alloc]; omega) | (simp only [World.size_drew]; omega) | (simp only [World.size_drew, World.size_alloc]; omega)))
             clear hk hb
             have Ca0 := Lib.hid hr
             clear hr hrg ho hnd)
          | (go_at_call_of 30 (Value.agg #[.int .i64 x1.kind_, .string x1.name_, .slice A1 x1.args_.length c1])
             refine (toType x1 _ _ hww1 ⟨_, _, rfl, rd_und R1.out (by first | omega | (simp only [World.size_alloc]; omega) | (simp only [World.size_drew]; omega) | (simp only [World.size_drew, World.size_alloc]; omega))⟩).mono ?_
             intro e w4 hm
             obtain ⟨Ba1, da1, bsa1, rfl, ho, hnd, hr, hrg, hb⟩ := madeV_get hm
             clear hm
             have hk := Keep.below hb
             have h4 : Below w.heap.size w w4 := h3.trans (hb.mono h3.size)
             have s4 := hk.size
             have R0 := Lib.hid (rd_carry R0.out hk (by first | omega | (simp only [World.size_alloc]; omega) | (simp only [World.size_drew]; omega) | (simp only [World.size_drew, World.size_alloc]; omega)) (by first | omega | (simp only [World.size_alloc]; omega) | (simp only [World.size_drew]; omega) | (simp only [World.size_drew, World.size_alloc]; omega)))
             have R1 := Lib.hid (rd_carry R1.out hk (by first | omega | (simp only [World.size_alloc]; omega) | (simp only [World.size_drew]; omega) | (simp only [World.size_drew, World.size_alloc]; omega)) (by first | omega | (simp only [World.size_alloc]; omega) | (simp only [World.size_drew]; omega) | (simp only [World.size_drew, World.size_alloc]; omega)))
             have P0 := Lib.hid (wh_carry P0.out hk (by first | omega | (simp only [World.size_alloc]; omega) | (simp only [World.size_drew]; omega) | (simp only [World.size_drew, World.size_alloc]; omega)))
             have P1 := Lib.hid (wh_carry P1.out hk (by first | omega | (simp only [World.size_alloc]; omega) | (simp only [World.size_drew]; omega) | (simp only [World.size_drew, World.size_alloc]; omega)))
             have Ca0 := Lib.hid (rd_carry Ca0.out hk (by first | omega | (simp only [World.size_alloc]; omega) | (simp only [World.size_drew]; omega) | (simp only [World.size_drew, World.size_alloc]; omega)) (by first | omega | (simp only [World.size_alloc]; omega) | (simp only [World.size_drew]; omega) | (simp only [World.size_drew, World.size_alloc]; omega)))
             clear hk hb
             have Ca1 := Lib.hid hr
             clear hr hrg ho hnd)
          | (go_at_call 18
             refine (HBB.out ▸ HY.out ▸ specMatch x0 x1 Ba0 Ba1 da0 da1 _ (by have := TypeX.size_wt x0; omega) (by have := TypeX.size_wt x1; omega) (rd_und Ca0.out (by first | omega | (simp only [World.size_alloc]; omega) | (simp only [World.size_drew]; omega) | (simp only [World.size_drew, World.size_alloc]; omega))) (rd_und Ca1.out (by first | omega | (simp only [World.size_alloc]; omega) | (simp only [World.size_drew]; omega) | (simp only [World.size_drew, World.size_alloc]; omega)))).mono ?_
             intro e w5 hm
             obtain ⟨BW, dW, bsW, rfl, ho, hnd, hr, hrg, hb⟩ := madeBs_get HRL.out hm
             clear hm
             have hk := Keep.below hb
             have h5 : Below w.heap.size w w5 := h4.trans (hb.mono h4.size)
             have s5 := hk.size
             have R0 := Lib.hid (rd_carry R0.out hk (by first | omega | (simp only [World.size_alloc]; omega) | (simp only [World.size_drew]; omega) | (simp only [World.size_drew, World.size_alloc]; omega)) (by first | omega | (simp only [World.size_alloc]; omega) | (simp only [World.size_drew]; omega) | (simp only [World.size_drew, World.size_alloc]; omega)))
             have R1 := Lib.hid (rd_carry R1.out hk (by first | omega | (simp only [World.size_alloc]; omega) | (simp only [World.size_drew]; omega) | (simp only [World.size_drew, World.size_alloc]; omega)) (by first | omega | (simp only [World.size_alloc]; omega) | (simp only [World.size_drew]; omega) | (simp only [World.size_drew, World.size_alloc]; omega)))
             have P0 := Lib.hid (wh_carry P0.out hk (by first | omega | (simp only [World.size_alloc]; omega) | (simp only [World.size_drew]; omega) | (simp only [World.size_drew, World.size_alloc]; omega)))
             have P1 := Lib.hid (wh_carry P1.out hk (by first | omega | (simp only [World.size_alloc]; omega) | (simp only [World.size_drew]; omega) | (simp only [World.size_drew, World.size_alloc]; omega)))
             have Ca0 := Lib.hid (rd_carry Ca0.out hk (by first | omega | (simp only [World.size_alloc]; omega) | (simp only [World.size_drew]; omega) | (simp only [World.size_drew, World.size_alloc]; omega)) (by first | omega | (simp only [World.size_alloc]; omega) | (simp only [World.size_drew]; omega) | (simp only [World.size_drew, World.size_alloc]; omega)))
             have Ca1 := Lib.hid (rd_carry Ca1.out hk (by first | omega | (simp only [World.size_alloc]; omega) | (simp only [World.size_drew]; omega) | (simp only [World.size_drew, World.size_alloc]; omega)) (by first | omega | (simp only [World.size_alloc]; omega) | (simp only [World.size_drew]; omega) | (simp only [World.size_drew, World.size_alloc]; omega)))
             clear hk hb
             have CW := Lib.hid hr
             clear hr hrg ho hnd))
      clear p00 p01 p02 p0l p10 p11 p12 p1l
      obtain ⟨p00, p01, p02⟩ := cells3 P0.out
      have p0l := P0.out.lt
      go_wp2_with fail
      refine (toType x0 _ _ hww0 ⟨_, _, rfl, rd_und R0.out (by first | omega | (simp only [World.size_alloc]; omega) | (simp only [World.size_drew]; omega) | (simp only [World.size_drew, World.size_alloc]; omega))⟩).mono ?_
      intro e w6 hm
      obtain ⟨Bx0, dx0, bsx0, rfl, ho, hnd, hr, hrg, hb⟩ := madeV_get hm
      clear hm
      have hk := Keep.below hb
      have h6 : Below w.heap.size w w6 := h5.trans (hb.mono h5.size)
      have s6 := hk.size
      have R0 := Lib.hid (rd_carry R0.out hk (by first | omega | (simp only [World.size_alloc]; omega) | (simp only [World.size_drew]; omega) | (simp only [World.size_drew, World.size_alloc]; omega)) (by first | omega | (simp only [World.size_alloc]; omega) | (simp only [World.size_drew]; omega) | (simp only [World.size_drew, World.size_alloc]; omega)))
      have R1 := Lib.hid (rd_carry R1.out hk (by first | omega | (simp only [World.size_alloc]; omega) | (simp only [World.size_drew]; omega) | (simp only [World.size_drew, World.size_alloc]; omega)) (by first | omega | (simp only [World.size_alloc]; omega) | (simp only [World.size_drew]; omega) | (simp only [World.size_drew, World.size_alloc]; omega)))
      have P0 := Lib.hid (wh_carry P0.out hk (by first | omega | (simp only [World.size_alloc]; omega) | (simp only [World.size_drew]; omega) | (simp only [World.size_drew, World.size_alloc]; omega)))
      have P1 := Lib.hid (wh_carry P1.out hk (by first | omega | (simp only [World.size_alloc]; omega) | (simp only [World.size_drew]; omega) | (simp only [World.size_drew, World.size_alloc]; omega)))
      have CW := Lib.hid (rd_carry CW.out hk (by first | omega | (simp only [World.size_alloc]; omega) | (simp only [World.size_drew]; omega) | (simp only [World.size_drew, World.size_alloc]; omega)) (by first | omega | (simp only [World.size_alloc]; omega) | (simp only [World.size_drew]; omega) | (simp only [World.size_drew, World.size_alloc]; omega)))
      clear hk hb p00 p01 p02 p0l
      have Cx0 := Lib.hid hr
      have Gx0 := Lib.hid hrg
      have Ox0 := Lib.hid ho
      have Dx0 := Lib.hid hnd
      clear hr hrg ho hnd
      have hk := Keep.alloc w6 (.cells #[.int .i64 x0.kind_, .string x0.name_, .slice Bx0 x0.args_.length dx0] 26)
      have h6' := h6.alloc h6.size (.cells #[.int .i64 x0.kind_, .string x0.name_, .slice Bx0 x0.args_.length dx0] 26)
      have R0 := Lib.hid (rd_carry R0.out hk (by first | omega | (simp only [World.size_alloc]; omega) | (simp only [World.size_drew]; omega) | (simp only [World.size_drew, World.size_alloc]; omega)) (by first | omega | (simp only [World.size_alloc]; omega) | (simp only [World.size_drew]; omega) | (simp only [World.size_drew, World.size_alloc]; omega)))
      have R1 := Lib.hid (rd_carry R1.out hk (by first | omega | (simp only [World.size_alloc]; omega) | (simp only [World.size_drew]; omega) | (simp only [World.size_drew, World.size_alloc]; omega)) (by first | omega | (simp only [World.size_alloc]; omega) | (simp only [World.size_drew]; omega) | (simp only [World.size_drew, World.size_alloc]; omega)))
      have P0 := Lib.hid (wh_carry P0.out hk (by first | omega | (simp only [World.size_alloc]; omega) | (simp only [World.size_drew]; omega) | (simp only [World.size_drew, World.size_alloc]; omega)))
      have P1 := Lib.hid (wh_carry P1.out hk (by first | omega | (simp only [World.size_alloc]; omega) | (simp only [World.size_drew]; omega) | (simp only [World.size_drew, World.size_alloc]; omega)))
      have CW := Lib.hid (rd_carry CW.out hk (by first | omega | (simp only [World.size_alloc]; omega) | (simp only [World.size_drew]; omega) | (simp only [World.size_drew, World.size_alloc]; omega)) (by first | omega | (simp only [World.size_alloc]; omega) | (simp only [World.size_drew]; omega) | (simp only [World.size_drew, World.size_alloc]; omega)))
      have Cx0 := Lib.hid (rd_carry Cx0.out hk (by first | omega | (simp only [World.size_alloc]; omega) | (simp only [World.size_drew]; omega) | (simp only [World.size_drew, World.size_alloc]; omega)) (by first | omega | (simp only [World.size_alloc]; omega) | (simp only [World.size_drew]; omega) | (simp only [World.size_drew, World.size_alloc]; omega)))
      have Ox0 := Lib.hid (ows_carry Ox0.out Gx0.out hk (by first | omega | (simp only [World.size_alloc]; omega) | (simp only [World.size_drew]; omega) | (simp only [World.size_drew, World.size_alloc]; omega)))
      have Xx0 := Lib.hid (Whole.new w6 26 #[.int .i64 x0.kind_, .string x0.name_, .slice Bx0 x0.args_.length dx0])
      clear hk
      obtain ⟨p10, p11, p12⟩ := cells3 P1.out
      have p1l := P1.out.lt
      go_wp2_with fail
      refine (toType x1 _ _ hww1 ⟨_, _, rfl, rd_und R1.out (by first | omega | (simp only [World.size_alloc]; omega) | (simp only [World.size_drew]; omega) | (simp only [World.size_drew, World.size_alloc]; omega))⟩).mono ?_
      intro e w7 hm
      obtain ⟨Bx1, dx1, bsx1, rfl, ho, hnd, hr, hrg, hb⟩ := madeV_get hm
      simp only [World.size_alloc] at ho hr hrg
      clear hm
      have hk := Keep.below hb
      have h7 : Below w.heap.size w w7 := h6'.trans (hb.mono h6'.size)
      have s7 := hk.size
      simp only [World.size_alloc] at s7
      have R0 := Lib.hid (rd_carry R0.out hk (by first | omega | (simp only [World.size_alloc]; omega) | (simp only [World.size_drew]; omega) | (simp only [World.size_drew, World.size_alloc]; omega)) (by first | omega | (simp only [World.size_alloc]; omega) | (simp only [World.size_drew]; omega) | (simp only [World.size_drew, World.size_alloc]; omega)))
      have R1 := Lib.hid (rd_carry R1.out hk (by first | omega | (simp only [World.size_alloc]; omega) | (simp only [World.size_drew]; omega) | (simp only [World.size_drew, World.size_alloc]; omega)) (by first | omega | (simp only [World.size_alloc]; omega) | (simp only [World.size_drew]; omega) | (simp only [World.size_drew, World.size_alloc]; omega)))
      have P0 := Lib.hid (wh_carry P0.out hk (by first | omega | (simp only [World.size_alloc]; omega) | (simp only [World.size_drew]; omega) | (simp only [World.size_drew, World.size_alloc]; omega)))
      have P1 := Lib.hid (wh_carry P1.out hk (by first | omega | (simp only [World.size_alloc]; omega) | (simp only [World.size_drew]; omega) | (simp only [World.size_drew, World.size_alloc]; omega)))
      have CW := Lib.hid (rd_carry CW.out hk (by first | omega | (simp only [World.size_alloc]; omega) | (simp only [World.size_drew]; omega) | (simp only [World.size_drew, World.size_alloc]; omega)) (by first | omega | (simp only [World.size_alloc]; omega) | (simp only [World.size_drew]; omega) | (simp only [World.size_drew, World.size_alloc]; omega)))
      have Cx0 := Lib.hid (rd_carry Cx0.out hk (by first | omega | (simp only [World.size_alloc]; omega) | (simp only [World.size_drew]; omega) | (simp only [World.size_drew, World.size_alloc]; omega)) (by first | omega | (simp only [World.size_alloc]; omega) | (simp only [World.size_drew]; omega) | (simp only [World.size_drew, World.size_alloc]; omega)))
      have Ox0 := Lib.hid (ows_carry Ox0.out Gx0.out hk (by first | omega | (simp only [World.size_alloc]; omega) | (simp only [World.size_drew]; omega) | (simp only [World.size_drew, World.size_alloc]; omega)))
      have Xx0 := Lib.hid (wh_carry Xx0.out hk (by first | omega | (simp only [World.size_alloc]; omega) | (simp only [World.size_drew]; omega) | (simp only [World.size_drew, World.size_alloc]; omega)))
      clear hk hb p10 p11 p12 p1l
      have Cx1 := Lib.hid hr
      have Gx1 := Lib.hid hrg
      have Ox1 := Lib.hid ho
      have Dx1 := Lib.hid hnd
      clear hr hrg ho hnd
      have hk := Keep.alloc w7 (.cells #[.int .i64 x1.kind_, .string x1.name_, .slice Bx1 x1.args_.length dx1] 26)
      have h7' := h7.alloc h7.size (.cells #[.int .i64 x1.kind_, .string x1.name_, .slice Bx1 x1.args_.length dx1] 26)
      have R0 := Lib.hid (rd_carry R0.out hk (by first | omega | (simp only [World.size_alloc]; omega) | (simp only [World.size_drew]; omega) | (simp only [World.size_drew, World.size_alloc]; omega)) (by first | omega | (simp only [World.size_alloc]; omega) | (simp only [World.size_drew]; omega) | (simp only [World.size_drew, World.size_alloc]; omega)))
      have R1 := Lib.hid (rd_carry R1.out hk (by first | omega | (simp only [World.size_alloc]; omega) | (simp only [World.size_drew]; omega) | (simp only [World.size_drew, World.size_alloc]; omega)) (by first | omega | (simp only [World.size_alloc]; omega) | (simp only [World.size_drew]; omega) | (simp only [World.size_drew, World.size_alloc]; omega)))
      have P0 := Lib.hid (wh_carry P0.out hk (by first | omega | (simp only [World.size_alloc]; omega) | (simp only [World.size_drew]; omega) | (simp only [World.size_drew, World.size_alloc]; omega)))
      have P1 := Lib.hid (wh_carry P1.out hk (by first | omega | (simp only [World.size_alloc]; omega) | (simp only [World.size_drew]; omega) | (simp only [World.size_drew, World.size_alloc]; omega)))
      have CW := Lib.hid (rd_carry CW.out hk (by first | omega | (simp only [World.size_alloc]; omega) | (simp only [World.size_drew]; omega) | (simp only [World.size_drew, World.size_alloc]; omega)) (by first | omega | (simp only [World.size_alloc]; omega) | (simp only [World.size_drew]; omega) | (simp only [World.size_drew, World.size_alloc]; omega)))
      have Cx0 := Lib.hid (rd_carry Cx0.out hk (by first | omega | (simp only [World.size_alloc]; omega) | (simp only [World.size_drew]; omega) | (simp only [World.size_drew, World.size_alloc]; omega)) (by first | omega | (simp only [World.size_alloc]; omega) | (simp only [World.size_drew]; omega) | (simp only [World.size_drew, World.size_alloc]; omega)))
      have Ox0 := Lib.hid (ows_carry Ox0.out Gx0.out hk (by first | omega | (simp only [World.size_alloc]; omega) | (simp only [World.size_drew]; omega) | (simp only [World.size_drew, World.size_alloc]; omega)))
      have Xx0 := Lib.hid (wh_carry Xx0.out hk (by first | omega | (simp only [World.size_alloc]; omega) | (simp only [World.size_drew]; omega) | (simp only [World.size_drew, World.size_alloc]; omega)))
      have Cx1 := Lib.hid (rd_carry Cx1.out hk (by first | omega | (simp only [World.size_alloc]; omega) | (simp only [World.size_drew]; omega) | (simp only [World.size_drew, World.size_alloc]; omega)) (by first | omega | (simp only [World.size_alloc]; omega) | (simp only [World.size_drew]; omega) | (simp only [World.size_drew, World.size_alloc]; omega)))
      have Ox1 := Lib.hid (ows_carry Ox1.out Gx1.out hk (by first | omega | (simp only [World.size_alloc]; omega) | (simp only [World.size_drew]; omega) | (simp only [World.size_drew, World.size_alloc]; omega)))
      have Xx1 := Lib.hid (Whole.new w7 26 #[.int .i64 x1.kind_, .string x1.name_, .slice Bx1 x1.args_.length dx1])
      clear hk
      obtain ⟨xx00, xx01, xx02⟩ := cells3 Xx0.out
      have xx0l := Xx0.out.lt
      obtain ⟨xx10, xx11, xx12⟩ := cells3 Xx1.out
      have xx1l := Xx1.out.lt
      go_wp2_with fail
      refine (HBB.out ▸ HY.out ▸ implMatch x0 x1 Bx0 Bx1 dx0 dx1 _ (by have := TypeX.size_wt x0; omega) (by have := TypeX.size_wt x1; omega) (rd_und Cx0.out (by first | omega | (simp only [World.size_alloc]; omega) | (simp only [World.size_drew]; omega) | (simp only [World.size_drew, World.size_alloc]; omega))) (rd_und Cx1.out (by first | omega | (simp only [World.size_alloc]; omega) | (simp only [World.size_drew]; omega) | (simp only [World.size_drew, World.size_alloc]; omega)))).mono ?_
      intro e w8 hm
      obtain ⟨Bg, dg, bsg, rfl, ho, hnd, hr, hrg, hb⟩ := madeBs_get HRL.out hm
      simp only [World.size_alloc] at ho hr hrg
      clear hm
      have hk := Keep.below hb
      have h8 : Below w.heap.size w w8 := h7'.trans (hb.mono h7'.size)
      have s8 := hk.size
      simp only [World.size_alloc] at s8
      have R0 := Lib.hid (rd_carry R0.out hk (by first | omega | (simp only [World.size_alloc]; omega) | (simp only [World.size_drew]; omega) | (simp only [World.size_drew, World.size_alloc]; omega)) (by first | omega | (simp only [World.size_alloc]; omega) | (simp only [World.size_drew]; omega) | (simp only [World.size_drew, World.size_alloc]; omega)))
      have R1 := Lib.hid (rd_carry R1.out hk (by first | omega | (simp only [World.size_alloc]; omega) | (simp only [World.size_drew]; omega) | (simp only [World.size_drew, World.size_alloc]; omega)) (by first | omega | (simp only [World.size_alloc]; omega) | (simp only [World.size_drew]; omega) | (simp only [World.size_drew, World.size_alloc]; omega)))
      have P0 := Lib.hid (wh_carry P0.out hk (by first | omega | (simp only [World.size_alloc]; omega) | (simp only [World.size_drew]; omega) | (simp only [World.size_drew, World.size_alloc]; omega)))
      have P1 := Lib.hid (wh_carry P1.out hk (by first | omega | (simp only [World.size_alloc]; omega) | (simp only [World.size_drew]; omega) | (simp only [World.size_drew, World.size_alloc]; omega)))
      have CW := Lib.hid (rd_carry CW.out hk (by first | omega | (simp only [World.size_alloc]; omega) | (simp only [World.size_drew]; omega) | (simp only [World.size_drew, World.size_alloc]; omega)) (by first | omega | (simp only [World.size_alloc]; omega) | (simp only [World.size_drew]; omega) | (simp only [World.size_drew, World.size_alloc]; omega)))
      have Cx0 := Lib.hid (rd_carry Cx0.out hk (by first | omega | (simp only [World.size_alloc]; omega) | (simp only [World.size_drew]; omega) | (simp only [World.size_drew, World.size_alloc]; omega)) (by first | omega | (simp only [World.size_alloc]; omega) | (simp only [World.size_drew]; omega) | (simp only [World.size_drew, World.size_alloc]; omega)))
      have Ox0 := Lib.hid (ows_carry Ox0.out Gx0.out hk (by first | omega | (simp only [World.size_alloc]; omega) | (simp only [World.size_drew]; omega) | (simp only [World.size_drew, World.size_alloc]; omega)))
      have Xx0 := Lib.hid (wh_carry Xx0.out hk (by first | omega | (simp only [World.size_alloc]; omega) | (simp only [World.size_drew]; omega) | (simp only [World.size_drew, World.size_alloc]; omega)))
      have Cx1 := Lib.hid (rd_carry Cx1.out hk (by first | omega | (simp only [World.size_alloc]; omega) | (simp only [World.size_drew]; omega) | (simp only [World.size_drew, World.size_alloc]; omega)) (by first | omega | (simp only [World.size_alloc]; omega) | (simp only [World.size_drew]; omega) | (simp only [World.size_drew, World.size_alloc]; omega)))
      have Ox1 := Lib.hid (ows_carry Ox1.out Gx1.out hk (by first | omega | (simp only [World.size_alloc]; omega) | (simp only [World.size_drew]; omega) | (simp only [World.size_drew, World.size_alloc]; omega)))
      have Xx1 := Lib.hid (wh_carry Xx1.out hk (by first | omega | (simp only [World.size_alloc]; omega) | (simp only [World.size_drew]; omega) | (simp only [World.size_drew, World.size_alloc]; omega)))
      clear hk hb xx00 xx01 xx02 xx0l xx10 xx11 xx12 xx1l
      have Cg := Lib.hid hr
      have Gg := Lib.hid hrg
      have Og := Lib.hid ho
      have Dg := Lib.hid hnd
      clear hr hrg ho hnd
      go_wp2_with fail
      refine (eqBindingS y Bg BW dg dW _ (rd_und Cg.out (by first | omega | (simp only [World.size_alloc]; omega) | (simp only [World.size_drew]; omega) | (simp only [World.size_drew, World.size_alloc]; omega))) (rd_und CW.out (by first | omega | (simp only [World.size_alloc]; omega) | (simp only [World.size_drew]; omega) | (simp only [World.size_drew, World.size_alloc]; omega)))).mono ?_
      rintro e w9 ⟨rfl, hb⟩
      have hk := Keep.below hb
      have h9 : Below w.heap.size w w9 := h8.trans (hb.mono h8.size)
      have s9 := hk.size
      have R0 := Lib.hid (rd_carry R0.out hk (by first | omega | (simp only [World.size_alloc]; omega) | (simp only [World.size_drew]; omega) | (simp only [World.size_drew, World.size_alloc]; omega)) (by first | omega | (simp only [World.size_alloc]; omega) | (simp only [World.size_drew]; omega) | (simp only [World.size_drew, World.size_alloc]; omega)))
      have R1 := Lib.hid (rd_carry R1.out hk (by first | omega | (simp only [World.size_alloc]; omega) | (simp only [World.size_drew]; omega) | (simp only [World.size_drew, World.size_alloc]; omega)) (by first | omega | (simp only [World.size_alloc]; omega) | (simp only [World.size_drew]; omega) | (simp only [World.size_drew, World.size_alloc]; omega)))
      have P0 := Lib.hid (wh_carry P0.out hk (by first | omega | (simp only [World.size_alloc]; omega) | (simp only [World.size_drew]; omega) | (simp only [World.size_drew, World.size_alloc]; omega)))
      have P1 := Lib.hid (wh_carry P1.out hk (by first | omega | (simp only [World.size_alloc]; omega) | (simp only [World.size_drew]; omega) | (simp only [World.size_drew, World.size_alloc]; omega)))
      have CW := Lib.hid (rd_carry CW.out hk (by first | omega | (simp only [World.size_alloc]; omega) | (simp only [World.size_drew]; omega) | (simp only [World.size_drew, World.size_alloc]; omega)) (by first | omega | (simp only [World.size_alloc]; omega) | (simp only [World.size_drew]; omega) | (simp only [World.size_drew, World.size_alloc]; omega)))
      have Cx0 := Lib.hid (rd_carry Cx0.out hk (by first | omega | (simp only [World.size_alloc]; omega) | (simp only [World.size_drew]; omega) | (simp only [World.size_drew, World.size_alloc]; omega)) (by first | omega | (simp only [World.size_alloc]; omega) | (simp only [World.size_drew]; omega) | (simp only [World.size_drew, World.size_alloc]; omega)))
      have Ox0 := Lib.hid (ows_carry Ox0.out Gx0.out hk (by first | omega | (simp only [World.size_alloc]; omega) | (simp only [World.size_drew]; omega) | (simp only [World.size_drew, World.size_alloc]; omega)))
      have Xx0 := Lib.hid (wh_carry Xx0.out hk (by first | omega | (simp only [World.size_alloc]; omega) | (simp only [World.size_drew]; omega) | (simp only [World.size_drew, World.size_alloc]; omega)))
      have Cx1 := Lib.hid (rd_carry Cx1.out hk (by first | omega | (simp only [World.size_alloc]; omega) | (simp only [World.size_drew]; omega) | (simp only [World.size_drew, World.size_alloc]; omega)) (by first | omega | (simp only [World.size_alloc]; omega) | (simp only [World.size_drew]; omega) | (simp only [World.size_drew, World.size_alloc]; omega)))
      have Ox1 := Lib.hid (ows_carry Ox1.out Gx1.out hk (by first | omega | (simp only [World.size_alloc]; omega) | (simp only [World.size_drew]; omega) | (simp only [World.size_drew, World.size_alloc]; omega)))
      have Xx1 := Lib.hid (wh_carry Xx1.out hk (by first | omega | (simp only [World.size_alloc]; omega) | (simp only [World.size_drew]; omega) | (simp only [World.size_drew, World.size_alloc]; omega)))
      have Cg := Lib.hid (rd_carry Cg.out hk (by first | omega | (simp only [World.size_alloc]; omega) | (simp only [World.size_drew]; omega) | (simp only [World.size_drew, World.size_alloc]; omega)) (by first | omega | (simp only [World.size_alloc]; omega) | (simp only [World.size_drew]; omega) | (simp only [World.size_drew, World.size_alloc]; omega)))
      have Og := Lib.hid (ow_carry Og.out Gg.out hk (by first | omega | (simp only [World.size_alloc]; omega) | (simp only [World.size_drew]; omega) | (simp only [World.size_drew, World.size_alloc]; omega)))
      clear hk hb
      go_upto_region 14 with (fail)
      obtain ⟨p00, p01, p02⟩ := cells3 P0.out
      have p0l := P0.out.lt
      obtain ⟨xx00, xx01, xx02⟩ := cells3 Xx0.out
      have xx0l := Xx0.out.lt
      have hk := Keep.below ((Below.refl _ w9).drew)
      have h9d := h9.drew
      have R0 := Lib.hid (rd_carry R0.out hk (by first | omega | (simp only [World.size_alloc]; omega) | (simp only [World.size_drew]; omega) | (simp only [World.size_drew, World.size_alloc]; omega)) (by first | omega | (simp only [World.size_alloc]; omega) | (simp only [World.size_drew]; omega) | (simp only [World.size_drew, World.size_alloc]; omega)))
      have R1 := Lib.hid (rd_carry R1.out hk (by first | omega | (simp only [World.size_alloc]; omega) | (simp only [World.size_drew]; omega) | (simp only [World.size_drew, World.size_alloc]; omega)) (by first | omega | (simp only [World.size_alloc]; omega) | (simp only [World.size_drew]; omega) | (simp only [World.size_drew, World.size_alloc]; omega)))
      have P0 := Lib.hid (wh_carry P0.out hk (by first | omega | (simp only [World.size_alloc]; omega) | (simp only [World.size_drew]; omega) | (simp only [World.size_drew, World.size_alloc]; omega)))
      have P1 := Lib.hid (wh_carry P1.out hk (by first | omega | (simp only [World.size_alloc]; omega) | (simp only [World.size_drew]; omega) | (simp only [World.size_drew, World.size_alloc]; omega)))
      have CW := Lib.hid (rd_carry CW.out hk (by first | omega | (simp only [World.size_alloc]; omega) | (simp only [World.size_drew]; omega) | (simp only [World.size_drew, World.size_alloc]; omega)) (by first | omega | (simp only [World.size_alloc]; omega) | (simp only [World.size_drew]; omega) | (simp only [World.size_drew, World.size_alloc]; omega)))
      have Cx0 := Lib.hid (rd_carry Cx0.out hk (by first | omega | (simp only [World.size_alloc]; omega) | (simp only [World.size_drew]; omega) | (simp only [World.size_drew, World.size_alloc]; omega)) (by first | omega | (simp only [World.size_alloc]; omega) | (simp only [World.size_drew]; omega) | (simp only [World.size_drew, World.size_alloc]; omega)))
      have Ox0 := Lib.hid (ows_carry Ox0.out Gx0.out hk (by first | omega | (simp only [World.size_alloc]; omega) | (simp only [World.size_drew]; omega) | (simp only [World.size_drew, World.size_alloc]; omega)))
      have Xx0 := Lib.hid (wh_carry Xx0.out hk (by first | omega | (simp only [World.size_alloc]; omega) | (simp only [World.size_drew]; omega) | (simp only [World.size_drew, World.size_alloc]; omega)))
      have Cx1 := Lib.hid (rd_carry Cx1.out hk (by first | omega | (simp only [World.size_alloc]; omega) | (simp only [World.size_drew]; omega) | (simp only [World.size_drew, World.size_alloc]; omega)) (by first | omega | (simp only [World.size_alloc]; omega) | (simp only [World.size_drew]; omega) | (simp only [World.size_drew, World.size_alloc]; omega)))
      have Ox1 := Lib.hid (ows_carry Ox1.out Gx1.out hk (by first | omega | (simp only [World.size_alloc]; omega) | (simp only [World.size_drew]; omega) | (simp only [World.size_drew, World.size_alloc]; omega)))
      have Xx1 := Lib.hid (wh_carry Xx1.out hk (by first | omega | (simp only [World.size_alloc]; omega) | (simp only [World.size_drew]; omega) | (simp only [World.size_drew, World.size_alloc]; omega)))
      have Cg := Lib.hid (rd_carry Cg.out hk (by first | omega | (simp only [World.size_alloc]; omega) | (simp only [World.size_drew]; omega) | (simp only [World.size_drew, World.size_alloc]; omega)) (by first | omega | (simp only [World.size_alloc]; omega) | (simp only [World.size_drew]; omega) | (simp only [World.size_drew, World.size_alloc]; omega)))
      have Og := Lib.hid (ow_carry Og.out Gg.out hk (by first | omega | (simp only [World.size_alloc]; omega) | (simp only [World.size_drew]; omega) | (simp only [World.size_drew, World.size_alloc]; omega)))
      clear hk
      go_region_held3 (fun w' => w'.cell? ⟨w.heap.size, 0, none⟩ = some (.int .i64 x0.kind_) ∧ w'.cell? ⟨w.heap.size, 1, none⟩ = some (.string x0.name_) ∧ w'.cell? ⟨w.heap.size, 2, none⟩ = some (.slice A0 x0.args_.length c0) ∧ w'.cell? ⟨w6.heap.size, 0, none⟩ = some (.int .i64 x0.kind_) ∧ w'.cell? ⟨w6.heap.size, 1, none⟩ = some (.string x0.name_) ∧ w'.cell? ⟨w6.heap.size, 2, none⟩ = some (.slice Bx0 x0.args_.length dx0))
        (first
          | go_keep
          | exact (⟨(cells3 P0.out).1, (cells3 P0.out).2.1, (cells3 P0.out).2.2, cells3 Xx0.out⟩))
        (first
          | (go_at_call 30
             refine (toType x0 _ _ hww0 ⟨_, _, rfl, rd_und R0.out (by first | omega | (simp only [World.size_alloc]; omega) | (simp only [World.size_drew]; omega) | (simp only [World.size_drew, World.size_alloc]; omega))⟩).mono ?_
             intro e w10 hm
             obtain ⟨Bu0, du0, bsu0, rfl, ho, hnd, hr, hrg, hb⟩ := madeV_get hm
             simp only [World.size_drew] at ho hr hrg
             clear hm
             have hk := Keep.below hb
             have h10 : Below w.heap.size w w10 := h9d.trans (hb.mono h9d.size)
             have s10 := hk.size
             simp only [World.size_drew] at s10
             have R0 := Lib.hid (rd_carry R0.out hk (by first | omega | (simp only [World.size_alloc]; omega) | (simp only [World.size_drew]; omega) | (simp only [World.size_drew, World.size_alloc]; omega)) (by first | omega | (simp only [World.size_alloc]; omega) | (simp only [World.size_drew]; omega) | (simp only [World.size_drew, World.size_alloc]; omega)))
             have R1 := Lib.hid (rd_carry R1.out hk (by first | omega | (simp only [World.size_alloc]; omega) | (simp only [World.size_drew]; omega) | (simp only [World.size_drew, World.size_alloc]; omega)) (by first | omega | (simp only [World.size_alloc]; omega) | (simp only [World.size_drew]; omega) | (simp only [World.size_drew, World.size_alloc]; omega)))
             have P0 := Lib.hid (wh_carry P0.out hk (by first | omega | (simp only [World.size_alloc]; omega) | (simp only [World.size_drew]; omega) | (simp only [World.size_drew, World.size_alloc]; omega)))
             have P1 := Lib.hid (wh_carry P1.out hk (by first | omega | (simp only [World.size_alloc]; omega) | (simp only [World.size_drew]; omega) | (simp only [World.size_drew, World.size_alloc]; omega)))
             have CW := Lib.hid (rd_carry CW.out hk (by first | omega | (simp only [World.size_alloc]; omega) | (simp only [World.size_drew]; omega) | (simp only [World.size_drew, World.size_alloc]; omega)) (by first | omega | (simp only [World.size_alloc]; omega) | (simp only [World.size_drew]; omega) | (simp only [World.size_drew, World.size_alloc]; omega)))
             have Cx0 := Lib.hid (rd_carry Cx0.out hk (by first | omega | (simp only [World.size_alloc]; omega) | (simp only [World.size_drew]; omega) | (simp only [World.size_drew, World.size_alloc]; omega)) (by first | omega | (simp only [World.size_alloc]; omega) | (simp only [World.size_drew]; omega) | (simp only [World.size_drew, World.size_alloc]; omega)))
             have Ox0 := Lib.hid (ows_carry Ox0.out Gx0.out hk (by first | omega | (simp only [World.size_alloc]; omega) | (simp only [World.size_drew]; omega) | (simp only [World.size_drew, World.size_alloc]; omega)))
             have Xx0 := Lib.hid (wh_carry Xx0.out hk (by first | omega | (simp only [World.size_alloc]; omega) | (simp only [World.size_drew]; omega) | (simp only [World.size_drew, World.size_alloc]; omega)))
             have Cx1 := Lib.hid (rd_carry Cx1.out hk (by first | omega | (simp only [World.size_alloc]; omega) | (simp only [World.size_drew]; omega) | (simp only [World.size_drew, World.size_alloc]; omega)) (by first | omega | (simp only [World.size_alloc]; omega) | (simp only [World.size_drew]; omega) | (simp only [World.size_drew, World.size_alloc]; omega)))
             have Ox1 := Lib.hid (ows_carry Ox1.out Gx1.out hk (by first | omega | (simp only [World.size_alloc]; omega) | (simp only [World.size_drew]; omega) | (simp only [World.size_drew, World.size_alloc]; omega)))
             have Xx1 := Lib.hid (wh_carry Xx1.out hk (by first | omega | (simp only [World.size_alloc]; omega) | (simp only [World.size_drew]; omega) | (simp only [World.size_drew, World.size_alloc]; omega)))
             have Cg := Lib.hid (rd_carry Cg.out hk (by first | omega | (simp only [World.size_alloc]; omega) | (simp only [World.size_drew]; omega) | (simp only [World.size_drew, World.size_alloc]; omega)) (by first | omega | (simp only [World.size_alloc]; omega) | (simp only [World.size_drew]; omega) | (simp only [World.size_drew, World.size_alloc]; omega)))
             have Og := Lib.hid (ow_carry Og.out Gg.out hk (by first | omega | (simp only [World.size_alloc]; omega) | (simp only [World.size_drew]; omega) | (simp only [World.size_drew, World.size_alloc]; omega)))
             clear hk hb
             have Cu0 := Lib.hid hr
             clear hr hrg ho hnd)
          | (go_at_call 32
             refine (eqType x0 _ _ _ ⟨_, _, rfl, rd_und Cx0.out (by first | omega | (simp only [World.size_alloc]; omega) | (simp only [World.size_drew]; omega) | (simp only [World.size_drew, World.size_alloc]; omega))⟩ ⟨_, _, rfl, rd_und Cu0.out (by first | omega | (simp only [World.size_alloc]; omega) | (simp only [World.size_drew]; omega) | (simp only [World.size_drew, World.size_alloc]; omega))⟩).mono ?_
             rintro e w11 ⟨rfl, hb⟩
             have hk := Keep.below hb
             have h11 : Below w.heap.size w w11 := h10.trans (hb.mono h10.size)
             have s11 := hk.size
             have R0 := Lib.hid (rd_carry R0.out hk (by first | omega | (simp only [World.size_alloc]; omega) | (simp only [World.size_drew]; omega) | (simp only [World.size_drew, World.size_alloc]; omega)) (by first | omega | (simp only [World.size_alloc]; omega) | (simp only [World.size_drew]; omega) | (simp only [World.size_drew, World.size_alloc]; omega)))
             have R1 := Lib.hid (rd_carry R1.out hk (by first | omega | (simp only [World.size_alloc]; omega) | (simp only [World.size_drew]; omega) | (simp only [World.size_drew, World.size_alloc]; omega)) (by first | omega | (simp only [World.size_alloc]; omega) | (simp only [World.size_drew]; omega) | (simp only [World.size_drew, World.size_alloc]; omega)))
             have P0 := Lib.hid (wh_carry P0.out hk (by first | omega | (simp only [World.size_alloc]; omega) | (simp only [World.size_drew]; omega) | (simp only [World.size_drew, World.size_alloc]; omega)))
             have P1 := Lib.hid (wh_carry P1.out hk (by first | omega | (simp only [World.size_alloc]; omega) | (simp only [World.size_drew]; omega) | (simp only [World.size_drew, World.size_alloc]; omega)))
             have CW := Lib.hid (rd_carry CW.out hk (by first | omega | (simp only [World.size_alloc]; omega) | (simp only [World.size_drew]; omega) | (simp only [World.size_drew, World.size_alloc]; omega)) (by first | omega | (simp only [World.size_alloc]; omega) | (simp only [World.size_drew]; omega) | (simp only [World.size_drew, World.size_alloc]; omega)))
             have Cx0 := Lib.hid (rd_carry Cx0.out hk (by first | omega | (simp only [World.size_alloc]; omega) | (simp only [World.size_drew]; omega) | (simp only [World.size_drew, World.size_alloc]; omega)) (by first | omega | (simp only [World.size_alloc]; omega) | (simp only [World.size_drew]; omega) | (simp only [World.size_drew, World.size_alloc]; omega)))
             have Ox0 := Lib.hid (ows_carry Ox0.out Gx0.out hk (by first | omega | (simp only [World.size_alloc]; omega) | (simp only [World.size_drew]; omega) | (simp only [World.size_drew, World.size_alloc]; omega)))
             have Xx0 := Lib.hid (wh_carry Xx0.out hk (by first | omega | (simp only [World.size_alloc]; omega) | (simp only [World.size_drew]; omega) | (simp only [World.size_drew, World.size_alloc]; omega)))
             have Cx1 := Lib.hid (rd_carry Cx1.out hk (by first | omega | (simp only [World.size_alloc]; omega) | (simp only [World.size_drew]; omega) | (simp only [World.size_drew, World.size_alloc]; omega)) (by first | omega | (simp only [World.size_alloc]; omega) | (simp only [World.size_drew]; omega) | (simp only [World.size_drew, World.size_alloc]; omega)))
             have Ox1 := Lib.hid (ows_carry Ox1.out Gx1.out hk (by first | omega | (simp only [World.size_alloc]; omega) | (simp only [World.size_drew]; omega) | (simp only [World.size_drew, World.size_alloc]; omega)))
             have Xx1 := Lib.hid (wh_carry Xx1.out hk (by first | omega | (simp only [World.size_alloc]; omega) | (simp only [World.size_drew]; omega) | (simp only [World.size_drew, World.size_alloc]; omega)))
             have Cg := Lib.hid (rd_carry Cg.out hk (by first | omega | (simp only [World.size_alloc]; omega) | (simp only [World.size_drew]; omega) | (simp only [World.size_drew, World.size_alloc]; omega)) (by first | omega | (simp only [World.size_alloc]; omega) | (simp only [World.size_drew]; omega) | (simp only [World.size_drew, World.size_alloc]; omega)))
             have Og := Lib.hid (ow_carry Og.out Gg.out hk (by first | omega | (simp only [World.size_alloc]; omega) | (simp only [World.size_drew]; omega) | (simp only [World.size_drew, World.size_alloc]; omega)))
             have Cu0 := Lib.hid (rd_carry Cu0.out hk (by first | omega | (simp only [World.size_alloc]; omega) | (simp only [World.size_drew]; omega) | (simp only [World.size_drew, World.size_alloc]; omega)) (by first | omega | (simp only [World.size_alloc]; omega) | (simp only [World.size_drew]; omega) | (simp only [World.size_drew, World.size_alloc]; omega)))
             clear hk hb))
      clear p00 p01 p02 p0l xx00 xx01 xx02 xx0l
      go_upto_region 16 with (fail)
      obtain ⟨p10, p11, p12⟩ := cells3 P1.out
      have p1l := P1.out.lt
      obtain ⟨xx10, xx11, xx12⟩ := cells3 Xx1.out
      have xx1l := Xx1.out.lt
      have hk := Keep.below ((Below.refl _ w11).drew)
      have h11d := h11.drew
      have R0 := Lib.hid (rd_carry R0.out hk (by first | omega | (simp only [World.size_alloc]; omega) | (simp only [World.size_drew]; omega) | (simp only [World.size_drew, World.size_alloc]; omega)) (by first | omega | (simp only [World.size_alloc]; omega) | (simp only [World.size_drew]; omega) | (simp only [World.size_drew, World.size_alloc]; omega)))
      have R1 := Lib.hid (rd_carry R1.out hk (by first | omega | (simp only [World.size_alloc]; omega) | (simp only [World.size_drew]; omega) | (simp only [World.size_drew, World.size_alloc]; omega)) (by first | omega | (simp only [World.size_alloc]; omega) | (simp only [World.size_drew]; omega) | (simp only [World.size_drew, World.size_alloc]; omega)))
      have P0 := Lib.hid (wh_carry P0.out hk (by first | omega | (simp only [World.size_alloc]; omega) | (simp only [World.size_drew]; omega) | (simp only [World.size_drew, World.size_alloc]; omega)))
      have P1 := Lib.hid (wh_carry P1.out hk (by first | omega | (simp only [World.size_alloc]; omega) | (simp only [World.size_drew]; omega) | (simp only [World.size_drew, World.size_alloc]; omega)))
      have CW := Lib.hid (rd_carry CW.out hk (by first | omega | (simp only [World.size_alloc]; omega) | (simp only [World.size_drew]; omega) | (simp only [World.size_drew, World.size_alloc]; omega)) (by first | omega | (simp only [World.size_alloc]; omega) | (simp only [World.size_drew]; omega) | (simp only [World.size_drew, World.size_alloc]; omega)))
      have Cx0 := Lib.hid (rd_carry Cx0.out hk (by first | omega | (simp only [World.size_alloc]; omega) | (simp only [World.size_drew]; omega) | (simp only [World.size_drew, World.size_alloc]; omega)) (by first | omega | (simp only [World.size_alloc]; omega) | (simp only [World.size_drew]; omega) | (simp only [World.size_drew, World.size_alloc]; omega)))
      have Ox0 := Lib.hid (ows_carry Ox0.out Gx0.out hk (by first | omega | (simp only [World.size_alloc]; omega) | (simp only [World.size_drew]; omega) | (simp only [World.size_drew, World.size_alloc]; omega)))
      have Xx0 := Lib.hid (wh_carry Xx0.out hk (by first | omega | (simp only [World.size_alloc]; omega) | (simp only [World.size_drew]; omega) | (simp only [World.size_drew, World.size_alloc]; omega)))
      have Cx1 := Lib.hid (rd_carry Cx1.out hk (by first | omega | (simp only [World.size_alloc]; omega) | (simp only [World.size_drew]; omega) | (simp only [World.size_drew, World.size_alloc]; omega)) (by first | omega | (simp only [World.size_alloc]; omega) | (simp only [World.size_drew]; omega) | (simp only [World.size_drew, World.size_alloc]; omega)))
      have Ox1 := Lib.hid (ows_carry Ox1.out Gx1.out hk (by first | omega | (simp only [World.size_alloc]; omega) | (simp only [World.size_drew]; omega) | (simp only [World.size_drew, World.size_alloc]; omega)))
      have Xx1 := Lib.hid (wh_carry Xx1.out hk (by first | omega | (simp only [World.size_alloc]; omega) | (simp only [World.size_drew]; omega) | (simp only [World.size_drew, World.size_alloc]; omega)))
      have Cg := Lib.hid (rd_carry Cg.out hk (by first | omega | (simp only [World.size_alloc]; omega) | (simp only [World.size_drew]; omega) | (simp only [World.size_drew, World.size_alloc]; omega)) (by first | omega | (simp only [World.size_alloc]; omega) | (simp only [World.size_drew]; omega) | (simp only [World.size_drew, World.size_alloc]; omega)))
      have Og := Lib.hid (ow_carry Og.out Gg.out hk (by first | omega | (simp only [World.size_alloc]; omega) | (simp only [World.size_drew]; omega) | (simp only [World.size_drew, World.size_alloc]; omega)))
      clear hk
      go_region_held3 (fun w' => w'.cell? ⟨w.heap.size + 1, 0, none⟩ = some (.int .i64 x1.kind_) ∧ w'.cell? ⟨w.heap.size + 1, 1, none⟩ = some (.string x1.name_) ∧ w'.cell? ⟨w.heap.size + 1, 2, none⟩ = some (.slice A1 x1.args_.length c1) ∧ w'.cell? ⟨w7.heap.size, 0, none⟩ = some (.int .i64 x1.kind_) ∧ w'.cell? ⟨w7.heap.size, 1, none⟩ = some (.string x1.name_) ∧ w'.cell? ⟨w7.heap.size, 2, none⟩ = some (.slice Bx1 x1.args_.length dx1))
        (first
          | go_keep
          | exact (⟨(cells3 P1.out).1, (cells3 P1.out).2.1, (cells3 P1.out).2.2, cells3 Xx1.out⟩))
        (first
          | (go_at_call 30
             refine (toType x1 _ _ hww1 ⟨_, _, rfl, rd_und R1.out (by first | omega | (simp only [World.size_alloc]; omega) | (simp only [World.size_drew]; omega) | (simp only [World.size_drew, World.size_alloc]; omega))⟩).mono ?_
             intro e w12 hm
             obtain ⟨Bu1, du1, bsu1, rfl, ho, hnd, hr, hrg, hb⟩ := madeV_get hm
             simp only [World.size_drew] at ho hr hrg
             clear hm
             have hk := Keep.below hb
             have h12 : Below w.heap.size w w12 := h11d.trans (hb.mono h11d.size)
             have s12 := hk.size
             simp only [World.size_drew] at s12
             have R0 := Lib.hid (rd_carry R0.out hk (by first | omega | (simp only [World.size_alloc]; omega) | (simp only [World.size_drew]; omega) | (simp only [World.size_drew, World.size_alloc]; omega)) (by first | omega | (simp only [World.size_alloc]; omega) | (simp only [World.size_drew]; omega) | (simp only [World.size_drew, World.size_alloc]; omega)))
             have R1 := Lib.hid (rd_carry R1.out hk (by first | omega | (simp only [World.size_alloc]; omega) | (simp only [World.size_drew]; omega) | (simp only [World.size_drew, World.size_alloc]; omega)) (by first | omega | (simp only [World.size_alloc]; omega) | (simp only [World.size_drew]; omega) | (simp only [World.size_drew, World.size_alloc]; omega)))
             have P0 := Lib.hid (wh_carry P0.out hk (by first | omega | (simp only [World.size_alloc]; omega) | (simp only [World.size_drew]; omega) | (simp only [World.size_drew, World.size_alloc]; omega)))
             have P1 := Lib.hid (wh_carry P1.out hk (by first | omega | (simp only [World.size_alloc]; omega) | (simp only [World.size_drew]; omega) | (simp only [World.size_drew, World.size_alloc]; omega)))
             have CW := Lib.hid (rd_carry CW.out hk (by first | omega | (simp only [World.size_alloc]; omega) | (simp only [World.size_drew]; omega) | (simp only [World.size_drew, World.size_alloc]; omega)) (by first | omega | (simp only [World.size_alloc]; omega) | (simp only [World.size_drew]; omega) | (simp only [World.size_drew, World.size_alloc]; omega)))
             have Cx0 := Lib.hid (rd_carry Cx0.out hk (by first | omega | (simp only [World.size_alloc]; omega) | (simp only [World.size_drew]; omega) | (simp only [World.size_drew, World.size_alloc]; omega)) (by first | omega | (simp only [World.size_alloc]; omega) | (simp only [World.size_drew]; omega) | (simp only [World.size_drew, World.size_alloc]; omega)))
             have Ox0 := Lib.hid (ows_carry Ox0.out Gx0.out hk (by first | omega | (simp only [World.size_alloc]; omega) | (simp only [World.size_drew]; omega) | (simp only [World.size_drew, World.size_alloc]; omega)))
             have Xx0 := Lib.hid (wh_carry Xx0.out hk (by first | omega | (simp only [World.size_alloc]; omega) | (simp only [World.size_drew]; omega) | (simp only [World.size_drew, World.size_alloc]; omega)))
             have Cx1 := Lib.hid (rd_carry Cx1.out hk (by first | omega | (simp only [World.size_alloc]; omega) | (simp only [World.size_drew]; omega) | (simp only [World.size_drew, World.size_alloc]; omega)) (by first | omega | (simp only [World.size_alloc]; omega) | (simp only [World.size_drew]; omega) | (simp only [World.size_drew, World.size_alloc]; omega)))
             have Ox1 := Lib.hid (ows_carry Ox1.out Gx1.out hk (by first | omega | (simp only [World.size_alloc]; omega) | (simp only [World.size_drew]; omega) | (simp only [World.size_drew, World.size_alloc]; omega)))
             have Xx1 := Lib.hid (wh_carry Xx1.out hk (by first | omega | (simp only [World.size_alloc]; omega) | (simp only [World.size_drew]; omega) | (simp only [World.size_drew, World.size_alloc]; omega)))
             have Cg := Lib.hid (rd_carry Cg.out hk (by first | omega | (simp only [World.size_alloc]; omega) | (simp only [World.size_drew]; omega) | (simp only [World.size_drew, World.size_alloc]; omega)) (by first | omega | (simp only [World.size_alloc]; omega) | (simp only [World.size_drew]; omega) | (simp only [World.size_drew, World.size_alloc]; omega)))
             have Og := Lib.hid (ow_carry Og.out Gg.out hk (by first | omega | (simp only [World.size_alloc]; omega) | (simp only [World.size_drew]; omega) | (simp only [World.size_drew, World.size_alloc]; omega)))
             clear hk hb
             have Cu1 := Lib.hid hr
             clear hr hrg ho hnd)
          | (go_at_call 32
             refine (eqType x1 _ _ _ ⟨_, _, rfl, rd_und Cx1.out (by first | omega | (simp only [World.size_alloc]; omega) | (simp only [World.size_drew]; omega) | (simp only [World.size_drew, World.size_alloc]; omega))⟩ ⟨_, _, rfl, rd_und Cu1.out (by first | omega | (simp only [World.size_alloc]; omega) | (simp only [World.size_drew]; omega) | (simp only [World.size_drew, World.size_alloc]; omega))⟩).mono ?_
             rintro e w13 ⟨rfl, hb⟩
             have hk := Keep.below hb
             have h13 : Below w.heap.size w w13 := h12.trans (hb.mono h12.size)
             have s13 := hk.size
             have R0 := Lib.hid (rd_carry R0.out hk (by first | omega | (simp only [World.size_alloc]; omega) | (simp only [World.size_drew]; omega) | (simp only [World.size_drew, World.size_alloc]; omega)) (by first | omega | (simp only [World.size_alloc]; omega) | (simp only [World.size_drew]; omega) | (simp only [World.size_drew, World.size_alloc]; omega)))
             have R1 := Lib.hid (rd_carry R1.out hk (by first | omega | (simp only [World.size_alloc]; omega) | (simp only [World.size_drew]; omega) | (simp only [World.size_drew, World.size_alloc]; omega)) (by first | omega | (simp only [World.size_alloc]; omega) | (simp only [World.size_drew]; omega) | (simp only [World.size_drew, World.size_alloc]; omega)))
             have P0 := Lib.hid (wh_carry P0.out hk (by first | omega | (simp only [World.size_alloc]; omega) | (simp only [World.size_drew]; omega) | (simp only [World.size_drew, World.size_alloc]; omega)))
             have P1 := Lib.hid (wh_carry P1.out hk (by first | omega | (simp only [World.size_alloc]; omega) | (simp only [World.size_drew]; omega) | (simp only [World.size_drew, World.size_alloc]; omega)))
             have CW := Lib.hid (rd_carry CW.out hk (by first | omega | (simp only [World.size_alloc]; omega) | (simp only [World.size_drew]; omega) | (simp only [World.size_drew, World.size_alloc]; omega)) (by first | omega | (simp only [World.size_alloc]; omega) | (simp only [World.size_drew]; omega) | (simp only [World.size_drew, World.size_alloc]; omega)))
             have Cx0 := Lib.hid (rd_carry Cx0.out hk (by first | omega | (simp only [World.size_alloc]; omega) | (simp only [World.size_drew]; omega) | (simp only [World.size_drew, World.size_alloc]; omega)) (by first | omega | (simp only [World.size_alloc]; omega) | (simp only [World.size_drew]; omega) | (simp only [World.size_drew, World.size_alloc]; omega)))
             have Ox0 := Lib.hid (ows_carry Ox0.out Gx0.out hk (by first | omega | (simp only [World.size_alloc]; omega) | (simp only [World.size_drew]; omega) | (simp only [World.size_drew, World.size_alloc]; omega)))
             have Xx0 := Lib.hid (wh_carry Xx0.out hk (by first | omega | (simp only [World.size_alloc]; omega) | (simp only [World.size_drew]; omega) | (simp only [World.size_drew, World.size_alloc]; omega)))
             have Cx1 := Lib.hid (rd_carry Cx1.out hk (by first | omega | (simp only [World.size_alloc]; omega) | (simp only [World.size_drew]; omega) | (simp only [World.size_drew, World.size_alloc]; omega)) (by first | omega | (simp only [World.size_alloc]; omega) | (simp only [World.size_drew]; omega) | (simp only [World.size_drew, World.size_alloc]; omega)))
             have Ox1 := Lib.hid (ows_carry Ox1.out Gx1.out hk (by first | omega | (simp only [World.size_alloc]; omega) | (simp only [World.size_drew]; omega) | (simp only [World.size_drew, World.size_alloc]; omega)))
             have Xx1 := Lib.hid (wh_carry Xx1.out hk (by first | omega | (simp only [World.size_alloc]; omega) | (simp only [World.size_drew]; omega) | (simp only [World.size_drew, World.size_alloc]; omega)))
             have Cg := Lib.hid (rd_carry Cg.out hk (by first | omega | (simp only [World.size_alloc]; omega) | (simp only [World.size_drew]; omega) | (simp only [World.size_drew, World.size_alloc]; omega)) (by first | omega | (simp only [World.size_alloc]; omega) | (simp only [World.size_drew]; omega) | (simp only [World.size_drew, World.size_alloc]; omega)))
             have Og := Lib.hid (ow_carry Og.out Gg.out hk (by first | omega | (simp only [World.size_alloc]; omega) | (simp only [World.size_drew]; omega) | (simp only [World.size_drew, World.size_alloc]; omega)))
             have Cu1 := Lib.hid (rd_carry Cu1.out hk (by first | omega | (simp only [World.size_alloc]; omega) | (simp only [World.size_drew]; omega) | (simp only [World.size_drew, World.size_alloc]; omega)) (by first | omega | (simp only [World.size_alloc]; omega) | (simp only [World.size_drew]; omega) | (simp only [World.size_drew, World.size_alloc]; omega)))
             clear hk hb))
      clear p10 p11 p12 p1l xx10 xx11 xx12 xx1l
      obtain ⟨k1, ek1⟩ : ∃ q : Nat, q = 1 + tcntL x0.cells := ⟨_, rfl⟩
      have pk1 : 0 < k1 := by omega
      have qk1 : k1 ≤ 30000000 := by have := tcnt_Type x0; have := TypeX.size_wt x0; omega
      have tk1 : ¬ ((k1 : Nat) : Int) < 0 := by omega
      have Ek1 := Lib.hid ek1
      clear ek1
      obtain ⟨xx00, xx01, xx02⟩ := cells3 Xx0.out
      have xx0l := Xx0.out.lt
      go_wp2_with fail
      refine (markVType x0 _ 1 _ bsx0 _ Ox0.out Dx0.out (by decide) (by have := Ek1.out; omega)).mono ?_
      rw [← Ek1.out]
      rintro e w14 ⟨rfl, -, hb⟩
      have hk := Keep.butV (lo := w5.heap.size) (hi := w6.heap.size) hb Gx0.out
      have h14 : Below w.heap.size w w14 := below_butV h13 hb h13.size (fun x hx => by have := Gx0.out x hx; omega)
      have s14 := hk.size
      have R0 := Lib.hid (rd_carry R0.out hk (by first | omega | (simp only [World.size_alloc]; omega) | (simp only [World.size_drew]; omega) | (simp only [World.size_drew, World.size_alloc]; omega)) (by first | omega | (simp only [World.size_alloc]; omega) | (simp only [World.size_drew]; omega) | (simp only [World.size_drew, World.size_alloc]; omega)))
      have R1 := Lib.hid (rd_carry R1.out hk (by first | omega | (simp only [World.size_alloc]; omega) | (simp only [World.size_drew]; omega) | (simp only [World.size_drew, World.size_alloc]; omega)) (by first | omega | (simp only [World.size_alloc]; omega) | (simp only [World.size_drew]; omega) | (simp only [World.size_drew, World.size_alloc]; omega)))
      have P0 := Lib.hid (wh_carry P0.out hk (by first | omega | (simp only [World.size_alloc]; omega) | (simp only [World.size_drew]; omega) | (simp only [World.size_drew, World.size_alloc]; omega)))
      have P1 := Lib.hid (wh_carry P1.out hk (by first | omega | (simp only [World.size_alloc]; omega) | (simp only [World.size_drew]; omega) | (simp only [World.size_drew, World.size_alloc]; omega)))
      have CW := Lib.hid (rd_carry CW.out hk (by first | omega | (simp only [World.size_alloc]; omega) | (simp only [World.size_drew]; omega) | (simp only [World.size_drew, World.size_alloc]; omega)) (by first | omega | (simp only [World.size_alloc]; omega) | (simp only [World.size_drew]; omega) | (simp only [World.size_drew, World.size_alloc]; omega)))
      have Xx0 := Lib.hid (wh_carry Xx0.out hk (by first | omega | (simp only [World.size_alloc]; omega) | (simp only [World.size_drew]; omega) | (simp only [World.size_drew, World.size_alloc]; omega)))
      have Cx1 := Lib.hid (rd_carry Cx1.out hk (by first | omega | (simp only [World.size_alloc]; omega) | (simp only [World.size_drew]; omega) | (simp only [World.size_drew, World.size_alloc]; omega)) (by first | omega | (simp only [World.size_alloc]; omega) | (simp only [World.size_drew]; omega) | (simp only [World.size_drew, World.size_alloc]; omega)))
      have Ox1 := Lib.hid (ows_carry Ox1.out Gx1.out hk (by first | omega | (simp only [World.size_alloc]; omega) | (simp only [World.size_drew]; omega) | (simp only [World.size_drew, World.size_alloc]; omega)))
      have Xx1 := Lib.hid (wh_carry Xx1.out hk (by first | omega | (simp only [World.size_alloc]; omega) | (simp only [World.size_drew]; omega) | (simp only [World.size_drew, World.size_alloc]; omega)))
      have Cg := Lib.hid (rd_carry Cg.out hk (by first | omega | (simp only [World.size_alloc]; omega) | (simp only [World.size_drew]; omega) | (simp only [World.size_drew, World.size_alloc]; omega)) (by first | omega | (simp only [World.size_alloc]; omega) | (simp only [World.size_drew]; omega) | (simp only [World.size_drew, World.size_alloc]; omega)))
      have Og := Lib.hid (ow_carry Og.out Gg.out hk (by first | omega | (simp only [World.size_alloc]; omega) | (simp only [World.size_drew]; omega) | (simp only [World.size_drew, World.size_alloc]; omega)))
      clear hk hb xx00 xx01 xx02 xx0l
      obtain ⟨k2, ek2⟩ : ∃ q : Nat, q = k1 + tcntL x1.cells := ⟨_, rfl⟩
      have pk2 : 0 < k2 := by omega
      have qk2 : k2 ≤ 60000000 := by have := tcnt_Type x1; have := TypeX.size_wt x1; omega
      have tk2 : ¬ ((k2 : Nat) : Int) < 0 := by omega
      have Ek2 := Lib.hid ek2
      clear ek2
      obtain ⟨xx10, xx11, xx12⟩ := cells3 Xx1.out
      have xx1l := Xx1.out.lt
      go_wp2_with fail
      refine (markVType x1 _ k1 _ bsx1 _ Ox1.out Dx1.out pk1 (by have := Ek2.out; omega)).mono ?_
      rw [← Ek2.out]
      rintro e w15 ⟨rfl, -, hb⟩
      have hk := Keep.butV (lo := (w6.heap.size + 1)) (hi := w7.heap.size) hb Gx1.out
      have h15 : Below w.heap.size w w15 := below_butV h14 hb h14.size (fun x hx => by have := Gx1.out x hx; omega)
      have s15 := hk.size
      have R0 := Lib.hid (rd_carry R0.out hk (by first | omega | (simp only [World.size_alloc]; omega) | (simp only [World.size_drew]; omega) | (simp only [World.size_drew, World.size_alloc]; omega)) (by first | omega | (simp only [World.size_alloc]; omega) | (simp only [World.size_drew]; omega) | (simp only [World.size_drew, World.size_alloc]; omega)))
      have R1 := Lib.hid (rd_carry R1.out hk (by first | omega | (simp only [World.size_alloc]; omega) | (simp only [World.size_drew]; omega) | (simp only [World.size_drew, World.size_alloc]; omega)) (by first | omega | (simp only [World.size_alloc]; omega) | (simp only [World.size_drew]; omega) | (simp only [World.size_drew, World.size_alloc]; omega)))
      have P0 := Lib.hid (wh_carry P0.out hk (by first | omega | (simp only [World.size_alloc]; omega) | (simp only [World.size_drew]; omega) | (simp only [World.size_drew, World.size_alloc]; omega)))
      have P1 := Lib.hid (wh_carry P1.out hk (by first | omega | (simp only [World.size_alloc]; omega) | (simp only [World.size_drew]; omega) | (simp only [World.size_drew, World.size_alloc]; omega)))
      have CW := Lib.hid (rd_carry CW.out hk (by first | omega | (simp only [World.size_alloc]; omega) | (simp only [World.size_drew]; omega) | (simp only [World.size_drew, World.size_alloc]; omega)) (by first | omega | (simp only [World.size_alloc]; omega) | (simp only [World.size_drew]; omega) | (simp only [World.size_drew, World.size_alloc]; omega)))
      have Xx0 := Lib.hid (wh_carry Xx0.out hk (by first | omega | (simp only [World.size_alloc]; omega) | (simp only [World.size_drew]; omega) | (simp only [World.size_drew, World.size_alloc]; omega)))
      have Xx1 := Lib.hid (wh_carry Xx1.out hk (by first | omega | (simp only [World.size_alloc]; omega) | (simp only [World.size_drew]; omega) | (simp only [World.size_drew, World.size_alloc]; omega)))
      have Cg := Lib.hid (rd_carry Cg.out hk (by first | omega | (simp only [World.size_alloc]; omega) | (simp only [World.size_drew]; omega) | (simp only [World.size_drew, World.size_alloc]; omega)) (by first | omega | (simp only [World.size_alloc]; omega) | (simp only [World.size_drew]; omega) | (simp only [World.size_drew, World.size_alloc]; omega)))
      have Og := Lib.hid (ow_carry Og.out Gg.out hk (by first | omega | (simp only [World.size_alloc]; omega) | (simp only [World.size_drew]; omega) | (simp only [World.size_drew, World.size_alloc]; omega)))
      clear hk hb xx10 xx11 xx12 xx1l
      go_wp2_with fail
      refine (eqBindingS y Bg BW dg dW _ (rd_und Cg.out (by first | omega | (simp only [World.size_alloc]; omega) | (simp only [World.size_drew]; omega) | (simp only [World.size_drew, World.size_alloc]; omega))) (rd_und CW.out (by first | omega | (simp only [World.size_alloc]; omega) | (simp only [World.size_drew]; omega) | (simp only [World.size_drew, World.size_alloc]; omega)))).mono ?_
      rintro e w16 ⟨rfl, hb⟩
      have hk := Keep.below hb
      have h16 : Below w.heap.size w w16 := h15.trans (hb.mono h15.size)
      have s16 := hk.size
      have R0 := Lib.hid (rd_carry R0.out hk (by first | omega | (simp only [World.size_alloc]; omega) | (simp only [World.size_drew]; omega) | (simp only [World.size_drew, World.size_alloc]; omega)) (by first | omega | (simp only [World.size_alloc]; omega) | (simp only [World.size_drew]; omega) | (simp only [World.size_drew, World.size_alloc]; omega)))
      have R1 := Lib.hid (rd_carry R1.out hk (by first | omega | (simp only [World.size_alloc]; omega) | (simp only [World.size_drew]; omega) | (simp only [World.size_drew, World.size_alloc]; omega)) (by first | omega | (simp only [World.size_alloc]; omega) | (simp only [World.size_drew]; omega) | (simp only [World.size_drew, World.size_alloc]; omega)))
      have P0 := Lib.hid (wh_carry P0.out hk (by first | omega | (simp only [World.size_alloc]; omega) | (simp only [World.size_drew]; omega) | (simp only [World.size_drew, World.size_alloc]; omega)))
      have P1 := Lib.hid (wh_carry P1.out hk (by first | omega | (simp only [World.size_alloc]; omega) | (simp only [World.size_drew]; omega) | (simp only [World.size_drew, World.size_alloc]; omega)))
      have CW := Lib.hid (rd_carry CW.out hk (by first | omega | (simp only [World.size_alloc]; omega) | (simp only [World.size_drew]; omega) | (simp only [World.size_drew, World.size_alloc]; omega)) (by first | omega | (simp only [World.size_alloc]; omega) | (simp only [World.size_drew]; omega) | (simp only [World.size_drew, World.size_alloc]; omega)))
      have Xx0 := Lib.hid (wh_carry Xx0.out hk (by first | omega | (simp only [World.size_alloc]; omega) | (simp only [World.size_drew]; omega) | (simp only [World.size_drew, World.size_alloc]; omega)))
      have Xx1 := Lib.hid (wh_carry Xx1.out hk (by first | omega | (simp only [World.size_alloc]; omega) | (simp only [World.size_drew]; omega) | (simp only [World.size_drew, World.size_alloc]; omega)))
      have Cg := Lib.hid (rd_carry Cg.out hk (by first | omega | (simp only [World.size_alloc]; omega) | (simp only [World.size_drew]; omega) | (simp only [World.size_drew, World.size_alloc]; omega)) (by first | omega | (simp only [World.size_alloc]; omega) | (simp only [World.size_drew]; omega) | (simp only [World.size_drew, World.size_alloc]; omega)))
      have Og := Lib.hid (ow_carry Og.out Gg.out hk (by first | omega | (simp only [World.size_alloc]; omega) | (simp only [World.size_drew]; omega) | (simp only [World.size_drew, World.size_alloc]; omega)))
      clear hk hb
      obtain ⟨m, em⟩ : ∃ q : Nat, q = 1 + DV.cntE (BindingX.rows y) := ⟨_, rfl⟩
      have EM := Lib.hid em
      have tm : ¬ ((m : Nat) : Int) < 0 := by omega
      have tm2 : (((m : Nat) : Int) == ((m : Nat) : Int)) = true := by simp
      clear em
      go_wp2_with fail
      refine (markBindingS y Bg dg 1 _ bsg _ Og.out Dg.out (by decide) hcnt).mono ?_
      rw [← EM.out]
      rintro e w17 ⟨rfl, hmk, hb⟩
      have hk := Keep.butV (lo := (w7.heap.size + 1)) (hi := w8.heap.size) hb Gg.out
      have h17 : Below w.heap.size w w17 := below_butV h16 hb h16.size (fun x hx => by have := Gg.out x hx; omega)
      have s17 := hk.size
      have R0 := Lib.hid (rd_carry R0.out hk (by first | omega | (simp only [World.size_alloc]; omega) | (simp only [World.size_drew]; omega) | (simp only [World.size_drew, World.size_alloc]; omega)) (by first | omega | (simp only [World.size_alloc]; omega) | (simp only [World.size_drew]; omega) | (simp only [World.size_drew, World.size_alloc]; omega)))
      have R1 := Lib.hid (rd_carry R1.out hk (by first | omega | (simp only [World.size_alloc]; omega) | (simp only [World.size_drew]; omega) | (simp only [World.size_drew, World.size_alloc]; omega)) (by first | omega | (simp only [World.size_alloc]; omega) | (simp only [World.size_drew]; omega) | (simp only [World.size_drew, World.size_alloc]; omega)))
      have P0 := Lib.hid (wh_carry P0.out hk (by first | omega | (simp only [World.size_alloc]; omega) | (simp only [World.size_drew]; omega) | (simp only [World.size_drew, World.size_alloc]; omega)))
      have P1 := Lib.hid (wh_carry P1.out hk (by first | omega | (simp only [World.size_alloc]; omega) | (simp only [World.size_drew]; omega) | (simp only [World.size_drew, World.size_alloc]; omega)))
      have CW := Lib.hid (rd_carry CW.out hk (by first | omega | (simp only [World.size_alloc]; omega) | (simp only [World.size_drew]; omega) | (simp only [World.size_drew, World.size_alloc]; omega)) (by first | omega | (simp only [World.size_alloc]; omega) | (simp only [World.size_drew]; omega) | (simp only [World.size_drew, World.size_alloc]; omega)))
      have Xx0 := Lib.hid (wh_carry Xx0.out hk (by first | omega | (simp only [World.size_alloc]; omega) | (simp only [World.size_drew]; omega) | (simp only [World.size_drew, World.size_alloc]; omega)))
      have Xx1 := Lib.hid (wh_carry Xx1.out hk (by first | omega | (simp only [World.size_alloc]; omega) | (simp only [World.size_drew]; omega) | (simp only [World.size_drew, World.size_alloc]; omega)))
      clear hk hb
      have hmr := OwV_read (P := Bet ((w7.heap.size + 1)) (w8.heap.size)) _ Gg.out hmk
      have M := Lib.hid hmr
      clear hmk hmr
      go_wp2_with fail
      refine (heldBindingS y Bg dg 1 _ (rd_und M.out (by first | omega | (simp only [World.size_alloc]; omega) | (simp only [World.size_drew]; omega) | (simp only [World.size_drew, World.size_alloc]; omega))) (by decide) hcnt).mono ?_
      rw [← EM.out]
      rintro e w18 ⟨rfl, hb⟩
      have hk := Keep.below hb
      have h18 : Below w.heap.size w w18 := h17.trans (hb.mono h17.size)
      have s18 := hk.size
      have R0 := Lib.hid (rd_carry R0.out hk (by first | omega | (simp only [World.size_alloc]; omega) | (simp only [World.size_drew]; omega) | (simp only [World.size_drew, World.size_alloc]; omega)) (by first | omega | (simp only [World.size_alloc]; omega) | (simp only [World.size_drew]; omega) | (simp only [World.size_drew, World.size_alloc]; omega)))
      have R1 := Lib.hid (rd_carry R1.out hk (by first | omega | (simp only [World.size_alloc]; omega) | (simp only [World.size_drew]; omega) | (simp only [World.size_drew, World.size_alloc]; omega)) (by first | omega | (simp only [World.size_alloc]; omega) | (simp only [World.size_drew]; omega) | (simp only [World.size_drew, World.size_alloc]; omega)))
      have P0 := Lib.hid (wh_carry P0.out hk (by first | omega | (simp only [World.size_alloc]; omega) | (simp only [World.size_drew]; omega) | (simp only [World.size_drew, World.size_alloc]; omega)))
      have P1 := Lib.hid (wh_carry P1.out hk (by first | omega | (simp only [World.size_alloc]; omega) | (simp only [World.size_drew]; omega) | (simp only [World.size_drew, World.size_alloc]; omega)))
      have CW := Lib.hid (rd_carry CW.out hk (by first | omega | (simp only [World.size_alloc]; omega) | (simp only [World.size_drew]; omega) | (simp only [World.size_drew, World.size_alloc]; omega)) (by first | omega | (simp only [World.size_alloc]; omega) | (simp only [World.size_drew]; omega) | (simp only [World.size_drew, World.size_alloc]; omega)))
      have Xx0 := Lib.hid (wh_carry Xx0.out hk (by first | omega | (simp only [World.size_alloc]; omega) | (simp only [World.size_drew]; omega) | (simp only [World.size_drew, World.size_alloc]; omega)))
      have Xx1 := Lib.hid (wh_carry Xx1.out hk (by first | omega | (simp only [World.size_alloc]; omega) | (simp only [World.size_drew]; omega) | (simp only [World.size_drew, World.size_alloc]; omega)))
      have M := Lib.hid (rd_carry M.out hk (by first | omega | (simp only [World.size_alloc]; omega) | (simp only [World.size_drew]; omega) | (simp only [World.size_drew, World.size_alloc]; omega)) (by first | omega | (simp only [World.size_alloc]; omega) | (simp only [World.size_drew]; omega) | (simp only [World.size_drew, World.size_alloc]; omega)))
      clear hk hb
      go_upto_region 31 with (fail)
      obtain ⟨p00, p01, p02⟩ := cells3 P0.out
      have p0l := P0.out.lt
      obtain ⟨p10, p11, p12⟩ := cells3 P1.out
      have p1l := P1.out.lt
      have hk := Keep.below ((Below.refl _ w18).drew)
      have h18d := h18.drew
      have R0 := Lib.hid (rd_carry R0.out hk (by first | omega | (simp only [World.size_alloc]; omega) | (simp only [World.size_drew]; omega) | (simp only [World.size_drew, World.size_alloc]; omega)) (by first | omega | (simp only [World.size_alloc]; omega) | (simp only [World.size_drew]; omega) | (simp only [World.size_drew, World.size_alloc]; omega)))
      have R1 := Lib.hid (rd_carry R1.out hk (by first | omega | (simp only [World.size_alloc]; omega) | (simp only [World.size_drew]; omega) | (simp only [World.size_drew, World.size_alloc]; omega)) (by first | omega | (simp only [World.size_alloc]; omega) | (simp only [World.size_drew]; omega) | (simp only [World.size_drew, World.size_alloc]; omega)))
      have P0 := Lib.hid (wh_carry P0.out hk (by first | omega | (simp only [World.size_alloc]; omega) | (simp only [World.size_drew]; omega) | (simp only [World.size_drew, World.size_alloc]; omega)))
      have P1 := Lib.hid (wh_carry P1.out hk (by first | omega | (simp only [World.size_alloc]; omega) | (simp only [World.size_drew]; omega) | (simp only [World.size_drew, World.size_alloc]; omega)))
      have CW := Lib.hid (rd_carry CW.out hk (by first | omega | (simp only [World.size_alloc]; omega) | (simp only [World.size_drew]; omega) | (simp only [World.size_drew, World.size_alloc]; omega)) (by first | omega | (simp only [World.size_alloc]; omega) | (simp only [World.size_drew]; omega) | (simp only [World.size_drew, World.size_alloc]; omega)))
      have Xx0 := Lib.hid (wh_carry Xx0.out hk (by first | omega | (simp only [World.size_alloc]; omega) | (simp only [World.size_drew]; omega) | (simp only [World.size_drew, World.size_alloc]; omega)))
      have Xx1 := Lib.hid (wh_carry Xx1.out hk (by first | omega | (simp only [World.size_alloc]; omega) | (simp only [World.size_drew]; omega) | (simp only [World.size_drew, World.size_alloc]; omega)))
      have M := Lib.hid (rd_carry M.out hk (by first | omega | (simp only [World.size_alloc]; omega) | (simp only [World.size_drew]; omega) | (simp only [World.size_drew, World.size_alloc]; omega)) (by first | omega | (simp only [World.size_alloc]; omega) | (simp only [World.size_drew]; omega) | (simp only [World.size_drew, World.size_alloc]; omega)))
      clear hk
      go_region_held3 (fun w' => w'.cell? ⟨w.heap.size, 0, none⟩ = some (.int .i64 x0.kind_) ∧ w'.cell? ⟨w.heap.size, 1, none⟩ = some (.string x0.name_) ∧ w'.cell? ⟨w.heap.size, 2, none⟩ = some (.slice A0 x0.args_.length c0) ∧ w'.cell? ⟨w.heap.size + 1, 0, none⟩ = some (.int .i64 x1.kind_) ∧ w'.cell? ⟨w.heap.size + 1, 1, none⟩ = some (.string x1.name_) ∧ w'.cell? ⟨w.heap.size + 1, 2, none⟩ = some (.slice A1 x1.args_.length c1))
        (first
          | go_keep
          | exact (⟨(cells3 P0.out).1, (cells3 P0.out).2.1, (cells3 P0.out).2.2, (cells3 P1.out)⟩))
        (first
          | (go_at_call_of 30 (Value.agg #[.int .i64 x0.kind_, .string x0.name_, .slice A0 x0.args_.length c0])
             refine (toType x0 _ _ hww0 ⟨_, _, rfl, rd_und R0.out (by first | omega | (simp only [World.size_alloc]; omega) | (simp only [World.size_drew]; omega) | (simp only [World.size_drew, World.size_alloc]; omega))⟩).mono ?_
             intro e w19 hm
             obtain ⟨Bz0, dz0, bsz0, rfl, ho, hnd, hr, hrg, hb⟩ := madeV_get hm
             simp only [World.size_drew] at ho hr hrg
             clear hm
             have hk := Keep.below hb
             have h19 : Below w.heap.size w w19 := h18d.trans (hb.mono h18d.size)
             have s19 := hk.size
             simp only [World.size_drew] at s19
             have R0 := Lib.hid (rd_carry R0.out hk (by first | omega | (simp only [World.size_alloc]; omega) | (simp only [World.size_drew]; omega) | (simp only [World.size_drew, World.size_alloc]; omega)) (by first | omega | (simp only [World.size_alloc]; omega) | (simp only [World.size_drew]; omega) | (simp only [World.size_drew, World.size_alloc]; omega)))
             have R1 := Lib.hid (rd_carry R1.out hk (by first | omega | (simp only [World.size_alloc]; omega) | (simp only [World.size_drew]; omega) | (simp only [World.size_drew, World.size_alloc]; omega)) (by first | omega | (simp only [World.size_alloc]; omega) | (simp only [World.size_drew]; omega) | (simp only [World.size_drew, World.size_alloc]; omega)))
             have P0 := Lib.hid (wh_carry P0.out hk (by first | omega | (simp only [World.size_alloc]; omega) | (simp only [World.size_drew]; omega) | (simp only [World.size_drew, World.size_alloc]; omega)))
             have P1 := Lib.hid (wh_carry P1.out hk (by first | omega | (simp only [World.size_alloc]; omega) | (simp only [World.size_drew]; omega) | (simp only [World.size_drew, World.size_alloc]; omega)))
             have CW := Lib.hid (rd_carry CW.out hk (by first | omega | (simp only [World.size_alloc]; omega) | (simp only [World.size_drew]; omega) | (simp only [World.size_drew, World.size_alloc]; omega)) (by first | omega | (simp only [World.size_alloc]; omega) | (simp only [World.size_drew]; omega) | (simp only [World.size_drew, World.size_alloc]; omega)))
             have Xx0 := Lib.hid (wh_carry Xx0.out hk (by first | omega | (simp only [World.size_alloc]; omega) | (simp only [World.size_drew]; omega) | (simp only [World.size_drew, World.size_alloc]; omega)))
             have Xx1 := Lib.hid (wh_carry Xx1.out hk (by first | omega | (simp only [World.size_alloc]; omega) | (simp only [World.size_drew]; omega) | (simp only [World.size_drew, World.size_alloc]; omega)))
             have M := Lib.hid (rd_carry M.out hk (by first | omega | (simp only [World.size_alloc]; omega) | (simp only [World.size_drew]; omega) | (simp only [World.size_drew, World.size_alloc]; omega)) (by first | omega | (simp only [World.size_alloc]; omega) | (simp only [World.size_drew]; omega) | (simp only [World.size_drew, World.size_alloc]; omega)))
             clear hk hb
             have Cz0 := Lib.hid hr
             clear hr hrg ho hnd)
          | (go_at_call_of 30 (Value.agg #[.int .i64 x1.kind_, .string x1.name_, .slice A1 x1.args_.length c1])
             refine (toType x1 _ _ hww1 ⟨_, _, rfl, rd_und R1.out (by first | omega | (simp only [World.size_alloc]; omega) | (simp only [World.size_drew]; omega) | (simp only [World.size_drew, World.size_alloc]; omega))⟩).mono ?_
             intro e w20 hm
             obtain ⟨Bz1, dz1, bsz1, rfl, ho, hnd, hr, hrg, hb⟩ := madeV_get hm
             clear hm
             have hk := Keep.below hb
             have h20 : Below w.heap.size w w20 := h19.trans (hb.mono h19.size)
             have s20 := hk.size
             have R0 := Lib.hid (rd_carry R0.out hk (by first | omega | (simp only [World.size_alloc]; omega) | (simp only [World.size_drew]; omega) | (simp only [World.size_drew, World.size_alloc]; omega)) (by first | omega | (simp only [World.size_alloc]; omega) | (simp only [World.size_drew]; omega) | (simp only [World.size_drew, World.size_alloc]; omega)))
             have R1 := Lib.hid (rd_carry R1.out hk (by first | omega | (simp only [World.size_alloc]; omega) | (simp only [World.size_drew]; omega) | (simp only [World.size_drew, World.size_alloc]; omega)) (by first | omega | (simp only [World.size_alloc]; omega) | (simp only [World.size_drew]; omega) | (simp only [World.size_drew, World.size_alloc]; omega)))
             have P0 := Lib.hid (wh_carry P0.out hk (by first | omega | (simp only [World.size_alloc]; omega) | (simp only [World.size_drew]; omega) | (simp only [World.size_drew, World.size_alloc]; omega)))
             have P1 := Lib.hid (wh_carry P1.out hk (by first | omega | (simp only [World.size_alloc]; omega) | (simp only [World.size_drew]; omega) | (simp only [World.size_drew, World.size_alloc]; omega)))
             have CW := Lib.hid (rd_carry CW.out hk (by first | omega | (simp only [World.size_alloc]; omega) | (simp only [World.size_drew]; omega) | (simp only [World.size_drew, World.size_alloc]; omega)) (by first | omega | (simp only [World.size_alloc]; omega) | (simp only [World.size_drew]; omega) | (simp only [World.size_drew, World.size_alloc]; omega)))
             have Xx0 := Lib.hid (wh_carry Xx0.out hk (by first | omega | (simp only [World.size_alloc]; omega) | (simp only [World.size_drew]; omega) | (simp only [World.size_drew, World.size_alloc]; omega)))
             have Xx1 := Lib.hid (wh_carry Xx1.out hk (by first | omega | (simp only [World.size_alloc]; omega) | (simp only [World.size_drew]; omega) | (simp only [World.size_drew, World.size_alloc]; omega)))
             have M := Lib.hid (rd_carry M.out hk (by first | omega | (simp only [World.size_alloc]; omega) | (simp only [World.size_drew]; omega) | (simp only [World.size_drew, World.size_alloc]; omega)) (by first | omega | (simp only [World.size_alloc]; omega) | (simp only [World.size_drew]; omega) | (simp only [World.size_drew, World.size_alloc]; omega)))
             have Cz0 := Lib.hid (rd_carry Cz0.out hk (by first | omega | (simp only [World.size_alloc]; omega) | (simp only [World.size_drew]; omega) | (simp only [World.size_drew, World.size_alloc]; omega)) (by first | omega | (simp only [World.size_alloc]; omega) | (simp only [World.size_drew]; omega) | (simp only [World.size_drew, World.size_alloc]; omega)))
             clear hk hb
             have Cz1 := Lib.hid hr
             clear hr hrg ho hnd)
          | (go_at_call 17
             refine (HBB.out ▸ HY.out ▸ implMatch x0 x1 Bz0 Bz1 dz0 dz1 _ (by have := TypeX.size_wt x0; omega) (by have := TypeX.size_wt x1; omega) (rd_und Cz0.out (by first | omega | (simp only [World.size_alloc]; omega) | (simp only [World.size_drew]; omega) | (simp only [World.size_drew, World.size_alloc]; omega))) (rd_und Cz1.out (by first | omega | (simp only [World.size_alloc]; omega) | (simp only [World.size_drew]; omega) | (simp only [World.size_drew, World.size_alloc]; omega)))).mono ?_
             intro e w21 hm
             obtain ⟨Bh, dh, bsh, rfl, ho, hnd, hr, hrg, hb⟩ := madeBs_get HRL.out hm
             clear hm
             have hk := Keep.below hb
             have h21 : Below w.heap.size w w21 := h20.trans (hb.mono h20.size)
             have s21 := hk.size
             have R0 := Lib.hid (rd_carry R0.out hk (by first | omega | (simp only [World.size_alloc]; omega) | (simp only [World.size_drew]; omega) | (simp only [World.size_drew, World.size_alloc]; omega)) (by first | omega | (simp only [World.size_alloc]; omega) | (simp only [World.size_drew]; omega) | (simp only [World.size_drew, World.size_alloc]; omega)))
             have R1 := Lib.hid (rd_carry R1.out hk (by first | omega | (simp only [World.size_alloc]; omega) | (simp only [World.size_drew]; omega) | (simp only [World.size_drew, World.size_alloc]; omega)) (by first | omega | (simp only [World.size_alloc]; omega) | (simp only [World.size_drew]; omega) | (simp only [World.size_drew, World.size_alloc]; omega)))
             have P0 := Lib.hid (wh_carry P0.out hk (by first | omega | (simp only [World.size_alloc]; omega) | (simp only [World.size_drew]; omega) | (simp only [World.size_drew, World.size_alloc]; omega)))
             have P1 := Lib.hid (wh_carry P1.out hk (by first | omega | (simp only [World.size_alloc]; omega) | (simp only [World.size_drew]; omega) | (simp only [World.size_drew, World.size_alloc]; omega)))
             have CW := Lib.hid (rd_carry CW.out hk (by first | omega | (simp only [World.size_alloc]; omega) | (simp only [World.size_drew]; omega) | (simp only [World.size_drew, World.size_alloc]; omega)) (by first | omega | (simp only [World.size_alloc]; omega) | (simp only [World.size_drew]; omega) | (simp only [World.size_drew, World.size_alloc]; omega)))
             have Xx0 := Lib.hid (wh_carry Xx0.out hk (by first | omega | (simp only [World.size_alloc]; omega) | (simp only [World.size_drew]; omega) | (simp only [World.size_drew, World.size_alloc]; omega)))
             have Xx1 := Lib.hid (wh_carry Xx1.out hk (by first | omega | (simp only [World.size_alloc]; omega) | (simp only [World.size_drew]; omega) | (simp only [World.size_drew, World.size_alloc]; omega)))
             have M := Lib.hid (rd_carry M.out hk (by first | omega | (simp only [World.size_alloc]; omega) | (simp only [World.size_drew]; omega) | (simp only [World.size_drew, World.size_alloc]; omega)) (by first | omega | (simp only [World.size_alloc]; omega) | (simp only [World.size_drew]; omega) | (simp only [World.size_drew, World.size_alloc]; omega)))
             have Cz0 := Lib.hid (rd_carry Cz0.out hk (by first | omega | (simp only [World.size_alloc]; omega) | (simp only [World.size_drew]; omega) | (simp only [World.size_drew, World.size_alloc]; omega)) (by first | omega | (simp only [World.size_alloc]; omega) | (simp only [World.size_drew]; omega) | (simp only [World.size_drew, World.size_alloc]; omega)))
             have Cz1 := Lib.hid (rd_carry Cz1.out hk (by first | omega | (simp only [World.size_alloc]; omega) | (simp only [World.size_drew]; omega) | (simp only [World.size_drew, World.size_alloc]; omega)) (by first | omega | (simp only [World.size_alloc]; omega) | (simp only [World.size_drew]; omega) | (simp only [World.size_drew, World.size_alloc]; omega)))
             clear hk hb
             have Ch := Lib.hid hr
             clear hr hrg ho hnd))
      clear p00 p01 p02 p0l p10 p11 p12 p1l
      go_wp2_with fail
      refine (eqBindingS y Bh BW dh dW _ (rd_und Ch.out (by first | omega | (simp only [World.size_alloc]; omega) | (simp only [World.size_drew]; omega) | (simp only [World.size_drew, World.size_alloc]; omega))) (rd_und CW.out (by first | omega | (simp only [World.size_alloc]; omega) | (simp only [World.size_drew]; omega) | (simp only [World.size_drew, World.size_alloc]; omega)))).mono ?_
      rintro e w22 ⟨rfl, hb⟩
      have hk := Keep.below hb
      have h22 : Below w.heap.size w w22 := h21.trans (hb.mono h21.size)
      have s22 := hk.size
      have R0 := Lib.hid (rd_carry R0.out hk (by first | omega | (simp only [World.size_alloc]; omega) | (simp only [World.size_drew]; omega) | (simp only [World.size_drew, World.size_alloc]; omega)) (by first | omega | (simp only [World.size_alloc]; omega) | (simp only [World.size_drew]; omega) | (simp only [World.size_drew, World.size_alloc]; omega)))
      have R1 := Lib.hid (rd_carry R1.out hk (by first | omega | (simp only [World.size_alloc]; omega) | (simp only [World.size_drew]; omega) | (simp only [World.size_drew, World.size_alloc]; omega)) (by first | omega | (simp only [World.size_alloc]; omega) | (simp only [World.size_drew]; omega) | (simp only [World.size_drew, World.size_alloc]; omega)))
      have P0 := Lib.hid (wh_carry P0.out hk (by first | omega | (simp only [World.size_alloc]; omega) | (simp only [World.size_drew]; omega) | (simp only [World.size_drew, World.size_alloc]; omega)))
      have P1 := Lib.hid (wh_carry P1.out hk (by first | omega | (simp only [World.size_alloc]; omega) | (simp only [World.size_drew]; omega) | (simp only [World.size_drew, World.size_alloc]; omega)))
      have CW := Lib.hid (rd_carry CW.out hk (by first | omega | (simp only [World.size_alloc]; omega) | (simp only [World.size_drew]; omega) | (simp only [World.size_drew, World.size_alloc]; omega)) (by first | omega | (simp only [World.size_alloc]; omega) | (simp only [World.size_drew]; omega) | (simp only [World.size_drew, World.size_alloc]; omega)))
      have Xx0 := Lib.hid (wh_carry Xx0.out hk (by first | omega | (simp only [World.size_alloc]; omega) | (simp only [World.size_drew]; omega) | (simp only [World.size_drew, World.size_alloc]; omega)))
      have Xx1 := Lib.hid (wh_carry Xx1.out hk (by first | omega | (simp only [World.size_alloc]; omega) | (simp only [World.size_drew]; omega) | (simp only [World.size_drew, World.size_alloc]; omega)))
      have M := Lib.hid (rd_carry M.out hk (by first | omega | (simp only [World.size_alloc]; omega) | (simp only [World.size_drew]; omega) | (simp only [World.size_drew, World.size_alloc]; omega)) (by first | omega | (simp only [World.size_alloc]; omega) | (simp only [World.size_drew]; omega) | (simp only [World.size_drew, World.size_alloc]; omega)))
      have Ch := Lib.hid (rd_carry Ch.out hk (by first | omega | (simp only [World.size_alloc]; omega) | (simp only [World.size_drew]; omega) | (simp only [World.size_drew, World.size_alloc]; omega)) (by first | omega | (simp only [World.size_alloc]; omega) | (simp only [World.size_drew]; omega) | (simp only [World.size_drew, World.size_alloc]; omega)))
      clear hk hb
      go_wp2_with fail
      refine (heldBindingS y Bg dg 1 _ (rd_und M.out (by first | omega | (simp only [World.size_alloc]; omega) | (simp only [World.size_drew]; omega) | (simp only [World.size_drew, World.size_alloc]; omega))) (by decide) hcnt).mono ?_
      rw [← EM.out]
      rintro e w23 ⟨rfl, hb⟩
      have hk := Keep.below hb
      have h23 : Below w.heap.size w w23 := h22.trans (hb.mono h22.size)
      have s23 := hk.size
      have R0 := Lib.hid (rd_carry R0.out hk (by first | omega | (simp only [World.size_alloc]; omega) | (simp only [World.size_drew]; omega) | (simp only [World.size_drew, World.size_alloc]; omega)) (by first | omega | (simp only [World.size_alloc]; omega) | (simp only [World.size_drew]; omega) | (simp only [World.size_drew, World.size_alloc]; omega)))
      have R1 := Lib.hid (rd_carry R1.out hk (by first | omega | (simp only [World.size_alloc]; omega) | (simp only [World.size_drew]; omega) | (simp only [World.size_drew, World.size_alloc]; omega)) (by first | omega | (simp only [World.size_alloc]; omega) | (simp only [World.size_drew]; omega) | (simp only [World.size_drew, World.size_alloc]; omega)))
      have P0 := Lib.hid (wh_carry P0.out hk (by first | omega | (simp only [World.size_alloc]; omega) | (simp only [World.size_drew]; omega) | (simp only [World.size_drew, World.size_alloc]; omega)))
      have P1 := Lib.hid (wh_carry P1.out hk (by first | omega | (simp only [World.size_alloc]; omega) | (simp only [World.size_drew]; omega) | (simp only [World.size_drew, World.size_alloc]; omega)))
      have CW := Lib.hid (rd_carry CW.out hk (by first | omega | (simp only [World.size_alloc]; omega) | (simp only [World.size_drew]; omega) | (simp only [World.size_drew, World.size_alloc]; omega)) (by first | omega | (simp only [World.size_alloc]; omega) | (simp only [World.size_drew]; omega) | (simp only [World.size_drew, World.size_alloc]; omega)))
      have Xx0 := Lib.hid (wh_carry Xx0.out hk (by first | omega | (simp only [World.size_alloc]; omega) | (simp only [World.size_drew]; omega) | (simp only [World.size_drew, World.size_alloc]; omega)))
      have Xx1 := Lib.hid (wh_carry Xx1.out hk (by first | omega | (simp only [World.size_alloc]; omega) | (simp only [World.size_drew]; omega) | (simp only [World.size_drew, World.size_alloc]; omega)))
      have M := Lib.hid (rd_carry M.out hk (by first | omega | (simp only [World.size_alloc]; omega) | (simp only [World.size_drew]; omega) | (simp only [World.size_drew, World.size_alloc]; omega)) (by first | omega | (simp only [World.size_alloc]; omega) | (simp only [World.size_drew]; omega) | (simp only [World.size_drew, World.size_alloc]; omega)))
      have Ch := Lib.hid (rd_carry Ch.out hk (by first | omega | (simp only [World.size_alloc]; omega) | (simp only [World.size_drew]; omega) | (simp only [World.size_drew, World.size_alloc]; omega)) (by first | omega | (simp only [World.size_alloc]; omega) | (simp only [World.size_drew]; omega) | (simp only [World.size_drew, World.size_alloc]; omega)))
      clear hk hb
      go_wp2
      go_ret
      exact ⟨rfl, h23⟩
end Go.Proofs.Ytkiofeiinecpiaa
