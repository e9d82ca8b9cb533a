/- The law of Apply. -/
import Derived.Test.YtkiofeiinecpiaaZLawK
import Derived.Test.YtkiofeiinecpiaaZSpApply
import Derived.Test.YtkiofeiinecpiaaZApplyI
import Derived.Test.YtkiofeiinecpiaaZLawK2
namespace Go.Proofs.Ytkiofeiinecpiaa
open Go.RowKit Go.Lib

set_option maxRecDepth 100000 in
set_option maxHeartbeats 8000000 in
theorem lawApply (l0 : List BindingX) (A0 : Option Addr) (c0 : Nat) (x1 : TypeX) (A1 : Option Addr) (c1 : Nat) (w : World) (hok0 : DV.okE (BindingX.rows l0)) (hn0 : l0.length ≤ 9223372036854775807) (hv0 : BindingRow w (Und w.heap.size) A0 c0 l0) (hok1 : DV.okL x1.cells) (hv1 : TypeRow w (Und w.heap.size) A1 c1 x1.args_) :
    Calls Try.prog 9 #[.slice A0 l0.length c0, .agg #[.int .i64 x1.kind_, .string x1.name_, .slice A1 x1.args_.length c1]] w fun e w' => e = .returned (.bool true) ∧ Below w.heap.size w w' := by
  have R0 := Lib.hid (rd_bet hv0)
  have OK0 := Lib.hid hok0
  have R1 := Lib.hid (rd_bet hv1)
  have OK1 := Lib.hid hok1
  clear hv0 hok0 hv1 hok1
  have h0 : Below w.heap.size w w := Below.refl _ _
  by_cases hw0 : DV.wtE (BindingX.rows l0) ≤ 1048576
  case neg =>
    have HF := Lib.hid (leftV_no (L := 1048576) (n := DV.wtE (BindingX.rows l0)) (by first | omega | (simp only [World.size_alloc]; omega) | (simp only [World.size_drew]; omega) | (simp only [World.size_drew, World.size_alloc]; omega)))
    have hk := Keep.alloc w (.cells #[.int .i64 x1.kind_, .string x1.name_, .slice A1 x1.args_.length c1] 44)
    have h0' := h0.alloc h0.size (.cells #[.int .i64 x1.kind_, .string x1.name_, .slice A1 x1.args_.length c1] 44)
    have R0 := Lib.hid (rd_carry R0.out hk (by first | omega | (simp only [World.size_alloc]; omega) | (simp only [World.size_drew]; omega) | (simp only [World.size_drew, World.size_alloc]; omega)) (by first | omega | (simp only [World.size_alloc]; omega) | (simp only [World.size_drew]; omega) | (simp only [World.size_drew, World.size_alloc]; omega)))
    have R1 := Lib.hid (rd_carry R1.out hk (by first | omega | (simp only [World.size_alloc]; omega) | (simp only [World.size_drew]; omega) | (simp only [World.size_drew, World.size_alloc]; omega)) (by first | omega | (simp only [World.size_alloc]; omega) | (simp only [World.size_drew]; omega) | (simp only [World.size_drew, World.size_alloc]; omega)))
    have P1 := Lib.hid (Whole.new w 44 #[.int .i64 x1.kind_, .string x1.name_, .slice A1 x1.args_.length c1])
    clear hk
    go_enter Try.func9, Try.ntmps9
    go_wp2_with fail
    refine (szBindingS l0 A0 c0 1048576 _ OK0.out hn0 (rd_und R0.out (by first | omega | (simp only [World.size_alloc]; omega) | (simp only [World.size_drew]; omega) | (simp only [World.size_drew, World.size_alloc]; omega))) (by decide)).mono ?_
    rw [HF.out]
    rintro e w1 ⟨rfl, hb⟩
    have hk := Keep.below hb
    have h1 : Below w.heap.size w w1 := h0'.trans (hb.mono h0'.size)
    have s1 := hk.size
    simp only [World.size_alloc] at s1
    have R0 := Lib.hid (rd_carry R0.out hk (by first | omega | (simp only [World.size_alloc]; omega) | (simp only [World.size_drew]; omega) | (simp only [World.size_drew, World.size_alloc]; omega)) (by first | omega | (simp only [World.size_alloc]; omega) | (simp only [World.size_drew]; omega) | (simp only [World.size_drew, World.size_alloc]; omega)))
    have R1 := Lib.hid (rd_carry R1.out hk (by first | omega | (simp only [World.size_alloc]; omega) | (simp only [World.size_drew]; omega) | (simp only [World.size_drew, World.size_alloc]; omega)) (by first | omega | (simp only [World.size_alloc]; omega) | (simp only [World.size_drew]; omega) | (simp only [World.size_drew, World.size_alloc]; omega)))
    have P1 := Lib.hid (wh_carry P1.out hk (by first | omega | (simp only [World.size_alloc]; omega) | (simp only [World.size_drew]; omega) | (simp only [World.size_drew, World.size_alloc]; omega)))
    clear hk hb
    go_wp2
    go_ret
    exact ⟨rfl, h1⟩
  case pos =>
    obtain ⟨L1, hL1, hl1⟩ : ∃ L : Nat, leftV 1048576 (DV.wtE (BindingX.rows l0)) = (L : Nat) ∧ L ≤ 1048576 := ⟨1048576 - DV.wtE (BindingX.rows l0), by rw [leftV_yes hw0]; omega, by omega⟩
    have HL1 := Lib.hid hL1
    have hnn1 : ¬ (L1 : Int) < 0 := by omega
    have hww0 : DV.wtE (BindingX.rows l0) ≤ 1048576 := by omega
    clear hL1
    by_cases hw1 : DV.wtL x1.cells ≤ L1
    case neg =>
      have HF := Lib.hid (leftV_no (L := L1) (n := DV.wtL x1.cells) (by first | omega | (simp only [World.size_alloc]; omega) | (simp only [World.size_drew]; omega) | (simp only [World.size_drew, World.size_alloc]; omega)))
      have hk := Keep.alloc w (.cells #[.int .i64 x1.kind_, .string x1.name_, .slice A1 x1.args_.length c1] 44)
      have h0' := h0.alloc h0.size (.cells #[.int .i64 x1.kind_, .string x1.name_, .slice A1 x1.args_.length c1] 44)
      have R0 := Lib.hid (rd_carry R0.out hk (by first | omega | (simp only [World.size_alloc]; omega) | (simp only [World.size_drew]; omega) | (simp only [World.size_drew, World.size_alloc]; omega)) (by first | omega | (simp only [World.size_alloc]; omega) | (simp only [World.size_drew]; omega) | (simp only [World.size_drew, World.size_alloc]; omega)))
      have R1 := Lib.hid (rd_carry R1.out hk (by first | omega | (simp only [World.size_alloc]; omega) | (simp only [World.size_drew]; omega) | (simp only [World.size_drew, World.size_alloc]; omega)) (by first | omega | (simp only [World.size_alloc]; omega) | (simp only [World.size_drew]; omega) | (simp only [World.size_drew, World.size_alloc]; omega)))
      have P1 := Lib.hid (Whole.new w 44 #[.int .i64 x1.kind_, .string x1.name_, .slice A1 x1.args_.length c1])
      clear hk
      go_enter Try.func9, Try.ntmps9
      go_wp2_with fail
      refine (szBindingS l0 A0 c0 1048576 _ OK0.out hn0 (rd_und R0.out (by first | omega | (simp only [World.size_alloc]; omega) | (simp only [World.size_drew]; omega) | (simp only [World.size_drew, World.size_alloc]; omega))) (by decide)).mono ?_
      rw [HL1.out]
      rintro e w1 ⟨rfl, hb⟩
      have hk := Keep.below hb
      have h1 : Below w.heap.size w w1 := h0'.trans (hb.mono h0'.size)
      have s1 := hk.size
      simp only [World.size_alloc] at s1
      have R0 := Lib.hid (rd_carry R0.out hk (by first | omega | (simp only [World.size_alloc]; omega) | (simp only [World.size_drew]; omega) | (simp only [World.size_drew, World.size_alloc]; omega)) (by first | omega | (simp only [World.size_alloc]; omega) | (simp only [World.size_drew]; omega) | (simp only [World.size_drew, World.size_alloc]; omega)))
      have R1 := Lib.hid (rd_carry R1.out hk (by first | omega | (simp only [World.size_alloc]; omega) | (simp only [World.size_drew]; omega) | (simp only [World.size_drew, World.size_alloc]; omega)) (by first | omega | (simp only [World.size_alloc]; omega) | (simp only [World.size_drew]; omega) | (simp only [World.size_drew, World.size_alloc]; omega)))
      have P1 := Lib.hid (wh_carry P1.out hk (by first | omega | (simp only [World.size_alloc]; omega) | (simp only [World.size_drew]; omega) | (simp only [World.size_drew, World.size_alloc]; omega)))
      clear hk hb
      obtain ⟨p10, p11, p12⟩ := cells3 P1.out
      have p1l := P1.out.lt
      go_wp2_with fail
      refine (szType x1 _ L1 _ OK1.out ⟨_, _, rfl, rd_und R1.out (by first | omega | (simp only [World.size_alloc]; omega) | (simp only [World.size_drew]; omega) | (simp only [World.size_drew, World.size_alloc]; omega))⟩ hl1).mono ?_
      rw [HF.out]
      rintro e w2 ⟨rfl, hb⟩
      have hk := Keep.below hb
      have h2 : Below w.heap.size w w2 := h1.trans (hb.mono h1.size)
      have s2 := hk.size
      have R0 := Lib.hid (rd_carry R0.out hk (by first | omega | (simp only [World.size_alloc]; omega) | (simp only [World.size_drew]; omega) | (simp only [World.size_drew, World.size_alloc]; omega)) (by first | omega | (simp only [World.size_alloc]; omega) | (simp only [World.size_drew]; omega) | (simp only [World.size_drew, World.size_alloc]; omega)))
      have R1 := Lib.hid (rd_carry R1.out hk (by first | omega | (simp only [World.size_alloc]; omega) | (simp only [World.size_drew]; omega) | (simp only [World.size_drew, World.size_alloc]; omega)) (by first | omega | (simp only [World.size_alloc]; omega) | (simp only [World.size_drew]; omega) | (simp only [World.size_drew, World.size_alloc]; omega)))
      have P1 := Lib.hid (wh_carry P1.out hk (by first | omega | (simp only [World.size_alloc]; omega) | (simp only [World.size_drew]; omega) | (simp only [World.size_drew, World.size_alloc]; omega)))
      clear hk hb p10 p11 p12 p1l
      go_wp2
      go_ret
      exact ⟨rfl, h2⟩
    case pos =>
      obtain ⟨L2, hL2, hl2⟩ : ∃ L : Nat, leftV L1 (DV.wtL x1.cells) = (L : Nat) ∧ L ≤ 1048576 := ⟨L1 - DV.wtL x1.cells, by rw [leftV_yes hw1]; omega, by omega⟩
      have HL2 := Lib.hid hL2
      have hnn2 : ¬ (L2 : Int) < 0 := by omega
      have hww1 : DV.wtL x1.cells ≤ 1048576 := by omega
      clear hL2
      obtain ⟨y, hy⟩ : ∃ y, y = x1.sub (subX l0) := ⟨_, rfl⟩
      have HY := Lib.hid hy
      have hcnt : 1 + tcntL y.cells ≤ 4398046511104 := by rw [hy]; exact cnt_sub hww0 hww1
      clear hy
      have hk := Keep.alloc w (.cells #[.int .i64 x1.kind_, .string x1.name_, .slice A1 x1.args_.length c1] 44)
      have h0' := h0.alloc h0.size (.cells #[.int .i64 x1.kind_, .string x1.name_, .slice A1 x1.args_.length c1] 44)
      have R0 := Lib.hid (rd_carry R0.out hk (by first | omega | (simp only [World.size_alloc]; omega) | (simp only [World.size_drew]; omega) | (simp only [World.size_drew, World.size_alloc]; omega)) (by first | omega | (simp only [World.size_alloc]; omega) | (simp only [World.size_drew]; omega) | (simp only [World.size_drew, World.size_alloc]; omega)))
      have R1 := Lib.hid (rd_carry R1.out hk (by first | omega | (simp only [World.size_alloc]; omega) | (simp only [World.size_drew]; omega) | (simp only [World.size_drew, World.size_alloc]; omega)) (by first | omega | (simp only [World.size_alloc]; omega) | (simp only [World.size_drew]; omega) | (simp only [World.size_drew, World.size_alloc]; omega)))
      have P1 := Lib.hid (Whole.new w 44 #[.int .i64 x1.kind_, .string x1.name_, .slice A1 x1.args_.length c1])
      clear hk
      go_enter Try.func9, Try.ntmps9
      go_wp2_with fail
      refine (szBindingS l0 A0 c0 1048576 _ OK0.out hn0 (rd_und R0.out (by first | omega | (simp only [World.size_alloc]; omega) | (simp only [World.size_drew]; omega) | (simp only [World.size_drew, World.size_alloc]; omega))) (by decide)).mono ?_
      rw [HL1.out]
      rintro e w1 ⟨rfl, hb⟩
      have hk := Keep.below hb
      have h1 : Below w.heap.size w w1 := h0'.trans (hb.mono h0'.size)
      have s1 := hk.size
      simp only [World.size_alloc] at s1
      have R0 := Lib.hid (rd_carry R0.out hk (by first | omega | (simp only [World.size_alloc]; omega) | (simp only [World.size_drew]; omega) | (simp only [World.size_drew, World.size_alloc]; omega)) (by first | omega | (simp only [World.size_alloc]; omega) | (simp only [World.size_drew]; omega) | (simp only [World.size_drew, World.size_alloc]; omega)))
      have R1 := Lib.hid (rd_carry R1.out hk (by first | omega | (simp only [World.size_alloc]; omega) | (simp only [World.size_drew]; omega) | (simp only [World.size_drew, World.size_alloc]; omega)) (by first | omega | (simp only [World.size_alloc]; omega) | (simp only [World.size_drew]; omega) | (simp only [World.size_drew, World.size_alloc]; omega)))
      have P1 := Lib.hid (wh_carry P1.out hk (by first | omega | (simp only [World.size_alloc]; omega) | (simp only [World.size_drew]; omega) | (simp only [World.size_drew, World.size_alloc]; omega)))
      clear hk hb
      obtain ⟨p10, p11, p12⟩ := cells3 P1.out
      have p1l := P1.out.lt
      go_wp2_with fail
      refine (szType x1 _ L1 _ OK1.out ⟨_, _, rfl, rd_und R1.out (by first | omega | (simp only [World.size_alloc]; omega) | (simp only [World.size_drew]; omega) | (simp only [World.size_drew, World.size_alloc]; omega))⟩ hl1).mono ?_
      rw [HL2.out]
      rintro e w2 ⟨rfl, hb⟩
      have hk := Keep.below hb
      have h2 : Below w.heap.size w w2 := h1.trans (hb.mono h1.size)
      have s2 := hk.size
      have R0 := Lib.hid (rd_carry R0.out hk (by first | omega | (simp only [World.size_alloc]; omega) | (simp only [World.size_drew]; omega) | (simp only [World.size_drew, World.size_alloc]; omega)) (by first | omega | (simp only [World.size_alloc]; omega) | (simp only [World.size_drew]; omega) | (simp only [World.size_drew, World.size_alloc]; omega)))
      have R1 := Lib.hid (rd_carry R1.out hk (by first | omega | (simp only [World.size_alloc]; omega) | (simp only [World.size_drew]; omega) | (simp only [World.size_drew, World.size_alloc]; omega)) (by first | omega | (simp only [World.size_alloc]; omega) | (simp only [World.size_drew]; omega) | (simp only [World.size_drew, World.size_alloc]; omega)))
      have P1 := Lib.hid (wh_carry P1.out hk (by first | omega | (simp only [World.size_alloc]; omega) | (simp only [World.size_drew]; omega) | (simp only [World.size_drew, World.size_alloc]; omega)))
      clear hk hb p10 p11 p12 p1l
      go_upto_region 8 with (fail)
      obtain ⟨p10, p11, p12⟩ := cells3 P1.out
      have p1l := P1.out.lt
      go_cut [6] from 24 to 28 (fun v wc => BoxOut y w2 v wc)
      case first =>
        have hcur : Below w2.heap.size w2 w2 := Below.refl _ _
        go_region_with (first
          | (go_at_call 50
             refine (toBindingS l0 A0 c0 _ hww0 (rd_at R0.out (by first | omega | (simp only [World.size_alloc]; omega) | (simp only [World.size_drew]; omega) | (simp only [World.size_drew, World.size_alloc]; omega)) (by first | exact hcur | exact hcur.drew | exact hcur.alloc hcur.size _ | exact (hcur.alloc hcur.size _).drew | exact hcur.drew.alloc hcur.size _))).mono ?_
             intro e wz hm
             obtain ⟨Ba0, da0, bsa0, rfl, -, -, hr, -, hb⟩ := madeR_get (BindingX.rows_length l0) hm
             have Ca0 := Lib.hid (rd_und hr (Nat.le_refl _))
             clear hr
             first
               | (have hzl := Zb.lt hz; have hz := Zb.step hz hb)
               | (have hzl := Zb.lt hz.drew; have hz := Zb.step hz.drew hb)
               | (have hzl := Zb.lt (Zb.new hcur); have hz := Zb.step (Zb.new hcur) hb)
               | (have hzl := Zb.lt (Zb.new hcur).drew; have hz := Zb.step (Zb.new hcur).drew hb)
               | (have hzl := Zb.lt (Zb.new hcur.drew); have hz := Zb.step (Zb.new hcur.drew) hb)
               | skip
             have hcur := cur_trans (by first | exact hcur | exact hcur.drew | exact hcur.alloc hcur.size _ | exact (hcur.alloc hcur.size _).drew | exact hcur.drew.alloc hcur.size _) hb
             obtain ⟨p10, p11, p12⟩ := cells3 (whole_keep P1.out hcur)
             have p1l := (whole_keep P1.out hcur).lt
             clear hm hb)
          | (go_at_call 30
             refine (toType x1 _ _ hww1 ⟨_, _, rfl, rd_at R1.out (by first | omega | (simp only [World.size_alloc]; omega) | (simp only [World.size_drew]; omega) | (simp only [World.size_drew, World.size_alloc]; omega)) (by first | exact hcur | exact hcur.drew | exact hcur.alloc hcur.size _ | exact (hcur.alloc hcur.size _).drew | exact hcur.drew.alloc hcur.size _)⟩).mono ?_
             intro e wz hm
             obtain ⟨Ba1, da1, bsa1, rfl, -, -, hr, -, hb⟩ := madeV_get hm
             have Ca0 := Lib.hid ((Ca0.out.grow (by first | exact Below.refl _ _ | exact (Below.refl _ _).drew | exact (Below.refl _ _).alloc (Nat.le_refl _) _ | exact ((Below.refl _ _).alloc (Nat.le_refl _) _).drew | exact (Below.refl _ _).drew.alloc (Nat.le_refl _) _)).grow hb)
             have Ca1 := Lib.hid (rd_und hr (Nat.le_refl _))
             clear hr
             first
               | (have hzl := Zb.lt hz; have hz := Zb.step hz hb)
               | (have hzl := Zb.lt hz.drew; have hz := Zb.step hz.drew hb)
               | (have hzl := Zb.lt (Zb.new hcur); have hz := Zb.step (Zb.new hcur) hb)
               | (have hzl := Zb.lt (Zb.new hcur).drew; have hz := Zb.step (Zb.new hcur).drew hb)
               | (have hzl := Zb.lt (Zb.new hcur.drew); have hz := Zb.step (Zb.new hcur.drew) hb)
               | skip
             have hcur := cur_trans (by first | exact hcur | exact hcur.drew | exact hcur.alloc hcur.size _ | exact (hcur.alloc hcur.size _).drew | exact hcur.drew.alloc hcur.size _) hb
             obtain ⟨p10, p11, p12⟩ := cells3 (whole_keep P1.out hcur)
             have p1l := (whole_keep P1.out hcur).lt
             clear hm hb)
          | (go_at_call 43
             refine (HY.out ▸ specApply l0 Ba0 da0 x1 Ba1 da1 _ (by have := TypeX.size_wt x1; omega) (small_Binding hww0) (Ca0.out.grow (by first | exact Below.refl _ _ | exact (Below.refl _ _).drew | exact (Below.refl _ _).alloc (Nat.le_refl _) _ | exact ((Below.refl _ _).alloc (Nat.le_refl _) _).drew | exact (Below.refl _ _).drew.alloc (Nat.le_refl _) _)) (Ca1.out.grow (by first | exact Below.refl _ _ | exact (Below.refl _ _).drew | exact (Below.refl _ _).alloc (Nat.le_refl _) _ | exact ((Below.refl _ _).alloc (Nat.le_refl _) _).drew | exact (Below.refl _ _).drew.alloc (Nat.le_refl _) _))).mono ?_
             intro e wz hm
             obtain ⟨BW, dW, bsW, rfl, -, -, hr, -, hb⟩ := madeV_get hm
             first
               | (have hzl := Zb.lt hz; have hz := Zb.step hz hb)
               | (have hzl := Zb.lt hz.drew; have hz := Zb.step hz.drew hb)
               | (have hzl := Zb.lt (Zb.new hcur); have hz := Zb.step (Zb.new hcur) hb)
               | (have hzl := Zb.lt (Zb.new hcur).drew; have hz := Zb.step (Zb.new hcur).drew hb)
               | (have hzl := Zb.lt (Zb.new hcur.drew); have hz := Zb.step (Zb.new hcur.drew) hb)
               | skip
             have hen := Below.size (cur_start (E := w2) (by first | exact hcur | exact hcur.drew | exact hcur.alloc hcur.size _ | exact (hcur.alloc hcur.size _).drew | exact hcur.drew.alloc hcur.size _) hb)
             have hcur := cur_trans (by first | exact hcur | exact hcur.drew | exact hcur.alloc hcur.size _ | exact (hcur.alloc hcur.size _).drew | exact hcur.drew.alloc hcur.size _) hb
             obtain ⟨p10, p11, p12⟩ := cells3 (whole_keep P1.out hcur)
             have p1l := (whole_keep P1.out hcur).lt
             try (obtain ⟨z0, z1, z2⟩ := cells3 hz.1; have zf0 := hz.1.frozen 0; have zf1 := hz.1.frozen 1; have zf2 := hz.1.frozen 2)
             clear hm hb))
        all_goals (
          have HR := Lib.hid hr
          clear hr
          go_wp2
          go_meet
          case rel => first | exact box_a hcur HR.out hen | exact box_b hcur HR.out hen hz hzl)
      case rest =>
        obtain ⟨XW, BW, dW, rfl, hX, hwX, hr, hb⟩ := hcut
        obtain ⟨wc3, hwc⟩ : ∃ w', w' = wc := ⟨_, rfl⟩
        rw [← hwc] at hwX hr hb ⊢
        clear hwc
        clear p10 p11 p12 p1l
        have hk := Keep.below hb
        have h3 : Below w.heap.size w wc3 := h2.trans (hb.mono h2.size)
        have s3 := hk.size
        have lXW := hwX.lt
        have gXW := hX
        have R0 := Lib.hid (rd_carry R0.out hk (by first | omega | (simp only [World.size_alloc]; omega) | (simp only [World.size_drew]; omega) | (simp only [World.size_drew, World.size_alloc]; omega)) (by first | omega | (simp only [World.size_alloc]; omega) | (simp only [World.size_drew]; omega) | (simp only [World.size_drew, World.size_alloc]; omega)))
        have R1 := Lib.hid (rd_carry R1.out hk (by first | omega | (simp only [World.size_alloc]; omega) | (simp only [World.size_drew]; omega) | (simp only [World.size_drew, World.size_alloc]; omega)) (by first | omega | (simp only [World.size_alloc]; omega) | (simp only [World.size_drew]; omega) | (simp only [World.size_drew, World.size_alloc]; omega)))
        have P1 := Lib.hid (wh_carry P1.out hk (by first | omega | (simp only [World.size_alloc]; omega) | (simp only [World.size_drew]; omega) | (simp only [World.size_drew, World.size_alloc]; omega)))
        have XW := Lib.hid hwX
        have CW := Lib.hid hr
        clear hk hb hX hwX hr
        go_wp2_with fail
        refine (toBindingS l0 A0 c0 _ hww0 (rd_und R0.out (by first | omega | (simp only [World.size_alloc]; omega) | (simp only [World.size_drew]; omega) | (simp only [World.size_drew, World.size_alloc]; omega)))).mono ?_
        intro e w4 hm
        obtain ⟨Bx0, dx0, bsx0, rfl, ho, hnd, hr, hrg, hb⟩ := madeR_get (BindingX.rows_length l0) hm
        clear hm
        have hk := Keep.below hb
        have h4 : Below w.heap.size w w4 := h3.trans (hb.mono h3.size)
        have s4 := hk.size
        have R0 := Lib.hid (rd_carry R0.out hk (by first | omega | (simp only [World.size_alloc]; omega) | (simp only [World.size_drew]; omega) | (simp only [World.size_drew, World.size_alloc]; omega)) (by first | omega | (simp only [World.size_alloc]; omega) | (simp only [World.size_drew]; omega) | (simp only [World.size_drew, World.size_alloc]; omega)))
        have R1 := Lib.hid (rd_carry R1.out hk (by first | omega | (simp only [World.size_alloc]; omega) | (simp only [World.size_drew]; omega) | (simp only [World.size_drew, World.size_alloc]; omega)) (by first | omega | (simp only [World.size_alloc]; omega) | (simp only [World.size_drew]; omega) | (simp only [World.size_drew, World.size_alloc]; omega)))
        have P1 := Lib.hid (wh_carry P1.out hk (by first | omega | (simp only [World.size_alloc]; omega) | (simp only [World.size_drew]; omega) | (simp only [World.size_drew, World.size_alloc]; omega)))
        have XW := Lib.hid (wh_carry XW.out hk (by first | omega | (simp only [World.size_alloc]; omega) | (simp only [World.size_drew]; omega) | (simp only [World.size_drew, World.size_alloc]; omega)))
        have CW := Lib.hid (rd_carry CW.out hk (by first | omega | (simp only [World.size_alloc]; omega) | (simp only [World.size_drew]; omega) | (simp only [World.size_drew, World.size_alloc]; omega)) (by first | omega | (simp only [World.size_alloc]; omega) | (simp only [World.size_drew]; omega) | (simp only [World.size_drew, World.size_alloc]; omega)))
        clear hk hb
        have Cx0 := Lib.hid hr
        have Gx0 := Lib.hid hrg
        have Ox0 := Lib.hid ho
        have Dx0 := Lib.hid hnd
        clear hr hrg ho hnd
        obtain ⟨p10, p11, p12⟩ := cells3 P1.out
        have p1l := P1.out.lt
        go_wp2_with fail
        refine (toType x1 _ _ hww1 ⟨_, _, rfl, rd_und R1.out (by first | omega | (simp only [World.size_alloc]; omega) | (simp only [World.size_drew]; omega) | (simp only [World.size_drew, World.size_alloc]; omega))⟩).mono ?_
        intro e w5 hm
        obtain ⟨Bx1, dx1, bsx1, rfl, ho, hnd, hr, hrg, hb⟩ := madeV_get hm
        clear hm
        have hk := Keep.below hb
        have h5 : Below w.heap.size w w5 := h4.trans (hb.mono h4.size)
        have s5 := hk.size
        have R0 := Lib.hid (rd_carry R0.out hk (by first | omega | (simp only [World.size_alloc]; omega) | (simp only [World.size_drew]; omega) | (simp only [World.size_drew, World.size_alloc]; omega)) (by first | omega | (simp only [World.size_alloc]; omega) | (simp only [World.size_drew]; omega) | (simp only [World.size_drew, World.size_alloc]; omega)))
        have R1 := Lib.hid (rd_carry R1.out hk (by first | omega | (simp only [World.size_alloc]; omega) | (simp only [World.size_drew]; omega) | (simp only [World.size_drew, World.size_alloc]; omega)) (by first | omega | (simp only [World.size_alloc]; omega) | (simp only [World.size_drew]; omega) | (simp only [World.size_drew, World.size_alloc]; omega)))
        have P1 := Lib.hid (wh_carry P1.out hk (by first | omega | (simp only [World.size_alloc]; omega) | (simp only [World.size_drew]; omega) | (simp only [World.size_drew, World.size_alloc]; omega)))
        have XW := Lib.hid (wh_carry XW.out hk (by first | omega | (simp only [World.size_alloc]; omega) | (simp only [World.size_drew]; omega) | (simp only [World.size_drew, World.size_alloc]; omega)))
        have CW := Lib.hid (rd_carry CW.out hk (by first | omega | (simp only [World.size_alloc]; omega) | (simp only [World.size_drew]; omega) | (simp only [World.size_drew, World.size_alloc]; omega)) (by first | omega | (simp only [World.size_alloc]; omega) | (simp only [World.size_drew]; omega) | (simp only [World.size_drew, World.size_alloc]; omega)))
        have Cx0 := Lib.hid (rd_carry Cx0.out hk (by first | omega | (simp only [World.size_alloc]; omega) | (simp only [World.size_drew]; omega) | (simp only [World.size_drew, World.size_alloc]; omega)) (by first | omega | (simp only [World.size_alloc]; omega) | (simp only [World.size_drew]; omega) | (simp only [World.size_drew, World.size_alloc]; omega)))
        have Ox0 := Lib.hid (ow_carry Ox0.out Gx0.out hk (by first | omega | (simp only [World.size_alloc]; omega) | (simp only [World.size_drew]; omega) | (simp only [World.size_drew, World.size_alloc]; omega)))
        clear hk hb p10 p11 p12 p1l
        have Cx1 := Lib.hid hr
        have Gx1 := Lib.hid hrg
        have Ox1 := Lib.hid ho
        have Dx1 := Lib.hid hnd
        clear hr hrg ho hnd
        have hk := Keep.alloc w5 (.cells #[.int .i64 x1.kind_, .string x1.name_, .slice Bx1 x1.args_.length dx1] 26)
        have h5' := h5.alloc h5.size (.cells #[.int .i64 x1.kind_, .string x1.name_, .slice Bx1 x1.args_.length dx1] 26)
        have R0 := Lib.hid (rd_carry R0.out hk (by first | omega | (simp only [World.size_alloc]; omega) | (simp only [World.size_drew]; omega) | (simp only [World.size_drew, World.size_alloc]; omega)) (by first | omega | (simp only [World.size_alloc]; omega) | (simp only [World.size_drew]; omega) | (simp only [World.size_drew, World.size_alloc]; omega)))
        have R1 := Lib.hid (rd_carry R1.out hk (by first | omega | (simp only [World.size_alloc]; omega) | (simp only [World.size_drew]; omega) | (simp only [World.size_drew, World.size_alloc]; omega)) (by first | omega | (simp only [World.size_alloc]; omega) | (simp only [World.size_drew]; omega) | (simp only [World.size_drew, World.size_alloc]; omega)))
        have P1 := Lib.hid (wh_carry P1.out hk (by first | omega | (simp only [World.size_alloc]; omega) | (simp only [World.size_drew]; omega) | (simp only [World.size_drew, World.size_alloc]; omega)))
        have XW := Lib.hid (wh_carry XW.out hk (by first | omega | (simp only [World.size_alloc]; omega) | (simp only [World.size_drew]; omega) | (simp only [World.size_drew, World.size_alloc]; omega)))
        have CW := Lib.hid (rd_carry CW.out hk (by first | omega | (simp only [World.size_alloc]; omega) | (simp only [World.size_drew]; omega) | (simp only [World.size_drew, World.size_alloc]; omega)) (by first | omega | (simp only [World.size_alloc]; omega) | (simp only [World.size_drew]; omega) | (simp only [World.size_drew, World.size_alloc]; omega)))
        have Cx0 := Lib.hid (rd_carry Cx0.out hk (by first | omega | (simp only [World.size_alloc]; omega) | (simp only [World.size_drew]; omega) | (simp only [World.size_drew, World.size_alloc]; omega)) (by first | omega | (simp only [World.size_alloc]; omega) | (simp only [World.size_drew]; omega) | (simp only [World.size_drew, World.size_alloc]; omega)))
        have Ox0 := Lib.hid (ow_carry Ox0.out Gx0.out hk (by first | omega | (simp only [World.size_alloc]; omega) | (simp only [World.size_drew]; omega) | (simp only [World.size_drew, World.size_alloc]; omega)))
        have Cx1 := Lib.hid (rd_carry Cx1.out hk (by first | omega | (simp only [World.size_alloc]; omega) | (simp only [World.size_drew]; omega) | (simp only [World.size_drew, World.size_alloc]; omega)) (by first | omega | (simp only [World.size_alloc]; omega) | (simp only [World.size_drew]; omega) | (simp only [World.size_drew, World.size_alloc]; omega)))
        have Ox1 := Lib.hid (ows_carry Ox1.out Gx1.out hk (by first | omega | (simp only [World.size_alloc]; omega) | (simp only [World.size_drew]; omega) | (simp only [World.size_drew, World.size_alloc]; omega)))
        have Xx1 := Lib.hid (Whole.new w5 26 #[.int .i64 x1.kind_, .string x1.name_, .slice Bx1 x1.args_.length dx1])
        clear hk
        obtain ⟨xx10, xx11, xx12⟩ := cells3 Xx1.out
        have xx1l := Xx1.out.lt
        go_wp2_with fail
        refine (HY.out ▸ implApply l0 Bx0 dx0 x1 Bx1 dx1 _ (by have := TypeX.size_wt x1; omega) (smallX_of hww0) (rd_und Cx0.out (by first | omega | (simp only [World.size_alloc]; omega) | (simp only [World.size_drew]; omega) | (simp only [World.size_drew, World.size_alloc]; omega))) (rd_und Cx1.out (by first | omega | (simp only [World.size_alloc]; omega) | (simp only [World.size_drew]; omega) | (simp only [World.size_drew, World.size_alloc]; omega)))).mono ?_
        intro e w6 hm
        obtain ⟨Bg, dg, bsg, rfl, ho, hnd, hr, hrg, hb⟩ := madeV_get hm
        simp only [World.size_alloc] at ho hr hrg
        clear hm
        have hk := Keep.below hb
        have h6 : Below w.heap.size w w6 := h5'.trans (hb.mono h5'.size)
        have s6 := hk.size
        simp only [World.size_alloc] at s6
        have R0 := Lib.hid (rd_carry R0.out hk (by first | omega | (simp only [World.size_alloc]; omega) | (simp only [World.size_drew]; omega) | (simp only [World.size_drew, World.size_alloc]; omega)) (by first | omega | (simp only [World.size_alloc]; omega) | (simp only [World.size_drew]; omega) | (simp only [World.size_drew, World.size_alloc]; omega)))
        have R1 := Lib.hid (rd_carry R1.out hk (by first | omega | (simp only [World.size_alloc]; omega) | (simp only [World.size_drew]; omega) | (simp only [World.size_drew, World.size_alloc]; omega)) (by first | omega | (simp only [World.size_alloc]; omega) | (simp only [World.size_drew]; omega) | (simp only [World.size_drew, World.size_alloc]; omega)))
        have P1 := Lib.hid (wh_carry P1.out hk (by first | omega | (simp only [World.size_alloc]; omega) | (simp only [World.size_drew]; omega) | (simp only [World.size_drew, World.size_alloc]; omega)))
        have XW := Lib.hid (wh_carry XW.out hk (by first | omega | (simp only [World.size_alloc]; omega) | (simp only [World.size_drew]; omega) | (simp only [World.size_drew, World.size_alloc]; omega)))
        have CW := Lib.hid (rd_carry CW.out hk (by first | omega | (simp only [World.size_alloc]; omega) | (simp only [World.size_drew]; omega) | (simp only [World.size_drew, World.size_alloc]; omega)) (by first | omega | (simp only [World.size_alloc]; omega) | (simp only [World.size_drew]; omega) | (simp only [World.size_drew, World.size_alloc]; omega)))
        have Cx0 := Lib.hid (rd_carry Cx0.out hk (by first | omega | (simp only [World.size_alloc]; omega) | (simp only [World.size_drew]; omega) | (simp only [World.size_drew, World.size_alloc]; omega)) (by first | omega | (simp only [World.size_alloc]; omega) | (simp only [World.size_drew]; omega) | (simp only [World.size_drew, World.size_alloc]; omega)))
        have Ox0 := Lib.hid (ow_carry Ox0.out Gx0.out hk (by first | omega | (simp only [World.size_alloc]; omega) | (simp only [World.size_drew]; omega) | (simp only [World.size_drew, World.size_alloc]; omega)))
        have Cx1 := Lib.hid (rd_carry Cx1.out hk (by first | omega | (simp only [World.size_alloc]; omega) | (simp only [World.size_drew]; omega) | (simp only [World.size_drew, World.size_alloc]; omega)) (by first | omega | (simp only [World.size_alloc]; omega) | (simp only [World.size_drew]; omega) | (simp only [World.size_drew, World.size_alloc]; omega)))
        have Ox1 := Lib.hid (ows_carry Ox1.out Gx1.out hk (by first | omega | (simp only [World.size_alloc]; omega) | (simp only [World.size_drew]; omega) | (simp only [World.size_drew, World.size_alloc]; omega)))
        have Xx1 := Lib.hid (wh_carry Xx1.out hk (by first | omega | (simp only [World.size_alloc]; omega) | (simp only [World.size_drew]; omega) | (simp only [World.size_drew, World.size_alloc]; omega)))
        clear hk hb xx10 xx11 xx12 xx1l
        have Cg := Lib.hid hr
        have Gg := Lib.hid hrg
        have Og := Lib.hid ho
        have Dg := Lib.hid hnd
        clear hr hrg ho hnd
        have hk := Keep.alloc w6 (.cells #[.int .i64 y.kind_, .string y.name_, .slice Bg y.args_.length dg] 26)
        have h6' := h6.alloc h6.size (.cells #[.int .i64 y.kind_, .string y.name_, .slice Bg y.args_.length dg] 26)
        have R0 := Lib.hid (rd_carry R0.out hk (by first | omega | (simp only [World.size_alloc]; omega) | (simp only [World.size_drew]; omega) | (simp only [World.size_drew, World.size_alloc]; omega)) (by first | omega | (simp only [World.size_alloc]; omega) | (simp only [World.size_drew]; omega) | (simp only [World.size_drew, World.size_alloc]; omega)))
        have R1 := Lib.hid (rd_carry R1.out hk (by first | omega | (simp only [World.size_alloc]; omega) | (simp only [World.size_drew]; omega) | (simp only [World.size_drew, World.size_alloc]; omega)) (by first | omega | (simp only [World.size_alloc]; omega) | (simp only [World.size_drew]; omega) | (simp only [World.size_drew, World.size_alloc]; omega)))
        have P1 := Lib.hid (wh_carry P1.out hk (by first | omega | (simp only [World.size_alloc]; omega) | (simp only [World.size_drew]; omega) | (simp only [World.size_drew, World.size_alloc]; omega)))
        have XW := Lib.hid (wh_carry XW.out hk (by first | omega | (simp only [World.size_alloc]; omega) | (simp only [World.size_drew]; omega) | (simp only [World.size_drew, World.size_alloc]; omega)))
        have CW := Lib.hid (rd_carry CW.out hk (by first | omega | (simp only [World.size_alloc]; omega) | (simp only [World.size_drew]; omega) | (simp only [World.size_drew, World.size_alloc]; omega)) (by first | omega | (simp only [World.size_alloc]; omega) | (simp only [World.size_drew]; omega) | (simp only [World.size_drew, World.size_alloc]; omega)))
        have Cx0 := Lib.hid (rd_carry Cx0.out hk (by first | omega | (simp only [World.size_alloc]; omega) | (simp only [World.size_drew]; omega) | (simp only [World.size_drew, World.size_alloc]; omega)) (by first | omega | (simp only [World.size_alloc]; omega) | (simp only [World.size_drew]; omega) | (simp only [World.size_drew, World.size_alloc]; omega)))
        have Ox0 := Lib.hid (ow_carry Ox0.out Gx0.out hk (by first | omega | (simp only [World.size_alloc]; omega) | (simp only [World.size_drew]; omega) | (simp only [World.size_drew, World.size_alloc]; omega)))
        have Cx1 := Lib.hid (rd_carry Cx1.out hk (by first | omega | (simp only [World.size_alloc]; omega) | (simp only [World.size_drew]; omega) | (simp only [World.size_drew, World.size_alloc]; omega)) (by first | omega | (simp only [World.size_alloc]; omega) | (simp only [World.size_drew]; omega) | (simp only [World.size_drew, World.size_alloc]; omega)))
        have Ox1 := Lib.hid (ows_carry Ox1.out Gx1.out hk (by first | omega | (simp only [World.size_alloc]; omega) | (simp only [World.size_drew]; omega) | (simp only [World.size_drew, World.size_alloc]; omega)))
        have Xx1 := Lib.hid (wh_carry Xx1.out hk (by first | omega | (simp only [World.size_alloc]; omega) | (simp only [World.size_drew]; omega) | (simp only [World.size_drew, World.size_alloc]; omega)))
        have Cg := Lib.hid (rd_carry Cg.out hk (by first | omega | (simp only [World.size_alloc]; omega) | (simp only [World.size_drew]; omega) | (simp only [World.size_drew, World.size_alloc]; omega)) (by first | omega | (simp only [World.size_alloc]; omega) | (simp only [World.size_drew]; omega) | (simp only [World.size_drew, World.size_alloc]; omega)))
        have Og := Lib.hid (ows_carry Og.out Gg.out hk (by first | omega | (simp only [World.size_alloc]; omega) | (simp only [World.size_drew]; omega) | (simp only [World.size_drew, World.size_alloc]; omega)))
        have Xg := Lib.hid (Whole.new w6 26 #[.int .i64 y.kind_, .string y.name_, .slice Bg y.args_.length dg])
        clear hk
        obtain ⟨xg0, xg1, xg2⟩ := cells3 Xg.out
        have xgl := Xg.out.lt
        obtain ⟨xw0, xw1, xw2⟩ := cells3 XW.out
        have xwl := XW.out.lt
        go_wp2_with fail
        refine (eqType y _ _ _ ⟨_, _, rfl, rd_und Cg.out (by first | omega | (simp only [World.size_alloc]; omega) | (simp only [World.size_drew]; omega) | (simp only [World.size_drew, World.size_alloc]; omega))⟩ ⟨_, _, rfl, rd_und CW.out (by first | omega | (simp only [World.size_alloc]; omega) | (simp only [World.size_drew]; omega) | (simp only [World.size_drew, World.size_alloc]; omega))⟩).mono ?_
        rintro e w7 ⟨rfl, hb⟩
        have hk := Keep.below hb
        have h7 : Below w.heap.size w w7 := h6'.trans (hb.mono h6'.size)
        have s7 := hk.size
        simp only [World.size_alloc] at s7
        have R0 := Lib.hid (rd_carry R0.out hk (by first | omega | (simp only [World.size_alloc]; omega) | (simp only [World.size_drew]; omega) | (simp only [World.size_drew, World.size_alloc]; omega)) (by first | omega | (simp only [World.size_alloc]; omega) | (simp only [World.size_drew]; omega) | (simp only [World.size_drew, World.size_alloc]; omega)))
        have R1 := Lib.hid (rd_carry R1.out hk (by first | omega | (simp only [World.size_alloc]; omega) | (simp only [World.size_drew]; omega) | (simp only [World.size_drew, World.size_alloc]; omega)) (by first | omega | (simp only [World.size_alloc]; omega) | (simp only [World.size_drew]; omega) | (simp only [World.size_drew, World.size_alloc]; omega)))
        have P1 := Lib.hid (wh_carry P1.out hk (by first | omega | (simp only [World.size_alloc]; omega) | (simp only [World.size_drew]; omega) | (simp only [World.size_drew, World.size_alloc]; omega)))
        have XW := Lib.hid (wh_carry XW.out hk (by first | omega | (simp only [World.size_alloc]; omega) | (simp only [World.size_drew]; omega) | (simp only [World.size_drew, World.size_alloc]; omega)))
        have CW := Lib.hid (rd_carry CW.out hk (by first | omega | (simp only [World.size_alloc]; omega) | (simp only [World.size_drew]; omega) | (simp only [World.size_drew, World.size_alloc]; omega)) (by first | omega | (simp only [World.size_alloc]; omega) | (simp only [World.size_drew]; omega) | (simp only [World.size_drew, World.size_alloc]; omega)))
        have Cx0 := Lib.hid (rd_carry Cx0.out hk (by first | omega | (simp only [World.size_alloc]; omega) | (simp only [World.size_drew]; omega) | (simp only [World.size_drew, World.size_alloc]; omega)) (by first | omega | (simp only [World.size_alloc]; omega) | (simp only [World.size_drew]; omega) | (simp only [World.size_drew, World.size_alloc]; omega)))
        have Ox0 := Lib.hid (ow_carry Ox0.out Gx0.out hk (by first | omega | (simp only [World.size_alloc]; omega) | (simp only [World.size_drew]; omega) | (simp only [World.size_drew, World.size_alloc]; omega)))
        have Cx1 := Lib.hid (rd_carry Cx1.out hk (by first | omega | (simp only [World.size_alloc]; omega) | (simp only [World.size_drew]; omega) | (simp only [World.size_drew, World.size_alloc]; omega)) (by first | omega | (simp only [World.size_alloc]; omega) | (simp only [World.size_drew]; omega) | (simp only [World.size_drew, World.size_alloc]; omega)))
        have Ox1 := Lib.hid (ows_carry Ox1.out Gx1.out hk (by first | omega | (simp only [World.size_alloc]; omega) | (simp only [World.size_drew]; omega) | (simp only [World.size_drew, World.size_alloc]; omega)))
        have Xx1 := Lib.hid (wh_carry Xx1.out hk (by first | omega | (simp only [World.size_alloc]; omega) | (simp only [World.size_drew]; omega) | (simp only [World.size_drew, World.size_alloc]; omega)))
        have Cg := Lib.hid (rd_carry Cg.out hk (by first | omega | (simp only [World.size_alloc]; omega) | (simp only [World.size_drew]; omega) | (simp only [World.size_drew, World.size_alloc]; omega)) (by first | omega | (simp only [World.size_alloc]; omega) | (simp only [World.size_drew]; omega) | (simp only [World.size_drew, World.size_alloc]; omega)))
        have Og := Lib.hid (ows_carry Og.out Gg.out hk (by first | omega | (simp only [World.size_alloc]; omega) | (simp only [World.size_drew]; omega) | (simp only [World.size_drew, World.size_alloc]; omega)))
        have Xg := Lib.hid (wh_carry Xg.out hk (by first | omega | (simp only [World.size_alloc]; omega) | (simp only [World.size_drew]; omega) | (simp only [World.size_drew, World.size_alloc]; omega)))
        clear hk hb xg0 xg1 xg2 xgl xw0 xw1 xw2 xwl
        go_wp2_with fail
        refine (toBindingS l0 A0 c0 _ hww0 (rd_und R0.out (by first | omega | (simp only [World.size_alloc]; omega) | (simp only [World.size_drew]; omega) | (simp only [World.size_drew, World.size_alloc]; omega)))).mono ?_
        intro e w8 hm
        obtain ⟨Bu0, du0, bsu0, rfl, ho, hnd, hr, hrg, hb⟩ := madeR_get (BindingX.rows_length l0) hm
        clear hm
        have hk := Keep.below hb
        have h8 : Below w.heap.size w w8 := h7.trans (hb.mono h7.size)
        have s8 := hk.size
        have R0 := Lib.hid (rd_carry R0.out hk (by first | omega | (simp only [World.size_alloc]; omega) | (simp only [World.size_drew]; omega) | (simp only [World.size_drew, World.size_alloc]; omega)) (by first | omega | (simp only [World.size_alloc]; omega) | (simp only [World.size_drew]; omega) | (simp only [World.size_drew, World.size_alloc]; omega)))
        have R1 := Lib.hid (rd_carry R1.out hk (by first | omega | (simp only [World.size_alloc]; omega) | (simp only [World.size_drew]; omega) | (simp only [World.size_drew, World.size_alloc]; omega)) (by first | omega | (simp only [World.size_alloc]; omega) | (simp only [World.size_drew]; omega) | (simp only [World.size_drew, World.size_alloc]; omega)))
        have P1 := Lib.hid (wh_carry P1.out hk (by first | omega | (simp only [World.size_alloc]; omega) | (simp only [World.size_drew]; omega) | (simp only [World.size_drew, World.size_alloc]; omega)))
        have XW := Lib.hid (wh_carry XW.out hk (by first | omega | (simp only [World.size_alloc]; omega) | (simp only [World.size_drew]; omega) | (simp only [World.size_drew, World.size_alloc]; omega)))
        have CW := Lib.hid (rd_carry CW.out hk (by first | omega | (simp only [World.size_alloc]; omega) | (simp only [World.size_drew]; omega) | (simp only [World.size_drew, World.size_alloc]; omega)) (by first | omega | (simp only [World.size_alloc]; omega) | (simp only [World.size_drew]; omega) | (simp only [World.size_drew, World.size_alloc]; omega)))
        have Cx0 := Lib.hid (rd_carry Cx0.out hk (by first | omega | (simp only [World.size_alloc]; omega) | (simp only [World.size_drew]; omega) | (simp only [World.size_drew, World.size_alloc]; omega)) (by first | omega | (simp only [World.size_alloc]; omega) | (simp only [World.size_drew]; omega) | (simp only [World.size_drew, World.size_alloc]; omega)))
        have Ox0 := Lib.hid (ow_carry Ox0.out Gx0.out hk (by first | omega | (simp only [World.size_alloc]; omega) | (simp only [World.size_drew]; omega) | (simp only [World.size_drew, World.size_alloc]; omega)))
        have Cx1 := Lib.hid (rd_carry Cx1.out hk (by first | omega | (simp only [World.size_alloc]; omega) | (simp only [World.size_drew]; omega) | (simp only [World.size_drew, World.size_alloc]; omega)) (by first | omega | (simp only [World.size_alloc]; omega) | (simp only [World.size_drew]; omega) | (simp only [World.size_drew, World.size_alloc]; omega)))
        have Ox1 := Lib.hid (ows_carry Ox1.out Gx1.out hk (by first | omega | (simp only [World.size_alloc]; omega) | (simp only [World.size_drew]; omega) | (simp only [World.size_drew, World.size_alloc]; omega)))
        have Xx1 := Lib.hid (wh_carry Xx1.out hk (by first | omega | (simp only [World.size_alloc]; omega) | (simp only [World.size_drew]; omega) | (simp only [World.size_drew, World.size_alloc]; omega)))
        have Cg := Lib.hid (rd_carry Cg.out hk (by first | omega | (simp only [World.size_alloc]; omega) | (simp only [World.size_drew]; omega) | (simp only [World.size_drew, World.size_alloc]; omega)) (by first | omega | (simp only [World.size_alloc]; omega) | (simp only [World.size_drew]; omega) | (simp only [World.size_drew, World.size_alloc]; omega)))
        have Og := Lib.hid (ows_carry Og.out Gg.out hk (by first | omega | (simp only [World.size_alloc]; omega) | (simp only [World.size_drew]; omega) | (simp only [World.size_drew, World.size_alloc]; omega)))
        have Xg := Lib.hid (wh_carry Xg.out hk (by first | omega | (simp only [World.size_alloc]; omega) | (simp only [World.size_drew]; omega) | (simp only [World.size_drew, World.size_alloc]; omega)))
        clear hk hb
        have Cu0 := Lib.hid hr
        clear hr hrg ho hnd
        go_wp2_with fail
        refine (eqBindingS l0 Bx0 Bu0 dx0 du0 _ (rd_und Cx0.out (by first | omega | (simp only [World.size_alloc]; omega) | (simp only [World.size_drew]; omega) | (simp only [World.size_drew, World.size_alloc]; omega))) (rd_und Cu0.out (by first | omega | (simp only [World.size_alloc]; omega) | (simp only [World.size_drew]; omega) | (simp only [World.size_drew, World.size_alloc]; omega)))).mono ?_
        rintro e w9 ⟨rfl, hb⟩
        have hk := Keep.below hb
        have h9 : Below w.heap.size w w9 := h8.trans (hb.mono h8.size)
        have s9 := hk.size
        have R0 := Lib.hid (rd_carry R0.out hk (by first | omega | (simp only [World.size_alloc]; omega) | (simp only [World.size_drew]; omega) | (simp only [World.size_drew, World.size_alloc]; omega)) (by first | omega | (simp only [World.size_alloc]; omega) | (simp only [World.size_drew]; omega) | (simp only [World.size_drew, World.size_alloc]; omega)))
        have R1 := Lib.hid (rd_carry R1.out hk (by first | omega | (simp only [World.size_alloc]; omega) | (simp only [World.size_drew]; omega) | (simp only [World.size_drew, World.size_alloc]; omega)) (by first | omega | (simp only [World.size_alloc]; omega) | (simp only [World.size_drew]; omega) | (simp only [World.size_drew, World.size_alloc]; omega)))
        have P1 := Lib.hid (wh_carry P1.out hk (by first | omega | (simp only [World.size_alloc]; omega) | (simp only [World.size_drew]; omega) | (simp only [World.size_drew, World.size_alloc]; omega)))
        have XW := Lib.hid (wh_carry XW.out hk (by first | omega | (simp only [World.size_alloc]; omega) | (simp only [World.size_drew]; omega) | (simp only [World.size_drew, World.size_alloc]; omega)))
        have CW := Lib.hid (rd_carry CW.out hk (by first | omega | (simp only [World.size_alloc]; omega) | (simp only [World.size_drew]; omega) | (simp only [World.size_drew, World.size_alloc]; omega)) (by first | omega | (simp only [World.size_alloc]; omega) | (simp only [World.size_drew]; omega) | (simp only [World.size_drew, World.size_alloc]; omega)))
        have Cx0 := Lib.hid (rd_carry Cx0.out hk (by first | omega | (simp only [World.size_alloc]; omega) | (simp only [World.size_drew]; omega) | (simp only [World.size_drew, World.size_alloc]; omega)) (by first | omega | (simp only [World.size_alloc]; omega) | (simp only [World.size_drew]; omega) | (simp only [World.size_drew, World.size_alloc]; omega)))
        have Ox0 := Lib.hid (ow_carry Ox0.out Gx0.out hk (by first | omega | (simp only [World.size_alloc]; omega) | (simp only [World.size_drew]; omega) | (simp only [World.size_drew, World.size_alloc]; omega)))
        have Cx1 := Lib.hid (rd_carry Cx1.out hk (by first | omega | (simp only [World.size_alloc]; omega) | (simp only [World.size_drew]; omega) | (simp only [World.size_drew, World.size_alloc]; omega)) (by first | omega | (simp only [World.size_alloc]; omega) | (simp only [World.size_drew]; omega) | (simp only [World.size_drew, World.size_alloc]; omega)))
        have Ox1 := Lib.hid (ows_carry Ox1.out Gx1.out hk (by first | omega | (simp only [World.size_alloc]; omega) | (simp only [World.size_drew]; omega) | (simp only [World.size_drew, World.size_alloc]; omega)))
        have Xx1 := Lib.hid (wh_carry Xx1.out hk (by first | omega | (simp only [World.size_alloc]; omega) | (simp only [World.size_drew]; omega) | (simp only [World.size_drew, World.size_alloc]; omega)))
        have Cg := Lib.hid (rd_carry Cg.out hk (by first | omega | (simp only [World.size_alloc]; omega) | (simp only [World.size_drew]; omega) | (simp only [World.size_drew, World.size_alloc]; omega)) (by first | omega | (simp only [World.size_alloc]; omega) | (simp only [World.size_drew]; omega) | (simp only [World.size_drew, World.size_alloc]; omega)))
        have Og := Lib.hid (ows_carry Og.out Gg.out hk (by first | omega | (simp only [World.size_alloc]; omega) | (simp only [World.size_drew]; omega) | (simp only [World.size_drew, World.size_alloc]; omega)))
        have Xg := Lib.hid (wh_carry Xg.out hk (by first | omega | (simp only [World.size_alloc]; omega) | (simp only [World.size_drew]; omega) | (simp only [World.size_drew, World.size_alloc]; omega)))
        have Cu0 := Lib.hid (rd_carry Cu0.out hk (by first | omega | (simp only [World.size_alloc]; omega) | (simp only [World.size_drew]; omega) | (simp only [World.size_drew, World.size_alloc]; omega)) (by first | omega | (simp only [World.size_alloc]; omega) | (simp only [World.size_drew]; omega) | (simp only [World.size_drew, World.size_alloc]; omega)))
        clear hk hb
        go_upto_region 16 with (fail)
        obtain ⟨p10, p11, p12⟩ := cells3 P1.out
        have p1l := P1.out.lt
        obtain ⟨xx10, xx11, xx12⟩ := cells3 Xx1.out
        have xx1l := Xx1.out.lt
        have hk := Keep.below ((Below.refl _ w9).drew)
        have h9d := h9.drew
        have R0 := Lib.hid (rd_carry R0.out hk (by first | omega | (simp only [World.size_alloc]; omega) | (simp only [World.size_drew]; omega) | (simp only [World.size_drew, World.size_alloc]; omega)) (by first | omega | (simp only [World.size_alloc]; omega) | (simp only [World.size_drew]; omega) | (simp only [World.size_drew, World.size_alloc]; omega)))
        have R1 := Lib.hid (rd_carry R1.out hk (by first | omega | (simp only [World.size_alloc]; omega) | (simp only [World.size_drew]; omega) | (simp only [World.size_drew, World.size_alloc]; omega)) (by first | omega | (simp only [World.size_alloc]; omega) | (simp only [World.size_drew]; omega) | (simp only [World.size_drew, World.size_alloc]; omega)))
        have P1 := Lib.hid (wh_carry P1.out hk (by first | omega | (simp only [World.size_alloc]; omega) | (simp only [World.size_drew]; omega) | (simp only [World.size_drew, World.size_alloc]; omega)))
        have XW := Lib.hid (wh_carry XW.out hk (by first | omega | (simp only [World.size_alloc]; omega) | (simp only [World.size_drew]; omega) | (simp only [World.size_drew, World.size_alloc]; omega)))
        have CW := Lib.hid (rd_carry CW.out hk (by first | omega | (simp only [World.size_alloc]; omega) | (simp only [World.size_drew]; omega) | (simp only [World.size_drew, World.size_alloc]; omega)) (by first | omega | (simp only [World.size_alloc]; omega) | (simp only [World.size_drew]; omega) | (simp only [World.size_drew, World.size_alloc]; omega)))
        have Cx0 := Lib.hid (rd_carry Cx0.out hk (by first | omega | (simp only [World.size_alloc]; omega) | (simp only [World.size_drew]; omega) | (simp only [World.size_drew, World.size_alloc]; omega)) (by first | omega | (simp only [World.size_alloc]; omega) | (simp only [World.size_drew]; omega) | (simp only [World.size_drew, World.size_alloc]; omega)))
        have Ox0 := Lib.hid (ow_carry Ox0.out Gx0.out hk (by first | omega | (simp only [World.size_alloc]; omega) | (simp only [World.size_drew]; omega) | (simp only [World.size_drew, World.size_alloc]; omega)))
        have Cx1 := Lib.hid (rd_carry Cx1.out hk (by first | omega | (simp only [World.size_alloc]; omega) | (simp only [World.size_drew]; omega) | (simp only [World.size_drew, World.size_alloc]; omega)) (by first | omega | (simp only [World.size_alloc]; omega) | (simp only [World.size_drew]; omega) | (simp only [World.size_drew, World.size_alloc]; omega)))
        have Ox1 := Lib.hid (ows_carry Ox1.out Gx1.out hk (by first | omega | (simp only [World.size_alloc]; omega) | (simp only [World.size_drew]; omega) | (simp only [World.size_drew, World.size_alloc]; omega)))
        have Xx1 := Lib.hid (wh_carry Xx1.out hk (by first | omega | (simp only [World.size_alloc]; omega) | (simp only [World.size_drew]; omega) | (simp only [World.size_drew, World.size_alloc]; omega)))
        have Cg := Lib.hid (rd_carry Cg.out hk (by first | omega | (simp only [World.size_alloc]; omega) | (simp only [World.size_drew]; omega) | (simp only [World.size_drew, World.size_alloc]; omega)) (by first | omega | (simp only [World.size_alloc]; omega) | (simp only [World.size_drew]; omega) | (simp only [World.size_drew, World.size_alloc]; omega)))
        have Og := Lib.hid (ows_carry Og.out Gg.out hk (by first | omega | (simp only [World.size_alloc]; omega) | (simp only [World.size_drew]; omega) | (simp only [World.size_drew, World.size_alloc]; omega)))
        have Xg := Lib.hid (wh_carry Xg.out hk (by first | omega | (simp only [World.size_alloc]; omega) | (simp only [World.size_drew]; omega) | (simp only [World.size_drew, World.size_alloc]; omega)))
        clear hk
        go_region_held3 (fun w' => w'.cell? ⟨w.heap.size, 0, none⟩ = some (.int .i64 x1.kind_) ∧ w'.cell? ⟨w.heap.size, 1, none⟩ = some (.string x1.name_) ∧ w'.cell? ⟨w.heap.size, 2, none⟩ = some (.slice A1 x1.args_.length c1) ∧ w'.cell? ⟨w5.heap.size, 0, none⟩ = some (.int .i64 x1.kind_) ∧ w'.cell? ⟨w5.heap.size, 1, none⟩ = some (.string x1.name_) ∧ w'.cell? ⟨w5.heap.size, 2, none⟩ = some (.slice Bx1 x1.args_.length dx1))
          (first
            | go_keep
            | exact (⟨(cells3 P1.out).1, (cells3 P1.out).2.1, (cells3 P1.out).2.2, cells3 Xx1.out⟩))
          (first
            | (go_at_call 30
               refine (toType x1 _ _ hww1 ⟨_, _, rfl, rd_und R1.out (by first | omega | (simp only [World.size_alloc]; omega) | (simp only [World.size_drew]; omega) | (simp only [World.size_drew, World.size_alloc]; omega))⟩).mono ?_
               intro e w10 hm
               obtain ⟨Bu1, du1, bsu1, rfl, ho, hnd, hr, hrg, hb⟩ := madeV_get hm
               simp only [World.size_drew] at ho hr hrg
               clear hm
               have hk := Keep.below hb
               have h10 : Below w.heap.size w w10 := h9d.trans (hb.mono h9d.size)
               have s10 := hk.size
               simp only [World.size_drew] at s10
               have R0 := Lib.hid (rd_carry R0.out hk (by first | omega | (simp only [World.size_alloc]; omega) | (simp only [World.size_drew]; omega) | (simp only [World.size_drew, World.size_alloc]; omega)) (by first | omega | (simp only [World.size_alloc]; omega) | (simp only [World.size_drew]; omega) | (simp only [World.size_drew, World.size_alloc]; omega)))
               have R1 := Lib.hid (rd_carry R1.out hk (by first | omega | (simp only [World.size_alloc]; omega) | (simp only [World.size_drew]; omega) | (simp only [World.size_drew, World.size_alloc]; omega)) (by first | omega | (simp only [World.size_alloc]; omega) | (simp only [World.size_drew]; omega) | (simp only [World.size_drew, World.size_alloc]; omega)))
               have P1 := Lib.hid (wh_carry P1.out hk (by first | omega | (simp only [World.size_alloc]; omega) | (simp only [World.size_drew]; omega) | (simp only [World.size_drew, World.size_alloc]; omega)))
               have XW := Lib.hid (wh_carry XW.out hk (by first | omega | (simp only [World.size_alloc]; omega) | (simp only [World.size_drew]; omega) | (simp only [World.size_drew, World.size_alloc]; omega)))
               have CW := Lib.hid (rd_carry CW.out hk (by first | omega | (simp only [World.size_alloc]; omega) | (simp only [World.size_drew]; omega) | (simp only [World.size_drew, World.size_alloc]; omega)) (by first | omega | (simp only [World.size_alloc]; omega) | (simp only [World.size_drew]; omega) | (simp only [World.size_drew, World.size_alloc]; omega)))
               have Cx0 := Lib.hid (rd_carry Cx0.out hk (by first | omega | (simp only [World.size_alloc]; omega) | (simp only [World.size_drew]; omega) | (simp only [World.size_drew, World.size_alloc]; omega)) (by first | omega | (simp only [World.size_alloc]; omega) | (simp only [World.size_drew]; omega) | (simp only [World.size_drew, World.size_alloc]; omega)))
               have Ox0 := Lib.hid (ow_carry Ox0.out Gx0.out hk (by first | omega | (simp only [World.size_alloc]; omega) | (simp only [World.size_drew]; omega) | (simp only [World.size_drew, World.size_alloc]; omega)))
               have Cx1 := Lib.hid (rd_carry Cx1.out hk (by first | omega | (simp only [World.size_alloc]; omega) | (simp only [World.size_drew]; omega) | (simp only [World.size_drew, World.size_alloc]; omega)) (by first | omega | (simp only [World.size_alloc]; omega) | (simp only [World.size_drew]; omega) | (simp only [World.size_drew, World.size_alloc]; omega)))
               have Ox1 := Lib.hid (ows_carry Ox1.out Gx1.out hk (by first | omega | (simp only [World.size_alloc]; omega) | (simp only [World.size_drew]; omega) | (simp only [World.size_drew, World.size_alloc]; omega)))
               have Xx1 := Lib.hid (wh_carry Xx1.out hk (by first | omega | (simp only [World.size_alloc]; omega) | (simp only [World.size_drew]; omega) | (simp only [World.size_drew, World.size_alloc]; omega)))
               have Cg := Lib.hid (rd_carry Cg.out hk (by first | omega | (simp only [World.size_alloc]; omega) | (simp only [World.size_drew]; omega) | (simp only [World.size_drew, World.size_alloc]; omega)) (by first | omega | (simp only [World.size_alloc]; omega) | (simp only [World.size_drew]; omega) | (simp only [World.size_drew, World.size_alloc]; omega)))
               have Og := Lib.hid (ows_carry Og.out Gg.out hk (by first | omega | (simp only [World.size_alloc]; omega) | (simp only [World.size_drew]; omega) | (simp only [World.size_drew, World.size_alloc]; omega)))
               have Xg := Lib.hid (wh_carry Xg.out hk (by first | omega | (simp only [World.size_alloc]; omega) | (simp only [World.size_drew]; omega) | (simp only [World.size_drew, World.size_alloc]; omega)))
               clear hk hb
               have Cu1 := Lib.hid hr
               clear hr hrg ho hnd)
            | (go_at_call 32
               refine (eqType x1 _ _ _ ⟨_, _, rfl, rd_und Cx1.out (by first | omega | (simp only [World.size_alloc]; omega) | (simp only [World.size_drew]; omega) | (simp only [World.size_drew, World.size_alloc]; omega))⟩ ⟨_, _, rfl, rd_und Cu1.out (by first | omega | (simp only [World.size_alloc]; omega) | (simp only [World.size_drew]; omega) | (simp only [World.size_drew, World.size_alloc]; omega))⟩).mono ?_
               rintro e w11 ⟨rfl, hb⟩
               have hk := Keep.below hb
               have h11 : Below w.heap.size w w11 := h10.trans (hb.mono h10.size)
               have s11 := hk.size
               have R0 := Lib.hid (rd_carry R0.out hk (by first | omega | (simp only [World.size_alloc]; omega) | (simp only [World.size_drew]; omega) | (simp only [World.size_drew, World.size_alloc]; omega)) (by first | omega | (simp only [World.size_alloc]; omega) | (simp only [World.size_drew]; omega) | (simp only [World.size_drew, World.size_alloc]; omega)))
               have R1 := Lib.hid (rd_carry R1.out hk (by first | omega | (simp only [World.size_alloc]; omega) | (simp only [World.size_drew]; omega) | (simp only [World.size_drew, World.size_alloc]; omega)) (by first | omega | (simp only [World.size_alloc]; omega) | (simp only [World.size_drew]; omega) | (simp only [World.size_drew, World.size_alloc]; omega)))
               have P1 := Lib.hid (wh_carry P1.out hk (by first | omega | (simp only [World.size_alloc]; omega) | (simp only [World.size_drew]; omega) | (simp only [World.size_drew, World.size_alloc]; omega)))
               have XW := Lib.hid (wh_carry XW.out hk (by first | omega | (simp only [World.size_alloc]; omega) | (simp only [World.size_drew]; omega) | (simp only [World.size_drew, World.size_alloc]; omega)))
               have CW := Lib.hid (rd_carry CW.out hk (by first | omega | (simp only [World.size_alloc]; omega) | (simp only [World.size_drew]; omega) | (simp only [World.size_drew, World.size_alloc]; omega)) (by first | omega | (simp only [World.size_alloc]; omega) | (simp only [World.size_drew]; omega) | (simp only [World.size_drew, World.size_alloc]; omega)))
               have Cx0 := Lib.hid (rd_carry Cx0.out hk (by first | omega | (simp only [World.size_alloc]; omega) | (simp only [World.size_drew]; omega) | (simp only [World.size_drew, World.size_alloc]; omega)) (by first | omega | (simp only [World.size_alloc]; omega) | (simp only [World.size_drew]; omega) | (simp only [World.size_drew, World.size_alloc]; omega)))
               have Ox0 := Lib.hid (ow_carry Ox0.out Gx0.out hk (by first | omega | (simp only [World.size_alloc]; omega) | (simp only [World.size_drew]; omega) | (simp only [World.size_drew, World.size_alloc]; omega)))
               have Cx1 := Lib.hid (rd_carry Cx1.out hk (by first | omega | (simp only [World.size_alloc]; omega) | (simp only [World.size_drew]; omega) | (simp only [World.size_drew, World.size_alloc]; omega)) (by first | omega | (simp only [World.size_alloc]; omega) | (simp only [World.size_drew]; omega) | (simp only [World.size_drew, World.size_alloc]; omega)))
               have Ox1 := Lib.hid (ows_carry Ox1.out Gx1.out hk (by first | omega | (simp only [World.size_alloc]; omega) | (simp only [World.size_drew]; omega) | (simp only [World.size_drew, World.size_alloc]; omega)))
               have Xx1 := Lib.hid (wh_carry Xx1.out hk (by first | omega | (simp only [World.size_alloc]; omega) | (simp only [World.size_drew]; omega) | (simp only [World.size_drew, World.size_alloc]; omega)))
               have Cg := Lib.hid (rd_carry Cg.out hk (by first | omega | (simp only [World.size_alloc]; omega) | (simp only [World.size_drew]; omega) | (simp only [World.size_drew, World.size_alloc]; omega)) (by first | omega | (simp only [World.size_alloc]; omega) | (simp only [World.size_drew]; omega) | (simp only [World.size_drew, World.size_alloc]; omega)))
               have Og := Lib.hid (ows_carry Og.out Gg.out hk (by first | omega | (simp only [World.size_alloc]; omega) | (simp only [World.size_drew]; omega) | (simp only [World.size_drew, World.size_alloc]; omega)))
               have Xg := Lib.hid (wh_carry Xg.out hk (by first | omega | (simp only [World.size_alloc]; omega) | (simp only [World.size_drew]; omega) | (simp only [World.size_drew, World.size_alloc]; omega)))
               have Cu1 := Lib.hid (rd_carry Cu1.out hk (by first | omega | (simp only [World.size_alloc]; omega) | (simp only [World.size_drew]; omega) | (simp only [World.size_drew, World.size_alloc]; omega)) (by first | omega | (simp only [World.size_alloc]; omega) | (simp only [World.size_drew]; omega) | (simp only [World.size_drew, World.size_alloc]; omega)))
               clear hk hb))
        clear p10 p11 p12 p1l xx10 xx11 xx12 xx1l
        obtain ⟨k1, ek1⟩ : ∃ q : Nat, q = 1 + DV.cntE (BindingX.rows l0) := ⟨_, rfl⟩
        have pk1 : 0 < k1 := by omega
        have qk1 : k1 ≤ 10000000 := by have := cntE_Binding l0; omega
        have tk1 : ¬ ((k1 : Nat) : Int) < 0 := by omega
        have Ek1 := Lib.hid ek1
        clear ek1
        go_wp2_with fail
        refine (markBindingS l0 Bx0 dx0 1 _ bsx0 _ Ox0.out Dx0.out (by decide) (by have := Ek1.out; omega)).mono ?_
        rw [← Ek1.out]
        rintro e w12 ⟨rfl, -, hb⟩
        have hk := Keep.butV (lo := wc3.heap.size) (hi := w4.heap.size) hb Gx0.out
        have h12 : Below w.heap.size w w12 := below_butV h11 hb h11.size (fun x hx => by have := Gx0.out x hx; omega)
        have s12 := hk.size
        have R0 := Lib.hid (rd_carry R0.out hk (by first | omega | (simp only [World.size_alloc]; omega) | (simp only [World.size_drew]; omega) | (simp only [World.size_drew, World.size_alloc]; omega)) (by first | omega | (simp only [World.size_alloc]; omega) | (simp only [World.size_drew]; omega) | (simp only [World.size_drew, World.size_alloc]; omega)))
        have R1 := Lib.hid (rd_carry R1.out hk (by first | omega | (simp only [World.size_alloc]; omega) | (simp only [World.size_drew]; omega) | (simp only [World.size_drew, World.size_alloc]; omega)) (by first | omega | (simp only [World.size_alloc]; omega) | (simp only [World.size_drew]; omega) | (simp only [World.size_drew, World.size_alloc]; omega)))
        have P1 := Lib.hid (wh_carry P1.out hk (by first | omega | (simp only [World.size_alloc]; omega) | (simp only [World.size_drew]; omega) | (simp only [World.size_drew, World.size_alloc]; omega)))
        have XW := Lib.hid (wh_carry XW.out hk (by first | omega | (simp only [World.size_alloc]; omega) | (simp only [World.size_drew]; omega) | (simp only [World.size_drew, World.size_alloc]; omega)))
        have CW := Lib.hid (rd_carry CW.out hk (by first | omega | (simp only [World.size_alloc]; omega) | (simp only [World.size_drew]; omega) | (simp only [World.size_drew, World.size_alloc]; omega)) (by first | omega | (simp only [World.size_alloc]; omega) | (simp only [World.size_drew]; omega) | (simp only [World.size_drew, World.size_alloc]; omega)))
        have Cx1 := Lib.hid (rd_carry Cx1.out hk (by first | omega | (simp only [World.size_alloc]; omega) | (simp only [World.size_drew]; omega) | (simp only [World.size_drew, World.size_alloc]; omega)) (by first | omega | (simp only [World.size_alloc]; omega) | (simp only [World.size_drew]; omega) | (simp only [World.size_drew, World.size_alloc]; omega)))
        have Ox1 := Lib.hid (ows_carry Ox1.out Gx1.out hk (by first | omega | (simp only [World.size_alloc]; omega) | (simp only [World.size_drew]; omega) | (simp only [World.size_drew, World.size_alloc]; omega)))
        have Xx1 := Lib.hid (wh_carry Xx1.out hk (by first | omega | (simp only [World.size_alloc]; omega) | (simp only [World.size_drew]; omega) | (simp only [World.size_drew, World.size_alloc]; omega)))
        have Cg := Lib.hid (rd_carry Cg.out hk (by first | omega | (simp only [World.size_alloc]; omega) | (simp only [World.size_drew]; omega) | (simp only [World.size_drew, World.size_alloc]; omega)) (by first | omega | (simp only [World.size_alloc]; omega) | (simp only [World.size_drew]; omega) | (simp only [World.size_drew, World.size_alloc]; omega)))
        have Og := Lib.hid (ows_carry Og.out Gg.out hk (by first | omega | (simp only [World.size_alloc]; omega) | (simp only [World.size_drew]; omega) | (simp only [World.size_drew, World.size_alloc]; omega)))
        have Xg := Lib.hid (wh_carry Xg.out hk (by first | omega | (simp only [World.size_alloc]; omega) | (simp only [World.size_drew]; omega) | (simp only [World.size_drew, World.size_alloc]; omega)))
        clear hk hb
        obtain ⟨k2, ek2⟩ : ∃ q : Nat, q = k1 + tcntL x1.cells := ⟨_, rfl⟩
        have pk2 : 0 < k2 := by omega
        have qk2 : k2 ≤ 30000000 := by have := tcnt_Type x1; have := TypeX.size_wt x1; omega
        have tk2 : ¬ ((k2 : Nat) : Int) < 0 := by omega
        have Ek2 := Lib.hid ek2
        clear ek2
        obtain ⟨xx10, xx11, xx12⟩ := cells3 Xx1.out
        have xx1l := Xx1.out.lt
        go_wp2_with fail
        refine (markVType x1 _ k1 _ bsx1 _ Ox1.out Dx1.out pk1 (by have := Ek2.out; omega)).mono ?_
        rw [← Ek2.out]
        rintro e w13 ⟨rfl, -, hb⟩
        have hk := Keep.butV (lo := w4.heap.size) (hi := w5.heap.size) hb Gx1.out
        have h13 : Below w.heap.size w w13 := below_butV h12 hb h12.size (fun x hx => by have := Gx1.out x hx; omega)
        have s13 := hk.size
        have R0 := Lib.hid (rd_carry R0.out hk (by first | omega | (simp only [World.size_alloc]; omega) | (simp only [World.size_drew]; omega) | (simp only [World.size_drew, World.size_alloc]; omega)) (by first | omega | (simp only [World.size_alloc]; omega) | (simp only [World.size_drew]; omega) | (simp only [World.size_drew, World.size_alloc]; omega)))
        have R1 := Lib.hid (rd_carry R1.out hk (by first | omega | (simp only [World.size_alloc]; omega) | (simp only [World.size_drew]; omega) | (simp only [World.size_drew, World.size_alloc]; omega)) (by first | omega | (simp only [World.size_alloc]; omega) | (simp only [World.size_drew]; omega) | (simp only [World.size_drew, World.size_alloc]; omega)))
        have P1 := Lib.hid (wh_carry P1.out hk (by first | omega | (simp only [World.size_alloc]; omega) | (simp only [World.size_drew]; omega) | (simp only [World.size_drew, World.size_alloc]; omega)))
        have XW := Lib.hid (wh_carry XW.out hk (by first | omega | (simp only [World.size_alloc]; omega) | (simp only [World.size_drew]; omega) | (simp only [World.size_drew, World.size_alloc]; omega)))
        have CW := Lib.hid (rd_carry CW.out hk (by first | omega | (simp only [World.size_alloc]; omega) | (simp only [World.size_drew]; omega) | (simp only [World.size_drew, World.size_alloc]; omega)) (by first | omega | (simp only [World.size_alloc]; omega) | (simp only [World.size_drew]; omega) | (simp only [World.size_drew, World.size_alloc]; omega)))
        have Xx1 := Lib.hid (wh_carry Xx1.out hk (by first | omega | (simp only [World.size_alloc]; omega) | (simp only [World.size_drew]; omega) | (simp only [World.size_drew, World.size_alloc]; omega)))
        have Cg := Lib.hid (rd_carry Cg.out hk (by first | omega | (simp only [World.size_alloc]; omega) | (simp only [World.size_drew]; omega) | (simp only [World.size_drew, World.size_alloc]; omega)) (by first | omega | (simp only [World.size_alloc]; omega) | (simp only [World.size_drew]; omega) | (simp only [World.size_drew, World.size_alloc]; omega)))
        have Og := Lib.hid (ows_carry Og.out Gg.out hk (by first | omega | (simp only [World.size_alloc]; omega) | (simp only [World.size_drew]; omega) | (simp only [World.size_drew, World.size_alloc]; omega)))
        have Xg := Lib.hid (wh_carry Xg.out hk (by first | omega | (simp only [World.size_alloc]; omega) | (simp only [World.size_drew]; omega) | (simp only [World.size_drew, World.size_alloc]; omega)))
        clear hk hb xx10 xx11 xx12 xx1l
        obtain ⟨xg0, xg1, xg2⟩ := cells3 Xg.out
        have xgl := Xg.out.lt
        obtain ⟨xw0, xw1, xw2⟩ := cells3 XW.out
        have xwl := XW.out.lt
        go_wp2_with fail
        refine (eqType y _ _ _ ⟨_, _, rfl, rd_und Cg.out (by first | omega | (simp only [World.size_alloc]; omega) | (simp only [World.size_drew]; omega) | (simp only [World.size_drew, World.size_alloc]; omega))⟩ ⟨_, _, rfl, rd_und CW.out (by first | omega | (simp only [World.size_alloc]; omega) | (simp only [World.size_drew]; omega) | (simp only [World.size_drew, World.size_alloc]; omega))⟩).mono ?_
        rintro e w14 ⟨rfl, hb⟩
        have hk := Keep.below hb
        have h14 : Below w.heap.size w w14 := h13.trans (hb.mono h13.size)
        have s14 := hk.size
        have R0 := Lib.hid (rd_carry R0.out hk (by first | omega | (simp only [World.size_alloc]; omega) | (simp only [World.size_drew]; omega) | (simp only [World.size_drew, World.size_alloc]; omega)) (by first | omega | (simp only [World.size_alloc]; omega) | (simp only [World.size_drew]; omega) | (simp only [World.size_drew, World.size_alloc]; omega)))
        have R1 := Lib.hid (rd_carry R1.out hk (by first | omega | (simp only [World.size_alloc]; omega) | (simp only [World.size_drew]; omega) | (simp only [World.size_drew, World.size_alloc]; omega)) (by first | omega | (simp only [World.size_alloc]; omega) | (simp only [World.size_drew]; omega) | (simp only [World.size_drew, World.size_alloc]; omega)))
        have P1 := Lib.hid (wh_carry P1.out hk (by first | omega | (simp only [World.size_alloc]; omega) | (simp only [World.size_drew]; omega) | (simp only [World.size_drew, World.size_alloc]; omega)))
        have XW := Lib.hid (wh_carry XW.out hk (by first | omega | (simp only [World.size_alloc]; omega) | (simp only [World.size_drew]; omega) | (simp only [World.size_drew, World.size_alloc]; omega)))
        have CW := Lib.hid (rd_carry CW.out hk (by first | omega | (simp only [World.size_alloc]; omega) | (simp only [World.size_drew]; omega) | (simp only [World.size_drew, World.size_alloc]; omega)) (by first | omega | (simp only [World.size_alloc]; omega) | (simp only [World.size_drew]; omega) | (simp only [World.size_drew, World.size_alloc]; omega)))
        have Xx1 := Lib.hid (wh_carry Xx1.out hk (by first | omega | (simp only [World.size_alloc]; omega) | (simp only [World.size_drew]; omega) | (simp only [World.size_drew, World.size_alloc]; omega)))
        have Cg := Lib.hid (rd_carry Cg.out hk (by first | omega | (simp only [World.size_alloc]; omega) | (simp only [World.size_drew]; omega) | (simp only [World.size_drew, World.size_alloc]; omega)) (by first | omega | (simp only [World.size_alloc]; omega) | (simp only [World.size_drew]; omega) | (simp only [World.size_drew, World.size_alloc]; omega)))
        have Og := Lib.hid (ows_carry Og.out Gg.out hk (by first | omega | (simp only [World.size_alloc]; omega) | (simp only [World.size_drew]; omega) | (simp only [World.size_drew, World.size_alloc]; omega)))
        have Xg := Lib.hid (wh_carry Xg.out hk (by first | omega | (simp only [World.size_alloc]; omega) | (simp only [World.size_drew]; omega) | (simp only [World.size_drew, World.size_alloc]; omega)))
        clear hk hb xg0 xg1 xg2 xgl xw0 xw1 xw2 xwl
        obtain ⟨m, em⟩ : ∃ q : Nat, q = 1 + tcntL y.cells := ⟨_, rfl⟩
        have EM := Lib.hid em
        have tm : ¬ ((m : Nat) : Int) < 0 := by omega
        have tm2 : (((m : Nat) : Int) == ((m : Nat) : Int)) = true := by simp
        clear em
        obtain ⟨xg0, xg1, xg2⟩ := cells3 Xg.out
        have xgl := Xg.out.lt
        go_wp2_with fail
        refine (markVType y _ 1 _ bsg _ Og.out Dg.out (by decide) hcnt).mono ?_
        rw [← EM.out]
        rintro e w15 ⟨rfl, hmk, hb⟩
        have hk := Keep.butV (lo := (w5.heap.size + 1)) (hi := w6.heap.size) hb Gg.out
        have h15 : Below w.heap.size w w15 := below_butV h14 hb h14.size (fun x hx => by have := Gg.out x hx; omega)
        have s15 := hk.size
        have R0 := Lib.hid (rd_carry R0.out hk (by first | omega | (simp only [World.size_alloc]; omega) | (simp only [World.size_drew]; omega) | (simp only [World.size_drew, World.size_alloc]; omega)) (by first | omega | (simp only [World.size_alloc]; omega) | (simp only [World.size_drew]; omega) | (simp only [World.size_drew, World.size_alloc]; omega)))
        have R1 := Lib.hid (rd_carry R1.out hk (by first | omega | (simp only [World.size_alloc]; omega) | (simp only [World.size_drew]; omega) | (simp only [World.size_drew, World.size_alloc]; omega)) (by first | omega | (simp only [World.size_alloc]; omega) | (simp only [World.size_drew]; omega) | (simp only [World.size_drew, World.size_alloc]; omega)))
        have P1 := Lib.hid (wh_carry P1.out hk (by first | omega | (simp only [World.size_alloc]; omega) | (simp only [World.size_drew]; omega) | (simp only [World.size_drew, World.size_alloc]; omega)))
        have XW := Lib.hid (wh_carry XW.out hk (by first | omega | (simp only [World.size_alloc]; omega) | (simp only [World.size_drew]; omega) | (simp only [World.size_drew, World.size_alloc]; omega)))
        have CW := Lib.hid (rd_carry CW.out hk (by first | omega | (simp only [World.size_alloc]; omega) | (simp only [World.size_drew]; omega) | (simp only [World.size_drew, World.size_alloc]; omega)) (by first | omega | (simp only [World.size_alloc]; omega) | (simp only [World.size_drew]; omega) | (simp only [World.size_drew, World.size_alloc]; omega)))
        have Xx1 := Lib.hid (wh_carry Xx1.out hk (by first | omega | (simp only [World.size_alloc]; omega) | (simp only [World.size_drew]; omega) | (simp only [World.size_drew, World.size_alloc]; omega)))
        have Xg := Lib.hid (wh_carry Xg.out hk (by first | omega | (simp only [World.size_alloc]; omega) | (simp only [World.size_drew]; omega) | (simp only [World.size_drew, World.size_alloc]; omega)))
        clear hk hb xg0 xg1 xg2 xgl
        have hmr := marked_row (P := Bet ((w5.heap.size + 1)) (w6.heap.size)) Gg.out hmk
        have M := Lib.hid hmr
        clear hmk hmr
        have HCN := Lib.hid (show 1 + DV.cntE (TypeX.rows y.args_) ≤ 4398046511104 by rw [← TypeX.tcnt_eq]; exact hcnt)
        have EM2 := Lib.hid (show m = 1 + DV.cntE (TypeX.rows y.args_) by rw [← TypeX.tcnt_eq]; exact EM.out)
        obtain ⟨xg0, xg1, xg2⟩ := cells3 Xg.out
        have xgl := Xg.out.lt
        go_wp2_with fail
        refine (heldVType y Bg dg 1 _ (rd_und M.out (by first | omega | (simp only [World.size_alloc]; omega) | (simp only [World.size_drew]; omega) | (simp only [World.size_drew, World.size_alloc]; omega))) (by decide) HCN.out).mono ?_
        rw [← EM2.out]
        rintro e w16 ⟨rfl, hb⟩
        have hk := Keep.below hb
        have h16 : Below w.heap.size w w16 := h15.trans (hb.mono h15.size)
        have s16 := hk.size
        have R0 := Lib.hid (rd_carry R0.out hk (by first | omega | (simp only [World.size_alloc]; omega) | (simp only [World.size_drew]; omega) | (simp only [World.size_drew, World.size_alloc]; omega)) (by first | omega | (simp only [World.size_alloc]; omega) | (simp only [World.size_drew]; omega) | (simp only [World.size_drew, World.size_alloc]; omega)))
        have R1 := Lib.hid (rd_carry R1.out hk (by first | omega | (simp only [World.size_alloc]; omega) | (simp only [World.size_drew]; omega) | (simp only [World.size_drew, World.size_alloc]; omega)) (by first | omega | (simp only [World.size_alloc]; omega) | (simp only [World.size_drew]; omega) | (simp only [World.size_drew, World.size_alloc]; omega)))
        have P1 := Lib.hid (wh_carry P1.out hk (by first | omega | (simp only [World.size_alloc]; omega) | (simp only [World.size_drew]; omega) | (simp only [World.size_drew, World.size_alloc]; omega)))
        have XW := Lib.hid (wh_carry XW.out hk (by first | omega | (simp only [World.size_alloc]; omega) | (simp only [World.size_drew]; omega) | (simp only [World.size_drew, World.size_alloc]; omega)))
        have CW := Lib.hid (rd_carry CW.out hk (by first | omega | (simp only [World.size_alloc]; omega) | (simp only [World.size_drew]; omega) | (simp only [World.size_drew, World.size_alloc]; omega)) (by first | omega | (simp only [World.size_alloc]; omega) | (simp only [World.size_drew]; omega) | (simp only [World.size_drew, World.size_alloc]; omega)))
        have Xx1 := Lib.hid (wh_carry Xx1.out hk (by first | omega | (simp only [World.size_alloc]; omega) | (simp only [World.size_drew]; omega) | (simp only [World.size_drew, World.size_alloc]; omega)))
        have Xg := Lib.hid (wh_carry Xg.out hk (by first | omega | (simp only [World.size_alloc]; omega) | (simp only [World.size_drew]; omega) | (simp only [World.size_drew, World.size_alloc]; omega)))
        have M := Lib.hid (rd_carry M.out hk (by first | omega | (simp only [World.size_alloc]; omega) | (simp only [World.size_drew]; omega) | (simp only [World.size_drew, World.size_alloc]; omega)) (by first | omega | (simp only [World.size_alloc]; omega) | (simp only [World.size_drew]; omega) | (simp only [World.size_drew, World.size_alloc]; omega)))
        clear hk hb xg0 xg1 xg2 xgl
        go_upto_region 31 with (fail)
        obtain ⟨p10, p11, p12⟩ := cells3 P1.out
        have p1l := P1.out.lt
        go_cut [13] from 75 to 79 (fun v wc => BoxOut y w16 v wc)
        case first =>
          have hcur : Below w16.heap.size w16 w16 := Below.refl _ _
          go_region_with (first
            | (go_at_call 50
               refine (toBindingS l0 A0 c0 _ hww0 (rd_at R0.out (by first | omega | (simp only [World.size_alloc]; omega) | (simp only [World.size_drew]; omega) | (simp only [World.size_drew, World.size_alloc]; omega)) (by first | exact hcur | exact hcur.drew | exact hcur.alloc hcur.size _ | exact (hcur.alloc hcur.size _).drew | exact hcur.drew.alloc hcur.size _))).mono ?_
               intro e wz hm
               obtain ⟨Bz0, dz0, bsz0, rfl, -, -, hr, -, hb⟩ := madeR_get (BindingX.rows_length l0) hm
               have Cz0 := Lib.hid (rd_und hr (Nat.le_refl _))
               clear hr
               first
                 | (have hzl := Zb.lt hz; have hz := Zb.step hz hb)
                 | (have hzl := Zb.lt hz.drew; have hz := Zb.step hz.drew hb)
                 | (have hzl := Zb.lt (Zb.new hcur); have hz := Zb.step (Zb.new hcur) hb)
                 | (have hzl := Zb.lt (Zb.new hcur).drew; have hz := Zb.step (Zb.new hcur).drew hb)
                 | (have hzl := Zb.lt (Zb.new hcur.drew); have hz := Zb.step (Zb.new hcur.drew) hb)
                 | skip
               have hcur := cur_trans (by first | exact hcur | exact hcur.drew | exact hcur.alloc hcur.size _ | exact (hcur.alloc hcur.size _).drew | exact hcur.drew.alloc hcur.size _) hb
               obtain ⟨p10, p11, p12⟩ := cells3 (whole_keep P1.out hcur)
               have p1l := (whole_keep P1.out hcur).lt
               clear hm hb)
            | (go_at_call 30
               refine (toType x1 _ _ hww1 ⟨_, _, rfl, rd_at R1.out (by first | omega | (simp only [World.size_alloc]; omega) | (simp only [World.size_drew]; omega) | (simp only [World.size_drew, World.size_alloc]; omega)) (by first | exact hcur | exact hcur.drew | exact hcur.alloc hcur.size _ | exact (hcur.alloc hcur.size _).drew | exact hcur.drew.alloc hcur.size _)⟩).mono ?_
               intro e wz hm
               obtain ⟨Bz1, dz1, bsz1, rfl, -, -, hr, -, hb⟩ := madeV_get hm
               have Cz0 := Lib.hid ((Cz0.out.grow (by first | exact Below.refl _ _ | exact (Below.refl _ _).drew | exact (Below.refl _ _).alloc (Nat.le_refl _) _ | exact ((Below.refl _ _).alloc (Nat.le_refl _) _).drew | exact (Below.refl _ _).drew.alloc (Nat.le_refl _) _)).grow hb)
               have Cz1 := Lib.hid (rd_und hr (Nat.le_refl _))
               clear hr
               first
                 | (have hzl := Zb.lt hz; have hz := Zb.step hz hb)
                 | (have hzl := Zb.lt hz.drew; have hz := Zb.step hz.drew hb)
                 | (have hzl := Zb.lt (Zb.new hcur); have hz := Zb.step (Zb.new hcur) hb)
                 | (have hzl := Zb.lt (Zb.new hcur).drew; have hz := Zb.step (Zb.new hcur).drew hb)
                 | (have hzl := Zb.lt (Zb.new hcur.drew); have hz := Zb.step (Zb.new hcur.drew) hb)
                 | skip
               have hcur := cur_trans (by first | exact hcur | exact hcur.drew | exact hcur.alloc hcur.size _ | exact (hcur.alloc hcur.size _).drew | exact hcur.drew.alloc hcur.size _) hb
               obtain ⟨p10, p11, p12⟩ := cells3 (whole_keep P1.out hcur)
               have p1l := (whole_keep P1.out hcur).lt
               clear hm hb)
            | (go_at_call 22
               refine (HY.out ▸ implApply l0 Bz0 dz0 x1 Bz1 dz1 _ (by have := TypeX.size_wt x1; omega) (smallX_of hww0) (Cz0.out.grow (by first | exact Below.refl _ _ | exact (Below.refl _ _).drew | exact (Below.refl _ _).alloc (Nat.le_refl _) _ | exact ((Below.refl _ _).alloc (Nat.le_refl _) _).drew | exact (Below.refl _ _).drew.alloc (Nat.le_refl _) _)) (Cz1.out.grow (by first | exact Below.refl _ _ | exact (Below.refl _ _).drew | exact (Below.refl _ _).alloc (Nat.le_refl _) _ | exact ((Below.refl _ _).alloc (Nat.le_refl _) _).drew | exact (Below.refl _ _).drew.alloc (Nat.le_refl _) _))).mono ?_
               intro e wz hm
               obtain ⟨Bh, dh, bsh, rfl, -, -, hr, -, hb⟩ := madeV_get hm
               first
                 | (have hzl := Zb.lt hz; have hz := Zb.step hz hb)
                 | (have hzl := Zb.lt hz.drew; have hz := Zb.step hz.drew hb)
                 | (have hzl := Zb.lt (Zb.new hcur); have hz := Zb.step (Zb.new hcur) hb)
                 | (have hzl := Zb.lt (Zb.new hcur).drew; have hz := Zb.step (Zb.new hcur).drew hb)
                 | (have hzl := Zb.lt (Zb.new hcur.drew); have hz := Zb.step (Zb.new hcur.drew) hb)
                 | skip
               have hen := Below.size (cur_start (E := w16) (by first | exact hcur | exact hcur.drew | exact hcur.alloc hcur.size _ | exact (hcur.alloc hcur.size _).drew | exact hcur.drew.alloc hcur.size _) hb)
               have hcur := cur_trans (by first | exact hcur | exact hcur.drew | exact hcur.alloc hcur.size _ | exact (hcur.alloc hcur.size _).drew | exact hcur.drew.alloc hcur.size _) hb
               obtain ⟨p10, p11, p12⟩ := cells3 (whole_keep P1.out hcur)
               have p1l := (whole_keep P1.out hcur).lt
               try (obtain ⟨z0, z1, z2⟩ := cells3 hz.1; have zf0 := hz.1.frozen 0; have zf1 := hz.1.frozen 1; have zf2 := hz.1.frozen 2)
               clear hm hb))
          all_goals (
            have HR := Lib.hid hr
            clear hr
            go_wp2
            go_meet
            case rel => first | exact box_a hcur HR.out hen | exact box_b hcur HR.out hen hz hzl)
        case rest =>
          obtain ⟨Xh, Bh, dh, rfl, hX, hwX, hr, hb⟩ := hcut
          obtain ⟨wc17, hwc⟩ : ∃ w', w' = wc := ⟨_, rfl⟩
          rw [← hwc] at hwX hr hb ⊢
          clear hwc
          clear p10 p11 p12 p1l
          have hk := Keep.below hb
          have h17 : Below w.heap.size w wc17 := h16.trans (hb.mono h16.size)
          have s17 := hk.size
          have lXh := hwX.lt
          have gXh := hX
          have R0 := Lib.hid (rd_carry R0.out hk (by first | omega | (simp only [World.size_alloc]; omega) | (simp only [World.size_drew]; omega) | (simp only [World.size_drew, World.size_alloc]; omega)) (by first | omega | (simp only [World.size_alloc]; omega) | (simp only [World.size_drew]; omega) | (simp only [World.size_drew, World.size_alloc]; omega)))
          have R1 := Lib.hid (rd_carry R1.out hk (by first | omega | (simp only [World.size_alloc]; omega) | (simp only [World.size_drew]; omega) | (simp only [World.size_drew, World.size_alloc]; omega)) (by first | omega | (simp only [World.size_alloc]; omega) | (simp only [World.size_drew]; omega) | (simp only [World.size_drew, World.size_alloc]; omega)))
          have P1 := Lib.hid (wh_carry P1.out hk (by first | omega | (simp only [World.size_alloc]; omega) | (simp only [World.size_drew]; omega) | (simp only [World.size_drew, World.size_alloc]; omega)))
          have XW := Lib.hid (wh_carry XW.out hk (by first | omega | (simp only [World.size_alloc]; omega) | (simp only [World.size_drew]; omega) | (simp only [World.size_drew, World.size_alloc]; omega)))
          have CW := Lib.hid (rd_carry CW.out hk (by first | omega | (simp only [World.size_alloc]; omega) | (simp only [World.size_drew]; omega) | (simp only [World.size_drew, World.size_alloc]; omega)) (by first | omega | (simp only [World.size_alloc]; omega) | (simp only [World.size_drew]; omega) | (simp only [World.size_drew, World.size_alloc]; omega)))
          have Xx1 := Lib.hid (wh_carry Xx1.out hk (by first | omega | (simp only [World.size_alloc]; omega) | (simp only [World.size_drew]; omega) | (simp only [World.size_drew, World.size_alloc]; omega)))
          have Xg := Lib.hid (wh_carry Xg.out hk (by first | omega | (simp only [World.size_alloc]; omega) | (simp only [World.size_drew]; omega) | (simp only [World.size_drew, World.size_alloc]; omega)))
          have M := Lib.hid (rd_carry M.out hk (by first | omega | (simp only [World.size_alloc]; omega) | (simp only [World.size_drew]; omega) | (simp only [World.size_drew, World.size_alloc]; omega)) (by first | omega | (simp only [World.size_alloc]; omega) | (simp only [World.size_drew]; omega) | (simp only [World.size_drew, World.size_alloc]; omega)))
          have Xh := Lib.hid hwX
          have Ch := Lib.hid hr
          clear hk hb hX hwX hr
          obtain ⟨xh0, xh1, xh2⟩ := cells3 Xh.out
          have xhl := Xh.out.lt
          obtain ⟨xw0, xw1, xw2⟩ := cells3 XW.out
          have xwl := XW.out.lt
          go_wp2_with fail
          refine (eqType y _ _ _ ⟨_, _, rfl, rd_und Ch.out (by first | omega | (simp only [World.size_alloc]; omega) | (simp only [World.size_drew]; omega) | (simp only [World.size_drew, World.size_alloc]; omega))⟩ ⟨_, _, rfl, rd_und CW.out (by first | omega | (simp only [World.size_alloc]; omega) | (simp only [World.size_drew]; omega) | (simp only [World.size_drew, World.size_alloc]; omega))⟩).mono ?_
          rintro e w18 ⟨rfl, hb⟩
          have hk := Keep.below hb
          have h18 : Below w.heap.size w w18 := h17.trans (hb.mono h17.size)
          have s18 := hk.size
          have R0 := Lib.hid (rd_carry R0.out hk (by first | omega | (simp only [World.size_alloc]; omega) | (simp only [World.size_drew]; omega) | (simp only [World.size_drew, World.size_alloc]; omega)) (by first | omega | (simp only [World.size_alloc]; omega) | (simp only [World.size_drew]; omega) | (simp only [World.size_drew, World.size_alloc]; omega)))
          have R1 := Lib.hid (rd_carry R1.out hk (by first | omega | (simp only [World.size_alloc]; omega) | (simp only [World.size_drew]; omega) | (simp only [World.size_drew, World.size_alloc]; omega)) (by first | omega | (simp only [World.size_alloc]; omega) | (simp only [World.size_drew]; omega) | (simp only [World.size_drew, World.size_alloc]; omega)))
          have P1 := Lib.hid (wh_carry P1.out hk (by first | omega | (simp only [World.size_alloc]; omega) | (simp only [World.size_drew]; omega) | (simp only [World.size_drew, World.size_alloc]; omega)))
          have XW := Lib.hid (wh_carry XW.out hk (by first | omega | (simp only [World.size_alloc]; omega) | (simp only [World.size_drew]; omega) | (simp only [World.size_drew, World.size_alloc]; omega)))
          have CW := Lib.hid (rd_carry CW.out hk (by first | omega | (simp only [World.size_alloc]; omega) | (simp only [World.size_drew]; omega) | (simp only [World.size_drew, World.size_alloc]; omega)) (by first | omega | (simp only [World.size_alloc]; omega) | (simp only [World.size_drew]; omega) | (simp only [World.size_drew, World.size_alloc]; omega)))
          have Xx1 := Lib.hid (wh_carry Xx1.out hk (by first | omega | (simp only [World.size_alloc]; omega) | (simp only [World.size_drew]; omega) | (simp only [World.size_drew, World.size_alloc]; omega)))
          have Xg := Lib.hid (wh_carry Xg.out hk (by first | omega | (simp only [World.size_alloc]; omega) | (simp only [World.size_drew]; omega) | (simp only [World.size_drew, World.size_alloc]; omega)))
          have M := Lib.hid (rd_carry M.out hk (by first | omega | (simp only [World.size_alloc]; omega) | (simp only [World.size_drew]; omega) | (simp only [World.size_drew, World.size_alloc]; omega)) (by first | omega | (simp only [World.size_alloc]; omega) | (simp only [World.size_drew]; omega) | (simp only [World.size_drew, World.size_alloc]; omega)))
          have Xh := Lib.hid (wh_carry Xh.out hk (by first | omega | (simp only [World.size_alloc]; omega) | (simp only [World.size_drew]; omega) | (simp only [World.size_drew, World.size_alloc]; omega)))
          have Ch := Lib.hid (rd_carry Ch.out hk (by first | omega | (simp only [World.size_alloc]; omega) | (simp only [World.size_drew]; omega) | (simp only [World.size_drew, World.size_alloc]; omega)) (by first | omega | (simp only [World.size_alloc]; omega) | (simp only [World.size_drew]; omega) | (simp only [World.size_drew, World.size_alloc]; omega)))
          clear hk hb xh0 xh1 xh2 xhl xw0 xw1 xw2 xwl
          obtain ⟨xg0, xg1, xg2⟩ := cells3 Xg.out
          have xgl := Xg.out.lt
          go_wp2_with fail
          refine (heldVType y Bg dg 1 _ (rd_und M.out (by first | omega | (simp only [World.size_alloc]; omega) | (simp only [World.size_drew]; omega) | (simp only [World.size_drew, World.size_alloc]; omega))) (by decide) HCN.out).mono ?_
          rw [← EM2.out]
          rintro e w19 ⟨rfl, hb⟩
          have hk := Keep.below hb
          have h19 : Below w.heap.size w w19 := h18.trans (hb.mono h18.size)
          have s19 := hk.size
          have R0 := Lib.hid (rd_carry R0.out hk (by first | omega | (simp only [World.size_alloc]; omega) | (simp only [World.size_drew]; omega) | (simp only [World.size_drew, World.size_alloc]; omega)) (by first | omega | (simp only [World.size_alloc]; omega) | (simp only [World.size_drew]; omega) | (simp only [World.size_drew, World.size_alloc]; omega)))
          have R1 := Lib.hid (rd_carry R1.out hk (by first | omega | (simp only [World.size_alloc]; omega) | (simp only [World.size_drew]; omega) | (simp only [World.size_drew, World.size_alloc]; omega)) (by first | omega | (simp only [World.size_alloc]; omega) | (simp only [World.size_drew]; omega) | (simp only [World.size_drew, World.size_alloc]; omega)))
          have P1 := Lib.hid (wh_carry P1.out hk (by first | omega | (simp only [World.size_alloc]; omega) | (simp only [World.size_drew]; omega) | (simp only [World.size_drew, World.size_alloc]; omega)))
          have XW := Lib.hid (wh_carry XW.out hk (by first | omega | (simp only [World.size_alloc]; omega) | (simp only [World.size_drew]; omega) | (simp only [World.size_drew, World.size_alloc]; omega)))
          have CW := Lib.hid (rd_carry CW.out hk (by first | omega | (simp only [World.size_alloc]; omega) | (simp only [World.size_drew]; omega) | (simp only [World.size_drew, World.size_alloc]; omega)) (by first | omega | (simp only [World.size_alloc]; omega) | (simp only [World.size_drew]; omega) | (simp only [World.size_drew, World.size_alloc]; omega)))
          have Xx1 := Lib.hid (wh_carry Xx1.out hk (by first | omega | (simp only [World.size_alloc]; omega) | (simp only [World.size_drew]; omega) | (simp only [World.size_drew, World.size_alloc]; omega)))
          have Xg := Lib.hid (wh_carry Xg.out hk (by first | omega | (simp only [World.size_alloc]; omega) | (simp only [World.size_drew]; omega) | (simp only [World.size_drew, World.size_alloc]; omega)))
          have M := Lib.hid (rd_carry M.out hk (by first | omega | (simp only [World.size_alloc]; omega) | (simp only [World.size_drew]; omega) | (simp only [World.size_drew, World.size_alloc]; omega)) (by first | omega | (simp only [World.size_alloc]; omega) | (simp only [World.size_drew]; omega) | (simp only [World.size_drew, World.size_alloc]; omega)))
          have Xh := Lib.hid (wh_carry Xh.out hk (by first | omega | (simp only [World.size_alloc]; omega) | (simp only [World.size_drew]; omega) | (simp only [World.size_drew, World.size_alloc]; omega)))
          have Ch := Lib.hid (rd_carry Ch.out hk (by first | omega | (simp only [World.size_alloc]; omega) | (simp only [World.size_drew]; omega) | (simp only [World.size_drew, World.size_alloc]; omega)) (by first | omega | (simp only [World.size_alloc]; omega) | (simp only [World.size_drew]; omega) | (simp only [World.size_drew, World.size_alloc]; omega)))
          clear hk hb xg0 xg1 xg2 xgl
          go_wp2
          go_ret
          exact ⟨rfl, h19⟩
end Go.Proofs.Ytkiofeiinecpiaa
