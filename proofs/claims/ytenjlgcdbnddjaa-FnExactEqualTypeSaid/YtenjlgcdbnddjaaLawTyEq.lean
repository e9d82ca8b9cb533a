/- The law of EqualType. -/
import Derived.Test.YtenjlgcdbnddjaaLawT
import Derived.Test.YtenjlgcdbnddjaaTyEqJ
import Derived.Deep.CutRange
namespace Go.Proofs.Ytenjlgcdbnddjaa
open Go.RowKit Go.Lib

theorem typeAt_of {w : World} {P : Nat → Prop} {x : TypeX} {A : Option Addr} {c : Nat} (h : TypeRow w P A c x.args_) : TypeAt w P x (.agg #[.int .i64 x.kind_, .string x.name_, .slice A x.args_.length c]) := ⟨_, _, rfl, h⟩
theorem TypeRow.cur {w w' : World} {A : Option Addr} {c : Nat} {l : List TypeX} (h : TypeRow w (Und w.heap.size) A c l) (hb : Below w.heap.size w w') : TypeRow w' (Und w'.heap.size) A c l := h.grow hb
set_option maxRecDepth 100000 in
set_option maxHeartbeats 8000000 in
theorem lawTyEq (x y : TypeX) (v v' : Value) (w : World) (hox : DV.okL x.cells) (hoy : DV.okL y.cells) (hv : TypeAt w (Und w.heap.size) x v) (hv' : TypeAt w (Und w.heap.size) y v') :
    Calls Try.prog 5 #[v, v'] w fun e w' => e = .returned (.bool true) ∧ Below w.heap.size w w' := by
  obtain ⟨A, c, rfl, hx⟩ := hv
  obtain ⟨B, d, rfl, hy⟩ := hv'
  obtain ⟨W0, hW0⟩ : ∃ W0, W0 = (w.alloc (.cells #[.int .i64 x.kind_, .string x.name_, .slice A x.args_.length c] 37)).alloc (.cells #[.int .i64 y.kind_, .string y.name_, .slice B y.args_.length d] 37) := ⟨_, rfl⟩
  have hz0 : W0.heap.size = w.heap.size + 2 := by rw [hW0]; simp
  have hb0 : Below w.heap.size w W0 := by rw [hW0]; exact ((Below.refl _ _).alloc (Nat.le_refl _) _).alloc (by simp) _
  have hwx : Whole W0 w.heap.size 37 #[.int .i64 x.kind_, .string x.name_, .slice A x.args_.length c] := by rw [hW0]; exact (Whole.new w _ _).below ((Below.refl (w.heap.size + 1) _).alloc (by simp) _) (by omega)
  have hwy : Whole W0 (w.heap.size + 1) 37 #[.int .i64 y.kind_, .string y.name_, .slice B y.args_.length d] := by
    have h := Whole.new (w.alloc (.cells #[.int .i64 x.kind_, .string x.name_, .slice A x.args_.length c] 37)) 37 #[.int .i64 y.kind_, .string y.name_, .slice B y.args_.length d]
    rw [World.size_alloc] at h
    rw [hW0]; exact h
  have HX := Lib.hid hx
  have HY := Lib.hid hy
  have HWX := Lib.hid hwx
  have HWY := Lib.hid hwy
  have HE := Lib.hid hW0.symm
  have HZ := Lib.hid hz0
  clear hx hy hwx hwy hW0 hz0
  by_cases hw : DV.wtL x.cells ≤ 1048576
  case neg =>
    have HF := Lib.hid (leftV_no (L := 1048576) (n := DV.wtL x.cells) (by omega))
    go_enter Try.func5, Try.ntmps5
    go_wp2_with fail
    rw [HE.out]
    refine (szType x _ 1048576 _ hox ⟨_, _, rfl, HX.out.grow hb0⟩ (by decide)).mono ?_
    rw [HF.out]
    rintro e w1 ⟨rfl, hb1⟩
    have h1 : Below w.heap.size w w1 := hb0.trans (hb1.mono hb0.size)
    go_wp2
    go_ret
    exact ⟨rfl, h1⟩
  case pos =>
    obtain ⟨L1, hL1⟩ : ∃ L1 : Nat, leftV 1048576 (DV.wtL x.cells) = (L1 : Nat) ∧ L1 = 1048576 - DV.wtL x.cells := ⟨1048576 - DV.wtL x.cells, by rw [leftV_yes hw]; omega, rfl⟩
    have HL1 := Lib.hid hL1.1
    have hl1 : L1 ≤ 1048576 := by have := hL1.2; omega
    have hnn : ¬ (L1 : Int) < 0 := by omega
    clear hL1
    by_cases hw2 : DV.wtL y.cells ≤ L1
    case neg =>
      have HF := Lib.hid (leftV_no (L := L1) (n := DV.wtL y.cells) (by omega))
      go_enter Try.func5, Try.ntmps5
      go_wp2_with fail
      rw [HE.out]
      refine (szType x _ 1048576 _ hox ⟨_, _, rfl, HX.out.grow hb0⟩ (by decide)).mono ?_
      rw [HL1.out]
      rintro e w1 ⟨rfl, hb1⟩
      have h1 : Below w.heap.size w w1 := hb0.trans (hb1.mono hb0.size)
      obtain ⟨r0, r1, r2⟩ := cells3 (whole_keep HWY.out hb1)
      go_wp2_with fail
      refine (szType y _ L1 _ hoy ⟨_, _, rfl, HY.out.grow h1⟩ hl1).mono ?_
      rw [HF.out]
      rintro e w2 ⟨rfl, hb2⟩
      have h2 : Below w.heap.size w w2 := h1.trans (hb2.mono h1.size)
      go_wp2
      go_ret
      exact ⟨rfl, h2⟩
    case pos =>
      obtain ⟨L2, hL2⟩ : ∃ L2 : Nat, leftV L1 (DV.wtL y.cells) = (L2 : Nat) := ⟨L1 - DV.wtL y.cells, by rw [leftV_yes hw2]; omega⟩
      have HL2 := Lib.hid hL2
      have hnn2 : ¬ (L2 : Int) < 0 := by omega
      have hwy : DV.wtL y.cells ≤ 1048576 := by omega
      have hsz : x.size ≤ 4294967296 := by have := TypeX.size_wt x; omega
      clear hL2 hw2
      go_enter Try.func5, Try.ntmps5
      go_wp2_with fail
      rw [HE.out]
      refine (szType x _ 1048576 _ hox ⟨_, _, rfl, HX.out.grow hb0⟩ (by decide)).mono ?_
      rw [HL1.out]
      rintro e w1 ⟨rfl, hb1⟩
      have h1 : Below w.heap.size w w1 := hb0.trans (hb1.mono hb0.size)
      obtain ⟨r0, r1, r2⟩ := cells3 (whole_keep HWY.out hb1)
      go_wp2_with fail
      refine (szType y _ L1 _ hoy ⟨_, _, rfl, HY.out.grow h1⟩ hl1).mono ?_
      rw [HL2.out]
      rintro e w2 ⟨rfl, hb2⟩
      have g2 : Below W0.heap.size W0 w2 := hb1.trans (hb2.mono hb1.size)
      have h2 : Below w.heap.size w w2 := h1.trans (hb2.mono h1.size)
      clear r0 r1 r2 hb1 hb2 h1
      obtain ⟨p0, p1, p2⟩ := cells3 (whole_keep HWX.out g2)
      obtain ⟨r0, r1, r2⟩ := cells3 (whole_keep HWY.out g2)
      have HWX2 := Lib.hid (whole_keep HWX.out g2)
      have HWY2 := Lib.hid (whole_keep HWY.out g2)
      have HX2 := Lib.hid (HX.out.grow h2)
      have HY2 := Lib.hid (HY.out.grow h2)
      go_upto_region 8 with (fail)
      go_cut [6] from 20 to 24 (fun v6 wc => v6 = .bool (x.same y) ∧ Below w2.heap.size w2 wc)
      case first =>
        have hcur : Below w2.heap.size w2 w2.drew := (Below.refl _ w2).drew
        go_region_with (first
          | (go_at_call 29
             refine (specSameTy x y _ _ _ ⟨_, _, rfl, HMA.out⟩ ⟨_, _, rfl, HMB.out⟩).mono ?_
             rintro e w9 ⟨rfl, hb9⟩
             have hcur := hcur.trans (hb9.mono hcur.size))
          | (go_at_call 27
             ((with_reducible refine (toType x (.agg #[.int .i64 x.kind_, .string x.name_, .slice A x.args_.length c]) _ hw (typeAt_of (HX2.out.cur hcur))).mono ?_)
              intro e w6 hm6
              obtain ⟨A6, c6, rfl, hr6, hb6⟩ := made_type hm6
              have hcur := hcur.trans (hb6.mono hcur.size)
              have HMA := Lib.hid hr6
              try (have HMB := Lib.hid (HMB.out.grow hb6))
              obtain ⟨p0, p1, p2⟩ := cells3 (whole_keep HWX2.out hcur)
              obtain ⟨r0, r1, r2⟩ := cells3 (whole_keep HWY2.out hcur)
              clear hr6 hm6))
          | (go_at_call 27
             ((with_reducible refine (toType y (.agg #[.int .i64 y.kind_, .string y.name_, .slice B y.args_.length d]) _ hwy (typeAt_of (HY2.out.cur hcur))).mono ?_)
              intro e w6 hm6
              obtain ⟨A6, c6, rfl, hr6, hb6⟩ := made_type hm6
              have hcur := hcur.trans (hb6.mono hcur.size)
              have HMB := Lib.hid hr6
              try (have HMA := Lib.hid (HMA.out.grow hb6))
              obtain ⟨p0, p1, p2⟩ := cells3 (whole_keep HWX2.out hcur)
              obtain ⟨r0, r1, r2⟩ := cells3 (whole_keep HWY2.out hcur)
              clear hr6 hm6)))
        all_goals (
          go_wp2
          go_meet
          case rel => exact ⟨rfl, hcur⟩)
      case rest =>
        obtain ⟨rfl, hbc⟩ := hcut
        have h3 : Below w.heap.size w wc := h2.trans (hbc.mono h2.size)
        have g3 : Below W0.heap.size W0 wc := g2.trans (hbc.mono g2.size)
        clear p0 p1 p2 r0 r1 r2 hbc
        obtain ⟨p0, p1, p2⟩ := cells3 (whole_keep HWX.out g3)
        go_wp2_with fail
        refine (toType x _ _ hw ⟨_, _, rfl, HX.out.grow h3⟩).mono ?_
        intro e w4 hm4
        obtain ⟨A4, c4, rfl, hr4, hb4⟩ := made_type hm4
        have n4 : Below w4.heap.size w4 (w4.alloc (.cells #[.int .i64 x.kind_, .string x.name_, .slice A4 x.args_.length c4] 26)) := (Below.refl _ _).alloc (Nat.le_refl _) _
        have g4 := g3.trans ((hb4.trans (n4.mono hb4.size)).mono g3.size)
        have h4 := h3.trans ((hb4.trans (n4.mono hb4.size)).mono h3.size)
        have HM4 := Lib.hid (hr4.grow n4)
        have HB4 := Lib.hid (Whole.new w4 26 #[.int .i64 x.kind_, .string x.name_, .slice A4 x.args_.length c4])
        clear hm4 hr4 p0 p1 p2
        obtain ⟨r0, r1, r2⟩ := cells3 (whole_keep HWY.out g4)
        go_wp2_with fail
        refine (toType y _ _ hwy ⟨_, _, rfl, HY.out.grow h4⟩).mono ?_
        intro e w5 hm5
        obtain ⟨A5, c5, rfl, hr5, hb5⟩ := made_type hm5
        have n5 : Below w5.heap.size w5 (w5.alloc (.cells #[.int .i64 y.kind_, .string y.name_, .slice A5 y.args_.length c5] 26)) := (Below.refl _ _).alloc (Nat.le_refl _) _
        have s5 := hb5.trans (n5.mono hb5.size)
        have g5 := g4.trans (s5.mono g4.size)
        have h5 := h4.trans (s5.mono h4.size)
        have HM5 := Lib.hid (hr5.grow n5)
        have HB5 := Lib.hid (Whole.new w5 26 #[.int .i64 y.kind_, .string y.name_, .slice A5 y.args_.length c5])
        have HM45 := Lib.hid (HM4.out.grow s5)
        have HB45 := Lib.hid (whole_keep HB4.out s5)
        clear hm5 hr5 r0 r1 r2
        obtain ⟨p0, p1, p2⟩ := cells3 HB45.out
        obtain ⟨q0, q1, q2⟩ := cells3 HB5.out
        go_wp2_with fail
        refine (implEqTy x y _ _ _ hsz ⟨_, _, rfl, HM45.out⟩ ⟨_, _, rfl, HM5.out⟩).mono ?_
        rintro e w6 ⟨rfl, hb6⟩
        have g6 := g5.trans (hb6.mono g5.size)
        have h6 := h5.trans (hb6.mono h5.size)
        have HMX := Lib.hid (HM45.out.grow hb6)
        have HMY := Lib.hid (HM5.out.grow hb6)
        have HBX := Lib.hid (whole_keep HB45.out hb6)
        have HBY := Lib.hid (whole_keep HB5.out hb6)
        have HX6 := Lib.hid (HX.out.grow h6)
        have HY6 := Lib.hid (HY.out.grow h6)
        have HWX6 := Lib.hid (whole_keep HWX.out g6)
        have HWY6 := Lib.hid (whole_keep HWY.out g6)
        clear p0 p1 p2 q0 q1 q2
        obtain ⟨p0, p1, p2⟩ := cells3 HWX6.out
        obtain ⟨q0, q1, q2⟩ := cells3 HBX.out
        go_upto_region 14 with (fail)
        go_cut [39] from 35 to 39 (fun v39 wd => v39 = .bool false ∧ Below w6.heap.size w6 wd)
        case first =>
          have hcur : Below w6.heap.size w6 w6.drew := (Below.refl _ w6).drew
          go_region_with (first
            | (go_at_call 27
               refine (toType x _ _ hw ⟨_, _, rfl, HX6.out.grow hcur⟩).mono ?_
               intro e w7 hm7
               obtain ⟨A7, c7, rfl, hr7, hb7⟩ := made_type hm7
               have hcur := hcur.trans (hb7.mono hcur.size)
               have HN := Lib.hid hr7
               obtain ⟨q0, q1, q2⟩ := cells3 (whole_keep HBX.out hcur)
               clear hr7 hm7)
            | (go_at_call 28
               refine (eqType x _ _ _ ⟨_, _, rfl, HMX.out.grow hcur⟩ ⟨_, _, rfl, HN.out⟩).mono ?_
               rintro e w8 ⟨rfl, hb8⟩
               have hcur := hcur.trans (hb8.mono hcur.size)))
          all_goals (
            go_wp2
            go_meet
            case rel => exact ⟨rfl, hcur⟩)
        case rest =>
          obtain ⟨rfl, hbc⟩ := hcut
          have g7 := g6.trans (hbc.mono g6.size)
          have h7 := h6.trans (hbc.mono h6.size)
          have HMY7 := Lib.hid (HMY.out.grow hbc)
          have HBY7 := Lib.hid (whole_keep HBY.out hbc)
          have HY7 := Lib.hid (HY.out.grow h7)
          have HWY7 := Lib.hid (whole_keep HWY.out g7)
          clear p0 p1 p2 q0 q1 q2
          obtain ⟨p0, p1, p2⟩ := cells3 HWY7.out
          obtain ⟨q0, q1, q2⟩ := cells3 HBY7.out
          have hcur : Below wc.heap.size wc wc.drew := (Below.refl _ wc).drew
          go_wp2
          go_region_with (first
            | (go_at_call 27
               refine (toType y _ _ hwy ⟨_, _, rfl, HY7.out.grow hcur⟩).mono ?_
               intro e w7 hm7
               obtain ⟨A7, c7, rfl, hr7, hb7⟩ := made_type hm7
               have hcur := hcur.trans (hb7.mono hcur.size)
               have HN := Lib.hid hr7
               obtain ⟨q0, q1, q2⟩ := cells3 (whole_keep HBY7.out hcur)
               clear hr7 hm7)
            | (go_at_call 28
               refine (eqType y _ _ _ ⟨_, _, rfl, HMY7.out.grow hcur⟩ ⟨_, _, rfl, HN.out⟩).mono ?_
               rintro e w8 ⟨rfl, hb8⟩
               have hcur := hcur.trans (hb8.mono hcur.size)))
          all_goals (
            go_wp2
            go_ret
            exact ⟨rfl, h7.trans (hcur.mono h7.size)⟩)
end Go.Proofs.Ytenjlgcdbnddjaa
