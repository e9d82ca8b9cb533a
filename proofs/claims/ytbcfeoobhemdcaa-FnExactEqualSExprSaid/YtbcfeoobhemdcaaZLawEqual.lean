/- The law of EqualSExpr. -/
import Derived.Test.YtbcfeoobhemdcaaZEqualImpl
import Derived.Test.YtbcfeoobhemdcaaZLawX
namespace Go.Proofs.Ytbcfeoobhemdcaa
open Go.RowKit Go.Lib

set_option maxRecDepth 100000 in
set_option maxHeartbeats 4000000 in
theorem lawEqual (x y : SX) (A B : Option Addr) (c d : Nat) (w : World) (hox : x.ok) (hoy : y.ok) (hA : ListAt w (Lt w.heap.size) A x.list) (hB : ListAt w (Lt w.heap.size) B y.list) :
    Calls Try.prog 8 #[.agg #[.string x.atom, .slice A x.list.length c], .agg #[.string y.atom, .slice B y.list.length d]] w fun e w' => e = .returned (.bool true) ∧ Below w.heap.size w w' := by
  obtain ⟨W, hWd⟩ : ∃ W, W = (w.alloc (.cells #[.string x.atom, .slice A x.list.length c] 46)).alloc (.cells #[.string y.atom, .slice B y.list.length d] 46) := ⟨_, rfl⟩
  have hb0 : Below w.heap.size w W := by rw [hWd]; exact ((Below.refl _ _).alloc (Nat.le_refl _) _).alloc (by simp) _
  have hWs : W.heap.size = w.heap.size + 2 := by rw [hWd]; simp
  have box : ∀ (wr : World), Below W.heap.size W wr → wr.cell? ⟨w.heap.size, 0, none⟩ = some (.string x.atom) ∧ wr.cell? ⟨w.heap.size, 1, none⟩ = some (.slice A x.list.length c) ∧ wr.cell? ⟨w.heap.size + 1, 0, none⟩ = some (.string y.atom) ∧ wr.cell? ⟨w.heap.size + 1, 1, none⟩ = some (.slice B y.list.length d) := by
    intro wr h
    rw [hWs, hWd] at h
    obtain ⟨h1, h2, h3, h4, _⟩ := boxed2 h
    exact ⟨h1, h2, h3, h4⟩
  have HA0 := Lib.hid (hA.grow hb0)
  have HB0 := Lib.hid (hB.grow hb0)
  have HBX : Hid (∀ (wr : World), Below W.heap.size W wr → wr.cell? ⟨w.heap.size, 0, none⟩ = some (.string x.atom) ∧ wr.cell? ⟨w.heap.size, 1, none⟩ = some (.slice A x.list.length c) ∧ wr.cell? ⟨w.heap.size + 1, 0, none⟩ = some (.string y.atom) ∧ wr.cell? ⟨w.heap.size + 1, 1, none⟩ = some (.slice B y.list.length d)) := Lib.hid box
  have HWD := Lib.hid hWd
  have HWS := Lib.hid hWs
  clear hA hB hWd hWs box
  by_cases hwx : x.wt ≤ 1048576
  · have hlf := leftOf_yes hwx
    have hnn : ¬ ((1048576 : Nat) : Int) - (x.wt : Int) < 0 := by omega
    have hcast : ((1048576 : Nat) : Int) - (x.wt : Int) = ((1048576 - x.wt : Nat) : Int) := by omega
    have HF := Lib.hid (hlf.trans hcast)
    clear hlf hcast
    by_cases hwy : y.wt ≤ 1048576 - x.wt
    · have hlf2 := leftOf_yes hwy
      have hnn2 : ¬ ((1048576 - x.wt : Nat) : Int) - (y.wt : Int) < 0 := by omega
      have hmx : x.nodes ≤ 4294967296 := by have := SX.nodes_wt x; omega
      have hmy : y.nodes ≤ 4294967296 := by have := SX.nodes_wt y; omega
      have hwy1 : y.wt ≤ 1048576 := by omega
      have HF2 := Lib.hid hlf2
      clear hlf2
      go_enter Try.func8, Try.ntmps8
      go_wp2_with fail
      rw [← HWD.out]
      refine (szX x A c 1048576 _ hox HA0.out (by decide)).mono ?_
      rintro e w1 ⟨rfl, hb1⟩
      rw [HF.out]
      obtain ⟨c0, c1, d0, d1⟩ := HBX.out _ hb1
      have HA1 := Lib.hid (HA0.out.grow hb1)
      have HB1 := Lib.hid (HB0.out.grow hb1)
      go_wp2_with fail
      refine (szX y B d (1048576 - x.wt) _ hoy HB1.out (by omega)).mono ?_
      rintro e w2 ⟨rfl, hb2⟩
      rw [HF2.out]
      have b2 := hb1.trans (hb2.mono hb1.size)
      clear c0 c1 d0 d1
      obtain ⟨c0, c1, d0, d1⟩ := HBX.out _ b2
      have HA2 := Lib.hid (HA1.out.grow hb2)
      have HB2 := Lib.hid (HB1.out.grow hb2)
      go_upto_region 8 with (fail)
      go_cut [6] from 20 to 24 (fun v wc => v = .bool (x.same y) ∧ Below w2.heap.size w2 wc)
      case first =>
        go_region_with (first
          | (go_at_call_of 38 (Value.agg #[.string x.atom, .slice A x.list.length c])
             refine (toX x A c _ hwx HA2.out.drew_).mono ?_
             rintro e w3 ⟨A3, c3, rfl, hl3, hb3⟩
             have hb3 : Below w2.heap.size w2 w3 := (Below.refl _ w2).drew.trans hb3
             have HA3 := Lib.hid (made_lt hl3)
             have HB3 := Lib.hid (HB2.out.grow hb3)
             obtain ⟨e0, e1, f0, f1⟩ := HBX.out _ (b2.trans (hb3.mono b2.size))
             clear hl3)
          | (go_at_call_of 38 (Value.agg #[.string y.atom, .slice B y.list.length d])
             refine (toX y B d _ hwy1 HB3.out).mono ?_
             rintro e w4 ⟨A4, c4, rfl, hl4, hb4⟩
             have h4 : Below w2.heap.size w2 w4 := hb3.trans (hb4.mono hb3.size)
             have HA4 := Lib.hid (HA3.out.grow hb4)
             have HB4 := Lib.hid (made_lt hl4)
             clear hl4)
          | (go_at_call 21
             refine (sameX _ x y A3 A4 c3 c4 _ (Nat.le_refl _) hmx hmy HA4.out HB4.out).mono ?_
             rintro e w5 ⟨rfl, hb5⟩
             have h5 : Below w2.heap.size w2 w5 := h4.trans (hb5.mono h4.size)))
        all_goals go_wp2
        all_goals (
          go_meet
          case rel => exact ⟨rfl, h5⟩)
      case rest =>
        obtain ⟨rfl, hb3⟩ := hcut
        obtain ⟨w3, rfl⟩ : ∃ w3 : World, w3 = wc := ⟨_, rfl⟩
        have b3 := b2.trans (hb3.mono b2.size)
        clear c0 c1 d0 d1
        obtain ⟨c0, c1, d0, d1⟩ := HBX.out _ b3
        have HA3 := Lib.hid (HA2.out.grow hb3)
        have HB3 := Lib.hid (HB2.out.grow hb3)
        go_wp2_with fail
        refine (toX x A c _ hwx HA3.out).mono ?_
        rintro e w4 ⟨A4, c4, rfl, hl4, hb4⟩
        have n4 : Below w4.heap.size w4 (w4.alloc (.cells #[.string x.atom, .slice A4 x.list.length c4] 26)) := (Below.refl _ _).alloc (Nat.le_refl _) _
        have b4 := b3.trans ((hb4.trans (n4.mono hb4.size)).mono b3.size)
        clear c0 c1 d0 d1
        obtain ⟨c0, c1, d0, d1⟩ := HBX.out _ (b3.trans (hb4.mono b3.size))
        have hz4 : w.heap.size + 1 < w4.heap.size := by have h1 := b3.size; have h2 := hb4.size; rw [HWS.out] at h1; omega
        have HM4 := Lib.hid ((made_lt hl4).grow n4)
        have HB4 := Lib.hid ((HB3.out.grow hb4).grow n4)
        have HA4 := Lib.hid ((HA3.out.grow hb4).grow n4)
        have hw4 := Whole.new w4 26 #[.string x.atom, .slice A4 x.list.length c4]
        clear hl4
        go_wp2_with fail
        refine (toX y B d _ hwy1 HB4.out).mono ?_
        rintro e w5 ⟨A5, c5, rfl, hl5, hb5⟩
        have n5 : Below w5.heap.size w5 (w5.alloc (.cells #[.string y.atom, .slice A5 y.list.length c5] 26)) := (Below.refl _ _).alloc (Nat.le_refl _) _
        have b5 := b4.trans ((hb5.trans (n5.mono hb5.size)).mono b4.size)
        have hw5 := hw4.below hb5 hw4.lt
        have u0 : w5.cell? ⟨w4.heap.size, 0, none⟩ = some (.string x.atom) := by rw [hw5.cell]; rfl
        have u1 : w5.cell? ⟨w4.heap.size, 1, none⟩ = some (.slice A4 x.list.length c4) := by rw [hw5.cell]; rfl
        have hz45 : w4.heap.size < w5.heap.size := hw5.lt
        have HM5 := Lib.hid ((HM4.out.grow hb5).grow n5)
        have HB5 := Lib.hid ((HB4.out.grow hb5).grow n5)
        have HA5 := Lib.hid ((HA4.out.grow hb5).grow n5)
        have HN5 := Lib.hid ((made_lt hl5).grow n5)
        have hw6 := Whole.new w5 26 #[.string y.atom, .slice A5 y.list.length c5]
        have hw45 := hw5.below n5 hz45
        clear hl5
        go_wp2_with fail
        refine (implEqual x y A4 A5 c4 c5 _ hmx HM5.out HN5.out).mono ?_
        rintro e w6 ⟨rfl, hb6⟩
        have b6 := b5.trans (hb6.mono b5.size)
        clear c0 c1 d0 d1 u0 u1
        obtain ⟨c0, c1, d0, d1⟩ := HBX.out _ b6
        have hw66 := hw6.below hb6 hw6.lt
        have hw46 := hw45.below hb6 hw45.lt
        have u0 : w6.cell? ⟨w4.heap.size, 0, none⟩ = some (.string x.atom) := by rw [hw46.cell]; rfl
        have u1 : w6.cell? ⟨w4.heap.size, 1, none⟩ = some (.slice A4 x.list.length c4) := by rw [hw46.cell]; rfl
        have HM6 := Lib.hid (HM5.out.grow hb6)
        have HN6 := Lib.hid (HN5.out.grow hb6)
        have HA6 := Lib.hid (HA5.out.grow hb6)
        have HB6 := Lib.hid (HB5.out.grow hb6)
        go_upto_region 14 with (fail)
        go_cut [39] from 35 to 38 (fun v wc => v = .bool false ∧ Below w6.heap.size w6 wc)
        case first =>
          go_region_with (first
            | (go_at_call 38
               refine (toX x A c _ hwx HA6.out.drew_).mono ?_
               rintro e w7 ⟨A7, c7, rfl, hl7, hb7⟩
               have hb7 : Below w6.heap.size w6 w7 := (Below.refl _ w6).drew.trans hb7
               have HM7 := Lib.hid (HM6.out.grow hb7)
               have HA7 := Lib.hid (made_lt hl7)
               have hw47 := hw46.below hb7 hw46.lt
               have t0 : w7.cell? ⟨w4.heap.size, 0, none⟩ = some (.string x.atom) := by rw [hw47.cell]; rfl
               have t1 : w7.cell? ⟨w4.heap.size, 1, none⟩ = some (.slice A4 x.list.length c4) := by rw [hw47.cell]; rfl
               clear hl7)
            | (go_at_call 39
               refine (eqX x A4 A7 c4 c7 _ hwx HM7.out HA7.out).mono ?_
               rintro e w8 ⟨rfl, hb8⟩
               have h8 : Below w6.heap.size w6 w8 := hb7.trans (hb8.mono hb7.size)))
          all_goals go_wp2
          all_goals (
            go_meet
            case rel => exact ⟨rfl, h8⟩)
        case rest =>
          obtain ⟨rfl, hb7⟩ := hcut
          obtain ⟨w7, rfl⟩ : ∃ w7 : World, w7 = wc := ⟨_, rfl⟩
          have b7 := b6.trans (hb7.mono b6.size)
          clear c0 c1 d0 d1 u0 u1
          obtain ⟨c0, c1, d0, d1⟩ := HBX.out _ b7
          have hw67 := hw66.below hb7 hw66.lt
          have u0 : w7.cell? ⟨w5.heap.size, 0, none⟩ = some (.string y.atom) := by rw [hw67.cell]; rfl
          have u1 : w7.cell? ⟨w5.heap.size, 1, none⟩ = some (.slice A5 y.list.length c5) := by rw [hw67.cell]; rfl
          have HN7 := Lib.hid (HN6.out.grow hb7)
          have HB7 := Lib.hid (HB6.out.grow hb7)
          go_upto_region 16 with (fail)
          go_cut [44] from 40 to 43 (fun v wd => v = .bool false ∧ Below w7.heap.size w7 wd)
          case first =>
            go_region_with (first
              | (go_at_call 38
                 refine (toX y B d _ hwy1 HB7.out.drew_).mono ?_
                 rintro e w8 ⟨A8, c8, rfl, hl8, hb8⟩
                 have hb8 : Below w7.heap.size w7 w8 := (Below.refl _ w7).drew.trans hb8
                 have HN8 := Lib.hid (HN7.out.grow hb8)
                 have HB8 := Lib.hid (made_lt hl8)
                 have hw68 := hw67.below hb8 hw67.lt
                 have t0 : w8.cell? ⟨w5.heap.size, 0, none⟩ = some (.string y.atom) := by rw [hw68.cell]; rfl
                 have t1 : w8.cell? ⟨w5.heap.size, 1, none⟩ = some (.slice A5 y.list.length c5) := by rw [hw68.cell]; rfl
                 clear hl8)
              | (go_at_call 39
                 refine (eqX y A5 A8 c5 c8 _ hwy1 HN8.out HB8.out).mono ?_
                 rintro e w9 ⟨rfl, hb9⟩
                 have h9 : Below w7.heap.size w7 w9 := hb8.trans (hb9.mono hb8.size)))
            all_goals go_wp2
            all_goals (
              go_meet
              case rel => exact ⟨rfl, h9⟩)
          case rest =>
            obtain ⟨rfl, hb8⟩ := hcut
            have hfin := hb0.trans ((b7.trans (hb8.mono b7.size)).mono hb0.size)
            go_wp2
            go_ret
            exact ⟨rfl, hfin⟩
    · have hlf2 := leftOf_no (L := 1048576 - x.wt) (n := y.wt) (by omega)
      have HF2 := Lib.hid hlf2
      clear hlf2
      go_enter Try.func8, Try.ntmps8
      go_wp2_with fail
      rw [← HWD.out]
      refine (szX x A c 1048576 _ hox HA0.out (by decide)).mono ?_
      rintro e w1 ⟨rfl, hb1⟩
      rw [HF.out]
      obtain ⟨c0, c1, d0, d1⟩ := HBX.out _ hb1
      have HB1 := Lib.hid (HB0.out.grow hb1)
      go_wp2_with fail
      refine (szX y B d (1048576 - x.wt) _ hoy HB1.out (by omega)).mono ?_
      rintro e w2 ⟨rfl, hb2⟩
      rw [HF2.out]
      have hfin := hb0.trans ((hb1.trans (hb2.mono hb1.size)).mono hb0.size)
      go_wp2
      go_ret
      exact ⟨rfl, hfin⟩
  · have hlf := leftOf_no (L := 1048576) (n := x.wt) (by omega)
    have HF := Lib.hid hlf
    clear hlf
    go_enter Try.func8, Try.ntmps8
    go_wp2_with fail
    rw [← HWD.out]
    refine (szX x A c 1048576 _ hox HA0.out (by decide)).mono ?_
    rintro e w1 ⟨rfl, hb1⟩
    rw [HF.out]
    have h1 : Below w.heap.size w w1 := hb0.trans (hb1.mono hb0.size)
    go_wp2
    go_ret
    exact ⟨rfl, h1⟩
end Go.Proofs.Ytbcfeoobhemdcaa
