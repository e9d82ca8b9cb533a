/- The exact laws of AllDistinct and Union. -/
import Derived.Test.YtoncigfjgneecaaUnion
import Derived.Test.YtoncigfjgneecaaStrS
import Derived.Test.YtoncigfjgneecaaMarkS
namespace Go.Proofs.Ytoncigfjgneecaa
open Go.RowKit Go.Lib

set_option maxRecDepth 100000 in
set_option maxHeartbeats 1000000 in
theorem lawDistinct (A : Option Addr) (c : Nat) (ss : List ByteArray) (w : World) (hA : Strs w A ss) (hn : ss.length ≤ 9223372036854775807) (hz : ∀ x ∈ ss, x.size ≤ 9223372036854775807) :
    Calls Try.prog 6 #[.slice A ss.length c] w fun e w' => e = .returned (.bool true) ∧ Below w.heap.size w w' := by
  have HA := Lib.hid hA
  have HZ := Lib.hid hz
  clear hA hz
  by_cases hsum : ss.length + sizes ss ≤ 1048576
  · go_enter Try.func6, Try.ntmps6
    go_wp2_with fail
    refine (szYes A c ss 1048576 _ HA.out hsum (by omega)).mono ?_
    rintro e w1 ⟨rfl, rfl⟩
    have hnn : ¬ ((1048576 : Nat) : Int) - ss.length - (sizes ss : Nat) < 0 := by omega
    go_wp2_with fail
    refine (toStrings A c ss _ HA.out (by omega)).mono ?_
    rintro e w1 ⟨g1, rfl, hg1, hw1, hb1⟩
    go_wp2_with fail
    refine (specDistinct _ _ ss _ hw1.strs (by omega) (by omega)).mono ?_
    rintro e w2 ⟨rfl, hb2⟩
    have h2 : Below w.heap.size w w2 := hb1.trans (hb2.mono hb1.size)
    go_wp2_with fail
    refine (toStrings A c ss _ (HA.out.below h2) (by omega)).mono ?_
    rintro e w3 ⟨g3, rfl, hg3, hw3, hb3⟩
    have h3 : Below w.heap.size w w3 := h2.trans (hb3.mono h2.size)
    go_wp2_with fail
    refine (implDistinct _ _ ss _ hw3.strs (by omega) HZ.out).mono ?_
    rintro e w4 ⟨rfl, hb4⟩
    have h4 : Below w.heap.size w w4 := h3.trans (hb4.mono h3.size)
    have hw4 := hw3.below hb4 hw3.lt
    have he : (distinct ss == distinct ss) = true := by simp
    go_wp2_with fail
    refine (toStrings A c ss _ (HA.out.below h4) (by omega)).mono ?_
    rintro e w5 ⟨g5, rfl, hg5, hw5, hb5⟩
    have h5 : Below w.heap.size w w5 := h4.trans (hb5.mono h4.size)
    go_wp2_with fail
    refine (eqStrings _ _ _ _ ss _ (hw4.below hb5 hw4.lt).strs hw5.strs (by omega)).mono ?_
    rintro e w6 ⟨rfl, hb6⟩
    have h6 : Below w.heap.size w w6 := h5.trans (hb6.mono h5.size)
    go_wp2
    go_ret
    exact ⟨rfl, h6⟩
  · go_enter Try.func6, Try.ntmps6
    go_wp2_with fail
    refine (szNo A c ss 1048576 _ HA.out (by omega) (by omega) hn HZ.out).mono ?_
    rintro e w1 ⟨rfl, rfl⟩
    go_wp2
    go_ret
    exact ⟨rfl, Below.refl _ _⟩

set_option maxRecDepth 100000 in
set_option maxHeartbeats 4000000 in
theorem lawUnion (A B : Option Addr) (c c' : Nat) (a b : List ByteArray) (w : World) (hA : Strs w A a) (hB : Strs w B b) (hn : a.length ≤ 9223372036854775807) (hn' : b.length ≤ 9223372036854775807) (hz : ∀ x ∈ a, x.size ≤ 9223372036854775807) (hz' : ∀ x ∈ b, x.size ≤ 9223372036854775807) :
    Calls Try.prog 8 #[.slice A a.length c, .slice B b.length c'] w fun e w' => e = .returned (.bool true) ∧ Below w.heap.size w w' := by
  have HA := Lib.hid hA
  have HB := Lib.hid hB
  have HZ := Lib.hid hz
  have HZ' := Lib.hid hz'
  have hzz : ∀ x ∈ a ++ b, x.size ≤ 9223372036854775807 := fun x hx => by
    rcases List.mem_append.1 hx with h | h
    · exact hz x h
    · exact hz' x h
  have HZZ := Lib.hid hzz
  clear hA hB hz hz' hzz
  by_cases hsum : a.length + sizes a ≤ 1048576
  · obtain ⟨L2, hL2⟩ : ∃ L2 : Nat, ((1048576 : Nat) : Int) - a.length - (sizes a : Nat) = (L2 : Nat) := ⟨1048576 - a.length - sizes a, by omega⟩
    have hnn : ¬ (L2 : Int) < 0 := by omega
    by_cases hsum2 : b.length + sizes b ≤ L2
    · have hdl := uniF_len (a ++ b) []
      rw [List.length_append, List.length_nil] at hdl
      obtain ⟨d, hd⟩ : ∃ d, d = uniF [] (a ++ b) := ⟨_, rfl⟩
      rw [← hd] at hdl
      have HD := Lib.hid hd
      clear hd
      go_enter Try.func8, Try.ntmps8
      go_wp2_with fail
      refine (szYes A c a 1048576 _ HA.out hsum (by omega)).mono ?_
      rintro e w1 ⟨rfl, rfl⟩
      rw [hL2]
      go_wp2_with fail
      refine (szYes B c' b L2 _ HB.out hsum2 (by omega)).mono ?_
      rintro e w1 ⟨rfl, rfl⟩
      have hnn2 : ¬ (L2 : Int) - b.length - (sizes b : Nat) < 0 := by omega
      have hla : a.length ≤ 1048576 := by omega
      have hlb : b.length ≤ 1048576 := by omega
      clear hL2 hsum hsum2 hn hn'
      go_wp2_with fail
      refine (toStrings A c a _ HA.out (by omega)).mono ?_
      rintro e w1 ⟨g1, rfl, hg1, hw1, hb1⟩
      go_wp2_with fail
      refine (toStrings B c' b _ (HB.out.below hb1) (by omega)).mono ?_
      rintro e w2 ⟨g2, rfl, hg2, hw2, hb2⟩
      have h2 : Below w.heap.size w w2 := hb1.trans (hb2.mono hb1.size)
      go_wp2_with fail
      refine (specUnion _ _ _ _ a b _ (hw1.below hb2 hw1.lt).strs hw2.strs (by omega) (by omega)).mono ?_
      rw [← HD.out]
      rintro e w3 ⟨V0, rfl, hown0, hb3⟩
      have h3 : Below w.heap.size w w3 := h2.trans (hb3.mono h2.size)
      obtain ⟨A0, c0, q0, rfl, hS0, _, hq0, ha0⟩ := own_row hown0
      clear hw1 hw2 hown0
      go_wp2_with fail
      refine (toStrings A c a _ (HA.out.below h3) (by omega)).mono ?_
      rintro e w4 ⟨g4, rfl, hg4, hw4, hb4⟩
      have h4 : Below w.heap.size w w4 := h3.trans (hb4.mono h3.size)
      have hl44 := hw4.lt
      go_wp2_with fail
      refine (toStrings B c' b _ (HB.out.below h4) (by omega)).mono ?_
      rintro e w5 ⟨g5, rfl, hg5, hw5, hb5⟩
      have h5 : Below w.heap.size w w5 := h4.trans (hb5.mono h4.size)
      have hw4 := hw4.below hb5 hw4.lt
      have hl4 := hw4.lt
      have hl5 := hw5.lt
      have hsz4 := hb4.size
      go_wp2_with fail
      refine (implUnion _ _ _ _ a b _ hw4.strs hw5.strs (by omega) (by omega) HZZ.out).mono ?_
      rw [← HD.out]
      rintro e w6 ⟨V1, rfl, hown1, hb6⟩
      have h6 : Below w.heap.size w w6 := h5.trans (hb6.mono h5.size)
      obtain ⟨A1, c1, q1, rfl, hS1, hr1, hq1, ha1⟩ := own_row hown1
      clear hown1
      have hS0 := ((hS0.below hb4).below hb5).below hb6
      have hr4 := (hw4.below hb6 hl4).row
      have hr5 := (hw5.below hb6 hl5).row
      have hS4 := (hw4.below hb6 hl4).strs
      have hS5 := (hw5.below hb6 hl5).strs
      clear hw4 hw5
      go_wp2_with fail
      refine (eqStrings _ _ _ _ d _ hS1 hS0 (by omega)).mono ?_
      rintro e w7 ⟨rfl, hb7⟩
      have h7 : Below w.heap.size w w7 := h6.trans (hb7.mono h6.size)
      go_wp2_with fail
      refine (toStrings A c a _ (HA.out.below h7) (by omega)).mono ?_
      rintro e w8 ⟨g8, rfl, hg8, hw8, hb8⟩
      have h8 : Below w.heap.size w w8 := h7.trans (hb8.mono h7.size)
      go_wp2_with fail
      refine (eqStrings _ _ _ _ a _ ((hS4.below hb7).below hb8) hw8.strs (by omega)).mono ?_
      rintro e w9 ⟨rfl, hb9⟩
      have h9 : Below w.heap.size w w9 := h8.trans (hb9.mono h8.size)
      go_wp2_with fail
      refine (toStrings B c' b _ (HB.out.below h9) (by omega)).mono ?_
      rintro e w10 ⟨g10, rfl, hg10, hw10, hb10⟩
      have h10 : Below w.heap.size w w10 := h9.trans (hb10.mono h9.size)
      go_wp2_with fail
      refine (eqStrings _ _ _ _ b _ ((((hS5.below hb7).below hb8).below hb9).below hb10) hw10.strs (by omega)).mono ?_
      rintro e w11 ⟨rfl, hb11⟩
      have h11 : Below w.heap.size w w11 := h10.trans (hb11.mono h10.size)
      have hmid : Below w6.heap.size w6 w11 := hb7.trans ((hb8.mono hb7.size).trans ((hb9.mono (Nat.le_trans hb7.size hb8.size)).trans ((hb10.mono (Nat.le_trans hb7.size (Nat.le_trans hb8.size hb9.size))).trans (hb11.mono (Nat.le_trans hb7.size (Nat.le_trans hb8.size (Nat.le_trans hb9.size hb10.size)))))))
      clear hw8 hw10 hS4 hS5
      have hr4 := hr4.below hmid
      have hr5 := hr5.below hmid
      have hr1 := hr1.below hmid
      have hS0 := hS0.below hmid
      have hS1 := hS1.below hmid
      have hm6 := hmid.size
      clear hb7 hb8 hb9 hb10 hb11 hmid h7 h8 h9 h10
      have e4 : g4 < g5 := by omega
      go_wp2_with fail
      refine (markS _ g4 a.length 1 _ _ hr4 (by omega) (by omega) (by omega)).mono ?_
      rintro e w12 ⟨rfl, _, hb12⟩
      go_wp2_with fail
      refine (markS _ g5 b.length (1 + a.length) _ _ (hr5.but hb12 (by omega)) (by omega) (by omega) (by omega)).mono ?_
      rintro e w13 ⟨rfl, _, hb13⟩
      have hq51 : g5 < q1 := by omega
      have n40 : ∀ ad, A0 = some ad → ad.block ≠ g4 := fun ad e => by have := ha0 ad e; omega
      have n50 : ∀ ad, A0 = some ad → ad.block ≠ g5 := fun ad e => by have := ha0 ad e; omega
      have n41 : ∀ ad, A1 = some ad → ad.block ≠ g4 := fun ad e => by have := ha1 ad e; omega
      have n51 : ∀ ad, A1 = some ad → ad.block ≠ g5 := fun ad e => by have := ha1 ad e; omega
      have n01 : ∀ ad, A0 = some ad → ad.block ≠ q1 := fun ad e => by have := ha0 ad e; omega
      have hS0 := (hS0.but hb12 n40).but hb13 n50
      have hS1 := (hS1.but hb12 n41).but hb13 n51
      have hr1 := (hr1.but hb12 (by omega)).but hb13 (by omega)
      have hw8 := h11.size
      have h13 : Below w.heap.size w w13 := h11.trans ((hb12.to_below (by have := h3.size; omega) hw8).trans (hb13.to_below (by have := h3.size; omega) (Nat.le_trans hw8 hb12.size)))
      have hm12 := hb12.size
      have hm13 := hb13.size
      clear hb12 hb13 hr4 hr5 h11 n40 n50 n41 n51
      have hk0 : ¬ ((1 + a.length + b.length : Nat) : Int) < 0 := by omega
      go_wp2_with fail
      refine (eqStrings _ _ _ _ d _ hS1 hS0 (by omega)).mono ?_
      rintro e w14 ⟨rfl, hb14⟩
      have h14 : Below w.heap.size w w14 := h13.trans (hb14.mono h13.size)
      have hS0 := hS0.below hb14
      go_wp2_with fail
      refine (markS _ q1 d.length 1 _ _ (hr1.below hb14) (by omega) (by omega) (by omega)).mono ?_
      rintro e w15 ⟨rfl, hm15, hb15⟩
      have hS0 := hS0.but hb15 n01
      have h15 : Below w.heap.size w w15 := h14.trans (hb15.to_below (by have := h5.size; omega) h14.size)
      have hk1 : ¬ ((1 + d.length : Nat) : Int) < 0 := by omega
      have hk2 : (((1 + d.length : Nat) : Int) == ((1 + d.length : Nat) : Int)) = true := by simp
      go_wp2_with fail
      refine (heldS _ q1 d.length 1 _ _ hm15 (by omega) (by omega) (by omega)).mono ?_
      rintro e w16 ⟨rfl, hb16⟩
      have h16 : Below w.heap.size w w16 := h15.trans (hb16.mono h15.size)
      have hm16 := hm15.below hb16
      have hS0 := hS0.below hb16
      clear hm15 hS1 hr1 hb14 hb15 hb16 h13 h14 h15
      go_wp2_with fail
      refine (toStrings A c a _ (HA.out.below h16) (by omega)).mono ?_
      rintro e w17 ⟨g17, rfl, hg17, hw17, hb17⟩
      have h17 : Below w.heap.size w w17 := h16.trans (hb17.mono h16.size)
      go_wp2_with fail
      refine (toStrings B c' b _ (HB.out.below h17) (by omega)).mono ?_
      rintro e w18 ⟨g18, rfl, hg18, hw18, hb18⟩
      have h18 : Below w.heap.size w w18 := h17.trans (hb18.mono h17.size)
      go_wp2_with fail
      refine (implUnion _ _ _ _ a b _ (hw17.below hb18 hw17.lt).strs hw18.strs (by omega) (by omega) HZZ.out).mono ?_
      rw [← HD.out]
      rintro e w19 ⟨V2, rfl, hown2, hb19⟩
      have h19 : Below w.heap.size w w19 := h18.trans (hb19.mono h18.size)
      obtain ⟨A2, c2, q2, rfl, hS2, _, _, _⟩ := own_row hown2
      clear hown2 hw17 hw18
      have hS0 := ((hS0.below hb17).below hb18).below hb19
      have hm19 := ((hm16.below hb17).below hb18).below hb19
      clear hm16
      go_wp2_with fail
      refine (eqStrings _ _ _ _ d _ hS2 hS0 (by omega)).mono ?_
      rintro e w20 ⟨rfl, hb20⟩
      have h20 : Below w.heap.size w w20 := h19.trans (hb20.mono h19.size)
      go_wp2_with fail
      refine (heldS _ q1 d.length 1 _ _ (hm19.below hb20) (by omega) (by omega) (by omega)).mono ?_
      rintro e w21 ⟨rfl, hb21⟩
      have h21 : Below w.heap.size w w21 := h20.trans (hb21.mono h20.size)
      go_wp2
      go_ret
      exact ⟨rfl, h21⟩
    · go_enter Try.func8, Try.ntmps8
      go_wp2_with fail
      refine (szYes A c a 1048576 _ HA.out hsum (by omega)).mono ?_
      rintro e w1 ⟨rfl, rfl⟩
      rw [hL2]
      go_wp2_with fail
      refine (szNo B c' b L2 _ HB.out (by omega) (by omega) hn' HZ'.out).mono ?_
      rintro e w1 ⟨rfl, rfl⟩
      go_wp2
      go_ret
      exact ⟨rfl, Below.refl _ _⟩
  · go_enter Try.func8, Try.ntmps8
    go_wp2_with fail
    refine (szNo A c a 1048576 _ HA.out (by omega) (by omega) hn HZ.out).mono ?_
    rintro e w1 ⟨rfl, rfl⟩
    go_wp2
    go_ret
    exact ⟨rfl, Below.refl _ _⟩
end Go.Proofs.Ytoncigfjgneecaa
