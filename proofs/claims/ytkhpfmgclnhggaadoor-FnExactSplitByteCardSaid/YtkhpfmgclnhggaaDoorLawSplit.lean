/- The law that holds the program's SplitByte against the reference model's: the same pieces, in memory of its own. -/
import Derived.Test.YtkhpfmgclnhggaaDoorSplit
import Derived.Test.YtkhpfmgclnhggaaDoorHelp
namespace Go.Proofs.YtkhpfmgclnhggaaDoor
open Go.RowKit Go.Lib

theorem parts_count (b : UInt8) (l : List UInt8) (ss : List ByteArray) (h : ss.map (·.data.toList) = parts b l) : ss.length ≤ l.length + 1 := by
  have := parts_length_le b l
  rw [← h] at this
  simpa using this

set_option maxRecDepth 100000 in
set_option maxHeartbeats 1000000 in
theorem lawSplit (s : ByteArray) (b : UInt8) (w : World) (hmax : s.size ≤ 9223372036854775807) (hm : MaxL w) :
    Calls Tryd.prog 8 #[.string s, .int .u8 b.toNat] w fun e w' => e = .returned (.bool true) ∧ Below w.heap.size w w' := by
  by_cases hlong : 1048576 < s.size
  · have g : decide ((1048576 : Int) < s.size) = true := by simp; omega
    go_enter Tryd.func8, Tryd.ntmps8
    go_wp2
    go_ret
    exact ⟨rfl, Below.refl _ _⟩
  · have g : decide ((1048576 : Int) < s.size) = false := by simp; omega
    go_enter Tryd.func8, Tryd.ntmps8
    go_wp2_with fail
    refine (specSplit s b _ (by omega)).mono ?_
    rintro e w1 ⟨g1, c1, ss, rfl, hp1, hg1, hl1, hc1, hb1⟩
    have hm1 := hm.below hb1
    have hn : ss.length ≤ 1048577 := by
      have h := parts_count b _ ss hp1
      have h2 : s.data.toList.length = s.size := by simp
      omega
    have HP := Lib.hid hp1
    have HC := Lib.hid hc1
    clear hp1 hc1
    go_wp2_with fail
    refine (implSplit s b _ (by omega) hm1).mono ?_
    rintro e w2 ⟨g2, s2, rfl, hp2, hg2, hl2, hw2, hb2⟩
    obtain rfl : s2 = ss := same_strings (hp2.trans HP.out.symm)
    clear hp2
    have h2 : Below w.heap.size w w2 := hb1.trans (hb2.mono hb1.size)
    have a1 : Strs w1 (some ⟨g1, 0, none⟩) s2 := .inr ⟨g1, 0, rfl, hl1, fun j x hj => by rw [Nat.zero_add]; exact HC.out j x hj⟩
    go_wp2_with fail
    refine (eqStrings _ _ _ _ s2 _ hw2.strs (a1.below hb2) (by omega)).mono ?_
    rintro e w3 ⟨rfl, hb3⟩
    have h3 : Below w.heap.size w w3 := h2.trans (hb3.mono h2.size)
    have hw3 := hw2.below hb3 hl2
    go_wp2_with fail
    refine (markRow g2 1 _ _ (s2.map Value.string) _ (by simp) hw3 (by omega) (by omega) (by omega)).mono ?_
    rintro e w4 ⟨rfl, hw4, hb4⟩
    have h34 : Below w.heap.size w3 w4 := hb4.to_below (by have := hb1.size; omega) h3.size
    have h4 : Below w.heap.size w w4 := h3.trans h34
    have hc4 : ∀ j, j < s2.length → w4.cell? ⟨g2, j, none⟩ = some (.string (mark (1 + j))) := fun j hj => by rw [hw4.cell]; exact marked_full_at 1 j s2.length _ (by simp) hj
    have HC4 := Lib.hid hc4
    clear hc4
    have hl4 := hw4.lt
    go_wp2_with fail
    refine (heldStrings g2 1 _ s2.length _ HC4.out (fun _ => hl4) (by omega) (by omega) (by omega)).mono ?_
    rintro e w5 ⟨rfl, hb5⟩
    have h5 : Below w.heap.size w w5 := h4.trans (hb5.mono h4.size)
    have hm5 := hm.below h5
    have q1 : decide (((1 + s2.length : Nat) : Int) < 0) = false := by simp; omega
    go_wp2_with fail
    refine (implSplit s b _ (by omega) hm5).mono ?_
    rintro e w6 ⟨g3, s3, rfl, hp3, hg3, hl3, hw6, hb6⟩
    obtain rfl : s3 = s2 := same_strings (hp3.trans HP.out.symm)
    clear hp3
    have h6 : Below w.heap.size w w6 := h5.trans (hb6.mono h5.size)
    have a3 : Strs w3 (some ⟨g1, 0, none⟩) s3 := (a1.below hb2).below hb3
    have a6 : Strs w6 (some ⟨g1, 0, none⟩) s3 := by
      have a4 : Strs w4 (some ⟨g1, 0, none⟩) s3 := by
        rcases a3 with e | ⟨g, o, e, hgl, hcc⟩
        · exact .inl e
        · have e1 : g1 = g ∧ 0 = o := by injection e with e; injection e with e e'; exact ⟨e, e'⟩
          obtain ⟨rfl, rfl⟩ := e1
          exact hb4.strs hcc hgl (by omega)
      exact (a4.below hb5).below hb6
    go_wp2_with fail
    refine (eqStrings _ _ _ _ s3 _ hw6.strs a6 (by omega)).mono ?_
    rintro e w7 ⟨rfl, hb7⟩
    have h7 : Below w.heap.size w w7 := h6.trans (hb7.mono h6.size)
    have hl5 : g2 < w5.heap.size := Nat.lt_of_lt_of_le hl4 hb5.size
    have hl6 : g2 < w6.heap.size := Nat.lt_of_lt_of_le hl5 hb6.size
    have hc7 : ∀ j, j < s3.length → w7.cell? ⟨g2, j, none⟩ = some (.string (mark (1 + j))) := fun j hj =>
      ((hb7.cell (p := ⟨g2, j, none⟩) hl6).trans ((hb6.cell (p := ⟨g2, j, none⟩) hl5).trans ((hb5.cell (p := ⟨g2, j, none⟩) hl4).trans (HC4.out j hj))))
    have HC7 := Lib.hid hc7
    clear hc7
    have hl7 : g2 < w7.heap.size := Nat.lt_of_lt_of_le hl6 hb7.size
    go_wp2_with fail
    refine (heldStrings g2 1 _ s3.length _ HC7.out (fun _ => hl7) (by omega) (by omega) (by omega)).mono ?_
    rintro e w8 ⟨rfl, hb8⟩
    have h8 : Below w.heap.size w w8 := h7.trans (hb8.mono h7.size)
    go_wp2
    go_ret
    exact ⟨rfl, h8⟩
end Go.Proofs.YtkhpfmgclnhggaaDoor
