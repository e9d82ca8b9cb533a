/- The place of a string in a list: the reference model's search and the program's (the library's), and the law that says they agree. -/
import Derived.Test.YtoncigfjgneecaaHas
import Derived.Test.YtoncigfjgneecaaStrS
namespace Go.Proofs.Ytoncigfjgneecaa
open Go.RowKit

/-- The index of the first element that is the string; -1 where there is none. -/
def indexOf (ss : List ByteArray) (s : ByteArray) : Int := if has ss s then ((ss.takeWhile fun x => !(x.data.toList == s.data.toList)).length : Int) else -1
theorem indexOf_miss {ss : List ByteArray} {s : ByteArray} (h : has ss s = false) : indexOf ss s = -1 := by rw [indexOf, h]; rfl
theorem indexOf_hit {ss : List ByteArray} {s : ByteArray} {k : Nat} (hk : k < ss.length) (hno : has (ss.take k) s = false) (he : (ss[k].data.toList == s.data.toList) = true) : indexOf ss s = k := by
  have hy : has ss s = true := has_of_take (k := k + 1) (by rw [has_take hk, he, Bool.or_true])
  have e : ss = ss.take k ++ ss[k] :: ss.drop (k + 1) := by rw [← List.drop_eq_getElem_cons hk, List.take_append_drop]
  have hl : (ss.takeWhile fun x => !(x.data.toList == s.data.toList)) = ss.take k := by
    conv => lhs; rw [e]
    rw [List.takeWhile_append_of_pos, List.takeWhile_cons_of_neg, List.append_nil]
    · rw [he]; decide
    · intro x hx
      rw [has, List.any_eq_false] at hno
      simpa using hno x hx
  rw [indexOf, hy, hl, List.length_take]
  simp
  omega
theorem indexOf_has (ss : List ByteArray) (s : ByteArray) : decide (0 ≤ indexOf ss s) = has ss s := by
  cases h : has ss s with
  | true => rw [indexOf, h]; simp
  | false => rw [indexOf_miss h]; decide
theorem indexOf_lt (ss : List ByteArray) (s : ByteArray) : -1 ≤ indexOf ss s ∧ indexOf ss s < ss.length + 1 := by
  unfold indexOf
  have := (List.takeWhile_sublist (fun x : ByteArray => !(x.data.toList == s.data.toList)) (l := ss)).length_le
  split <;> omega

set_option maxRecDepth 100000 in
set_option maxHeartbeats 400000 in
theorem specIndex (A : Option Addr) (c : Nat) (ss : List ByteArray) (s : ByteArray) (w : World) (hA : Strs w A ss) (hn : ss.length ≤ 9223372036854775807) :
    Calls Try.prog 25 #[.slice A ss.length c, .string s] w fun e w' => e = .returned (.int .i64 (indexOf ss s)) ∧ w = w' := by
  have HA := Lib.hid hA
  clear hA
  go_enter Try.func25, Try.ntmps25
  go_wp2
  go_loop [5] (fun i => ∃ k : Nat, k ≤ ss.length ∧ i = .int .i64 k ∧ has (ss.take k) s = false) (fun i => ss.length - (intOf i).toNat)
  case atStart => exact ⟨0, Nat.zero_le _, rfl, rfl⟩
  case round =>
    obtain ⟨k, hk, rfl, hno⟩ := hrel
    by_cases hlt : k < ss.length
    · obtain ⟨g, o, rfl, hc⟩ := HA.out.at_ hlt
      have hst := has_take hlt s
      rw [hno, Bool.false_or] at hst
      have hup := @indexOf_hit ss s k hlt hno
      have HS := Lib.hid hst
      have HU := Lib.hid hup
      clear hst hup hno
      cases he : ss[k].data.toList == s.data.toList with
      | true =>
        have hy := HU.out he
        have HY := Lib.hid hy
        have he1 : ss[k] = s := data_inj (by simpa using he)
        clear hy
        go_wp2
        go_ret
        exact ⟨congrArg (fun b => Ending.returned (.int .i64 b)) HY.out.symm, rfl⟩
      | false =>
        have hf := HS.out.trans he
        have HF := Lib.hid hf
        have he1 : (ss[k].toList == s.toList) = false := text_ne (by intro e; rw [e] at he; simp at he)
        clear hf
        go_wp2
        go_round
        case rel => exact ⟨k + 1, by omega, by go_num, HF.out⟩
        case measure => simp [intOf]; omega
    · have hkl : k = ss.length := by omega
      subst hkl
      rw [List.take_length] at hno
      have hm := indexOf_miss hno
      have HN := Lib.hid hm
      clear hno hm
      go_wp2
      go_ret
      exact ⟨congrArg (fun b => Ending.returned (.int .i64 b)) HN.out.symm, rfl⟩

set_option maxRecDepth 100000 in
set_option maxHeartbeats 400000 in
theorem slicesIndex (A : Option Addr) (c : Nat) (ss : List ByteArray) (s : ByteArray) (w : World) (hA : Strs w A ss) (hn : ss.length ≤ 9223372036854775807) :
    Calls Try.prog 32 #[.slice A ss.length c, .string s] w fun e w' => e = .returned (.int .i64 (indexOf ss s)) ∧ w = w' := by
  have HA := Lib.hid hA
  clear hA
  go_enter Try.func32, Try.ntmps32
  go_wp2
  go_loop [8] (fun i => ∃ k : Nat, k ≤ ss.length ∧ i = .int .i64 k ∧ has (ss.take k) s = false) (fun i => ss.length - (intOf i).toNat)
  case atStart => exact ⟨0, Nat.zero_le _, rfl, rfl⟩
  case round =>
    obtain ⟨k, hk, rfl, hno⟩ := hrel
    by_cases hlt : k < ss.length
    · obtain ⟨g, o, rfl, hc⟩ := HA.out.at_ hlt
      have hst := has_take hlt s
      rw [hno, Bool.false_or] at hst
      have hup := @indexOf_hit ss s k hlt hno
      have HS := Lib.hid hst
      have HU := Lib.hid hup
      clear hst hup hno
      cases he : ss[k].data.toList == s.data.toList with
      | true =>
        have hy := HU.out he
        have HY := Lib.hid hy
        have he1 : ss[k] = s := data_inj (by simpa using he)
        clear hy
        go_wp2
        go_ret
        exact ⟨congrArg (fun b => Ending.returned (.int .i64 b)) HY.out.symm, rfl⟩
      | false =>
        have hf := HS.out.trans he
        have HF := Lib.hid hf
        have he1 : (s.toList == ss[k].toList) = false := text_ne (by intro e; rw [e] at he; simp at he)
        clear hf
        go_wp2
        go_round
        case rel => exact ⟨k + 1, by omega, by go_num, HF.out⟩
        case measure => simp [intOf]; omega
    · have hkl : k = ss.length := by omega
      subst hkl
      rw [List.take_length] at hno
      have hm := indexOf_miss hno
      have HN := Lib.hid hm
      clear hno hm
      go_wp2
      go_ret
      exact ⟨congrArg (fun b => Ending.returned (.int .i64 b)) HN.out.symm, rfl⟩

theorem implIndex (A : Option Addr) (c : Nat) (ss : List ByteArray) (s : ByteArray) (w : World) (hA : Strs w A ss) (hn : ss.length ≤ 9223372036854775807) :
    Calls Try.prog 16 #[.slice A ss.length c, .string s] w fun e w' => e = .returned (.int .i64 (indexOf ss s)) ∧ w = w' := by
  have HA := Lib.hid hA
  clear hA
  go_enter Try.func16, Try.ntmps16
  go_wp2_with fail
  refine (slicesIndex A c ss s _ HA.out hn).mono ?_
  rintro e w1 ⟨rfl, rfl⟩
  go_wp2
  go_ret
  exact ⟨rfl, rfl⟩

set_option maxRecDepth 100000 in
set_option maxHeartbeats 1000000 in
theorem lawIndex (A : Option Addr) (c : Nat) (ss : List ByteArray) (s : ByteArray) (w : World) (hA : Strs w A ss) (hn : ss.length ≤ 9223372036854775807) (hz : ∀ x ∈ ss, x.size ≤ 9223372036854775807) (hs : s.size ≤ 9223372036854775807) :
    Calls Try.prog 7 #[.slice A ss.length c, .string s] w fun e w' => e = .returned (.bool true) ∧ Below w.heap.size w w' := by
  have HA := Lib.hid hA
  have HZ := Lib.hid hz
  clear hA hz
  by_cases hlong : 1048576 < s.size
  · have g : decide ((1048576 : Int) < s.size) = true := by simp; omega
    go_enter Try.func7, Try.ntmps7
    go_wp2
    go_ret
    exact ⟨rfl, Below.refl _ _⟩
  · have g : decide ((1048576 : Int) < s.size) = false := by simp; omega
    by_cases hsum : ss.length + sizes ss ≤ 1048576
    · go_enter Try.func7, Try.ntmps7
      go_wp2_with fail
      refine (szYes A c ss 1048576 _ HA.out hsum (by omega)).mono ?_
      rintro e w1 ⟨rfl, rfl⟩
      have hnn : ¬ ((1048576 : Nat) : Int) - ss.length - (sizes ss : Nat) < 0 := by omega
      go_wp2_with fail
      refine (toStrings A c ss _ HA.out (by omega)).mono ?_
      rintro e w1 ⟨g1, rfl, hg1, hw1, hb1⟩
      go_wp2_with fail
      refine (specIndex _ _ ss s _ hw1.strs (by omega)).mono ?_
      rintro e w2 ⟨rfl, rfl⟩
      go_wp2_with fail
      refine (toStrings A c ss _ (HA.out.below hb1) (by omega)).mono ?_
      rintro e w3 ⟨g3, rfl, hg3, hw3, hb3⟩
      have h3 : Below w.heap.size w w3 := hb1.trans (hb3.mono hb1.size)
      go_wp2_with fail
      refine (implIndex _ _ ss s _ hw3.strs (by omega)).mono ?_
      rintro e w4 ⟨rfl, rfl⟩
      have he : (indexOf ss s == indexOf ss s) = true := by simp
      go_wp2_with fail
      refine (toStrings A c ss _ (HA.out.below h3) (by omega)).mono ?_
      rintro e w5 ⟨g5, rfl, hg5, hw5, hb5⟩
      have h5 : Below w.heap.size w w5 := h3.trans (hb5.mono h3.size)
      go_wp2_with fail
      refine (eqStrings _ _ _ _ ss _ (hw3.below hb5 hw3.lt).strs hw5.strs (by omega)).mono ?_
      rintro e w6 ⟨rfl, hb6⟩
      have h6 : Below w.heap.size w w6 := h5.trans (hb6.mono h5.size)
      go_wp2
      go_ret
      exact ⟨rfl, h6⟩
    · go_enter Try.func7, Try.ntmps7
      go_wp2_with fail
      refine (szNo A c ss 1048576 _ HA.out (by omega) (by omega) hn HZ.out).mono ?_
      rintro e w1 ⟨rfl, rfl⟩
      go_wp2
      go_ret
      exact ⟨rfl, Below.refl _ _⟩
end Go.Proofs.Ytoncigfjgneecaa
