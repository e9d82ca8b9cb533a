/- The program's IsValidAtom: just the atoms; and the law that says so. -/
import Derived.Test.YtfcedkcfnifdfaaRune
namespace Go.Proofs.Ytfcedkcfnifdfaa
open Go.RowKit

theorem okAtom_short {s : ByteArray} (h : ¬ (1 ≤ s.size ∧ s.size ≤ 12)) : okAtom s = false := by rw [okAtom, decide_eq_false h, Bool.and_false]
theorem okAtom_all {s : ByteArray} (h : 1 ≤ s.size ∧ s.size ≤ 12) (ha : s.data.toList.all okByte = true) : okAtom s = true := by rw [okAtom, decide_eq_true h, ha]; rfl

set_option maxRecDepth 100000 in
set_option maxHeartbeats 1000000 in
theorem implAtom (s : ByteArray) (w : World) (hs : s.size ≤ 9223372036854775807) : Calls Try.prog 29 #[.string s] w fun e w' => e = .returned (.bool (okAtom s)) ∧ Below w.heap.size w w' := by
  by_cases h1 : 1 ≤ s.size ∧ s.size ≤ 12
  · have hall := @okAtom_all s h1
    have HA := Lib.hid hall
    clear hall
    obtain ⟨h2, h3⟩ := h1
    go_enter Try.func29, Try.ntmps29
    go_wp2
    go_loopw [] (fun wr => ∃ k : Nat, k ≤ s.size ∧ (s.data.toList.take k).all okByte = true ∧ wr = w.iter s k) (fun wr => s.size - wr.iterPos w.heap.size)
    case atStart => exact ⟨0, Nat.zero_le _, rfl, rfl⟩
    case round =>
      obtain ⟨k, hk, ha, rfl⟩ := hrel
      have HT := Lib.hid ha
      clear ha
      have hb : Below w.heap.size w (w.iter s k) := (Below.refl _ _).alloc (Nat.le_refl _) _
      by_cases hlt : k < s.size
      · cases hc : okByte s[k] with
        | true =>
          have hst := all_take_snoc s k hlt
          rw [HT.out, hc] at hst
          have hd := decode_ok hlt hc
          have hnx := fun ty => run_next_any (P := Try.prog) w s k ty hlt
          rw [hd] at hnx
          have ho : okRune (s[k].toNat : Int) = true := by rw [okRune_byte, hc]
          have HS := Lib.hid hst
          have HO := Lib.hid ho
          clear hst hd hc ho
          go_wp2_with fail
          refine (runeIs _ _).mono ?_
          rintro e w1 ⟨rfl, rfl⟩
          rw [HO.out]
          go_wp2
          go_roundw
          case rel => exact ⟨k + 1, by omega, HS.out, rfl⟩
          case measure => simp; omega
        | false =>
          have hno := all_not hlt hc
          have hd := decode_bad hlt hc
          have hnx := fun ty => run_next_any (P := Try.prog) w s k ty hlt
          have hw1 : ∀ j, Below w.heap.size w (w.iter s j) := fun j => (Below.refl _ _).alloc (Nat.le_refl _) _
          have HN := Lib.hid hno
          have HD := Lib.hid hd
          clear hno hd hc
          go_wp2_with fail
          refine (runeIs _ _).mono ?_
          rintro e w1 ⟨rfl, rfl⟩
          rw [HD.out]
          go_wp2
          go_ret
          exact ⟨congrArg (fun b => Ending.returned (.bool b)) HN.out.symm, hw1 _⟩
      · have hkl : k = s.size := by omega
        subst hkl
        have hall : s.data.toList.all okByte = true := by have := HT.out; rw [List.take_of_length_le (by simp)] at this; exact this
        have hok := HA.out hall
        have HK := Lib.hid hok
        clear hok hall
        have hnx := fun ty => run_next_end (P := Try.prog) w s s.size ty (Nat.lt_irrefl _)
        go_wp2
        go_ret
        exact ⟨congrArg (fun b => Ending.returned (.bool b)) HK.out.symm, hb⟩
  · have hno := okAtom_short h1
    have HN := Lib.hid hno
    clear hno
    by_cases h2 : s.size < 1
    · go_enter Try.func29, Try.ntmps29
      go_wp2
      go_ret
      exact ⟨congrArg (fun b => Ending.returned (.bool b)) HN.out.symm, Below.refl _ _⟩
    · have h3 : 12 < s.size := by omega
      clear h1
      go_enter Try.func29, Try.ntmps29
      go_wp2
      go_ret
      exact ⟨congrArg (fun b => Ending.returned (.bool b)) HN.out.symm, Below.refl _ _⟩

set_option maxRecDepth 100000 in
set_option maxHeartbeats 1000000 in
theorem lawAtom (s : ByteArray) (w : World) (hs : s.size ≤ 9223372036854775807) : Calls Try.prog 6 #[.string s] w fun e w' => e = .returned (.bool true) ∧ Below w.heap.size w w' := by
  by_cases h1 : s.size ≤ 1048576
  · go_enter Try.func6, Try.ntmps6
    go_wp2_with fail
    refine (validAtom s _ hs).mono ?_
    rintro e w1 ⟨rfl, rfl⟩
    go_wp2_with fail
    refine (implAtom s _ hs).mono ?_
    rintro e w1 ⟨rfl, hb1⟩
    go_wp2
    go_ret
    exact ⟨rfl, hb1⟩
  · go_enter Try.func6, Try.ntmps6
    go_wp2
    go_ret
    exact ⟨rfl, Below.refl _ _⟩
end Go.Proofs.Ytfcedkcfnifdfaa
