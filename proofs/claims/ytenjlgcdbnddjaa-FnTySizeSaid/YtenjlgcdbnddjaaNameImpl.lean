/- Names: the program's test, and the law that says the two agree. -/
import Derived.Test.YtenjlgcdbnddjaaName
namespace Go.Proofs.Ytenjlgcdbnddjaa
open Go.RowKit

theorem name_low {s : ByteArray} {k : Nat} (h : k < s.size) (hc : goodAt k s[k] = true) : Utf8.decode s k = (s[k].toNat, 1) :=
  decode_ascii s k h (by unfold goodAt letterR digitR at hc; simp at hc; omega)
theorem name_bad {s : ByteArray} {k : Nat} (h : k < s.size) (hc : goodAt k s[k] = false) : letterR ((Utf8.decode s k).1 : Int) = false ∧ (k = 0 ∨ digitR ((Utf8.decode s k).1 : Int) = false) := by
  by_cases ha : s[k].toNat < 128
  · rw [decode_ascii s k h ha]
    simp only [goodAt, Bool.or_eq_false_iff, Bool.and_eq_false_iff] at hc
    refine ⟨hc.1, ?_⟩
    rcases hc.2 with h0 | h0
    · left; simpa using h0
    · right; exact h0
  · have := (decode_high s k h (by omega)).1
    unfold letterR digitR
    simp
    omega

set_option maxRecDepth 100000 in
set_option maxHeartbeats 2000000 in
theorem implName (s : ByteArray) (w : World) (hs : s.size ≤ 9223372036854775807) : Calls Try.prog 63 #[.string s] w fun e w' => e = .returned (.bool (okName s)) ∧ Below w.heap.size w w' := by
  by_cases h1 : 1 ≤ s.size ∧ s.size ≤ 8
  · have hall := @name_ok s h1
    have HA := Lib.hid hall
    clear hall
    obtain ⟨h2, h3⟩ := h1
    go_enter Try.func63, Try.ntmps63
    go_wp2
    go_loopw [] (fun wr => ∃ k : Nat, k ≤ s.size ∧ goods s k = true ∧ wr = w.iter s k) (fun wr => s.size - wr.iterPos w.heap.size)
    case atStart => exact ⟨0, Nat.zero_le _, rfl, rfl⟩
    case round =>
      obtain ⟨k, hk, ha, rfl⟩ := hrel
      have HT := Lib.hid ha
      clear ha
      have hb : ∀ j, Below w.heap.size w (w.iter s j) := fun j => (Below.refl _ _).alloc (Nat.le_refl _) _
      by_cases hlt : k < s.size
      · cases hc : goodAt k s[k] with
        | true =>
          have hst := goods_succ hlt
          rw [HT.out, hc] at hst
          have hd := name_low hlt hc
          have hnx := fun ty => run_next_any (P := Try.prog) w s k ty hlt
          rw [hd] at hnx
          have HS := Lib.hid hst
          clear hst hd
          cases hl : letterR (s[k].toNat : Int) with
          | true =>
            have HL := Lib.hid hl
            clear hc hl
            go_wp2_with fail
            refine (letterIs _ _).mono ?_
            rintro e w1 ⟨rfl, rfl⟩
            rw [HL.out]
            go_wp2
            go_roundw
            case rel => exact ⟨k + 1, by omega, HS.out, rfl⟩
            case measure => simp; omega
          | false =>
            rw [goodAt, hl, Bool.false_or, Bool.and_eq_true] at hc
            have q0 : ((k : Int) == 0) = false := by have := hc.1; simp at this ⊢; omega
            have HL := Lib.hid hl
            have HC := Lib.hid hc.2
            clear hc hl
            go_wp2_with fail
            refine (letterIs _ _).mono ?_
            rintro e w1 ⟨rfl, rfl⟩
            rw [HL.out]
            go_wp2_with fail
            refine (digitIs _ _).mono ?_
            rintro e w1 ⟨rfl, rfl⟩
            rw [HC.out]
            go_wp2
            go_roundw
            case rel => exact ⟨k + 1, by omega, HS.out, rfl⟩
            case measure => simp; omega
        | false =>
          have hno := goods_bad hlt hc
          have hd := name_bad hlt hc
          have hnx := fun ty => run_next_any (P := Try.prog) w s k ty hlt
          obtain ⟨hd1, hd2⟩ := hd
          have HN := Lib.hid hno
          have HD := Lib.hid hd1
          clear hno hd1 hc
          by_cases h0 : k = 0
          · clear hd2
            subst h0
            go_wp2_with fail
            refine (letterIs _ _).mono ?_
            rintro e w1 ⟨rfl, rfl⟩
            rw [HD.out]
            go_wp2
            go_ret
            exact ⟨congrArg (fun b => Ending.returned (.bool b)) HN.out.symm, hb _⟩
          · have hd3 := hd2.resolve_left h0
            have q0 : ((k : Int) == 0) = false := by simp; omega
            have HE := Lib.hid hd3
            clear hd2 hd3
            go_wp2_with fail
            refine (letterIs _ _).mono ?_
            rintro e w1 ⟨rfl, rfl⟩
            rw [HD.out]
            go_wp2_with fail
            refine (digitIs _ _).mono ?_
            rintro e w1 ⟨rfl, rfl⟩
            rw [HE.out]
            go_wp2
            go_ret
            exact ⟨congrArg (fun b => Ending.returned (.bool b)) HN.out.symm, hb _⟩
      · have hkl : k = s.size := by omega
        subst hkl
        have hok := HA.out HT.out
        have HK := Lib.hid hok
        clear hok
        have hnx := fun ty => run_next_end (P := Try.prog) w s s.size ty (Nat.lt_irrefl _)
        go_wp2_with fail
        refine (implReserved s _ hs).mono ?_
        rintro e w1 ⟨rfl, hb1⟩
        have hb2 := (hb s.size).trans (hb1.mono (hb s.size).size)
        go_wp2
        go_ret
        exact ⟨congrArg (fun b => Ending.returned (.bool b)) HK.out.symm, hb2⟩
  · have hno := name_size h1
    have HN := Lib.hid hno
    clear hno
    by_cases h2 : s.size < 1
    · go_enter Try.func63, Try.ntmps63
      go_wp2
      go_ret
      exact ⟨congrArg (fun b => Ending.returned (.bool b)) HN.out.symm, Below.refl _ _⟩
    · have h3 : 8 < s.size := by omega
      clear h1
      go_enter Try.func63, Try.ntmps63
      go_wp2
      go_ret
      exact ⟨congrArg (fun b => Ending.returned (.bool b)) HN.out.symm, Below.refl _ _⟩
end Go.Proofs.Ytenjlgcdbnddjaa
