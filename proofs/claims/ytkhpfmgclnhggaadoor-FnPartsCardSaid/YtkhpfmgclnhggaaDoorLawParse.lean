/- The reference model's ParseNumber and ParseInt; and the two laws that hold the program's against them. -/
import Derived.Test.YtkhpfmgclnhggaaDoorReadWalk
import Derived.Test.YtkhpfmgclnhggaaDoorParse
namespace Go.Proofs.YtkhpfmgclnhggaaDoor
open Go.RowKit Go.Lib

set_option maxRecDepth 100000 in
theorem specNumYes (s : ByteArray) (n : Int) (w : World) (hs : itoa n = s.data.toList) (h0 : 0 ≤ n) (h1 : n ≤ 999999) (hmax : s.size ≤ 2097152) :
    Calls Tryd.prog 15 #[.string s] w fun e w' => e = .returned (.tuple #[.int .i64 n, .bool true]) ∧ Below w.heap.size w w' := by
  have hr : readAs 6 s.data.toList = some n := by rw [← hs]; exact readAs_yes (by omega) (by omega)
  have HR := Lib.hid hr
  clear hs hr
  go_enter Tryd.func15, Tryd.ntmps15
  go_wp2_with fail
  refine (readAny s 6 _ hmax (by omega)).mono ?_
  rintro e w1 ⟨rfl, hb⟩
  rw [HR.out]
  unfold rdv
  go_wp2
  go_ret2
  exact ⟨rfl, hb⟩
set_option maxRecDepth 100000 in
theorem specNumNo (s : ByteArray) (w : World) (hno : ∀ n, 0 ≤ n → n ≤ 999999 → itoa n ≠ s.data.toList) (hmax : s.size ≤ 2097152) :
    Calls Tryd.prog 15 #[.string s] w fun e w' => e = .returned (.tuple #[.int .i64 0, .bool false]) ∧ Below w.heap.size w w' := by
  cases hr : readAs 6 s.data.toList with
  | none =>
    have HR := Lib.hid hr
    clear hno hr
    go_enter Tryd.func15, Tryd.ntmps15
    go_wp2_with fail
    refine (readAny s 6 _ hmax (by omega)).mono ?_
    rintro e w1 ⟨rfl, hb⟩
    rw [HR.out]
    unfold rdv
    go_wp2
    go_ret2
    exact ⟨rfl, hb⟩
  | some n =>
    have hn : n < 0 := by
      have := readAs_some hr
      by_cases h : n < 0
      · exact h
      · exact absurd this.1 (hno n (by omega) (by omega))
    have HR := Lib.hid hr
    clear hno hr
    go_enter Tryd.func15, Tryd.ntmps15
    go_wp2_with fail
    refine (readAny s 6 _ hmax (by omega)).mono ?_
    rintro e w1 ⟨rfl, hb⟩
    rw [HR.out]
    unfold rdv
    go_wp2
    go_ret2
    exact ⟨rfl, hb⟩

set_option maxRecDepth 100000 in
theorem specInt (s : ByteArray) (w : World) (hmax : s.size ≤ 2097152) :
    Calls Tryd.prog 22 #[.string s] w fun e w' => e = .returned (rdv (readAs 12 s.data.toList)) ∧ Below w.heap.size w w' := by
  go_enter Tryd.func22, Tryd.ntmps22
  go_wp2_with fail
  refine (readAny s 12 _ hmax (by omega)).mono ?_
  rintro e w1 ⟨rfl, hb⟩
  unfold rdv
  go_wp2
  go_ret2
  exact ⟨rfl, hb⟩
theorem specIntYes (s : ByteArray) (n : Int) (w : World) (hs : itoa n = s.data.toList) (h0 : -999999999999 ≤ n) (h1 : n ≤ 999999999999) (hmax : s.size ≤ 2097152) :
    Calls Tryd.prog 22 #[.string s] w fun e w' => e = .returned (.tuple #[.int .i64 n, .bool true]) ∧ Below w.heap.size w w' := by
  have hr : readAs 12 s.data.toList = some n := by rw [← hs]; exact readAs_yes (by omega) (by omega)
  refine (specInt s w hmax).mono fun e w' ⟨he, hb⟩ => ⟨?_, hb⟩
  rw [he, hr]; rfl
theorem specIntNo (s : ByteArray) (w : World) (hno : ∀ n, -999999999999 ≤ n → n ≤ 999999999999 → itoa n ≠ s.data.toList) (hmax : s.size ≤ 2097152) :
    Calls Tryd.prog 22 #[.string s] w fun e w' => e = .returned (.tuple #[.int .i64 0, .bool false]) ∧ Below w.heap.size w w' := by
  have hr : readAs 12 s.data.toList = none := by
    cases h : readAs 12 s.data.toList with
    | none => rfl
    | some n =>
      have := readAs_some h
      exact absurd this.1 (hno n (by omega) (by omega))
  refine (specInt s w hmax).mono fun e w' ⟨he, hb⟩ => ⟨?_, hb⟩
  rw [he, hr]; rfl

set_option maxRecDepth 100000 in
theorem lawParseNumber (s : ByteArray) (w : World) (hmax : s.size ≤ 9223372036854775807) (hp : Pow w) (he : Errs w) :
    Calls Tryd.prog 6 #[.string s] w fun e w' => e = .returned (.bool true) ∧ Below w.heap.size w w' := by
  by_cases hlong : 1048576 < s.size
  · have g : decide ((1048576 : Int) < s.size) = true := by simp; omega
    go_enter Tryd.func6, Tryd.ntmps6
    go_wp2
    go_ret
    exact ⟨rfl, Below.refl _ _⟩
  · have g : decide ((1048576 : Int) < s.size) = false := by simp; omega
    by_cases h : ∃ n, 0 ≤ n ∧ n ≤ 999999 ∧ itoa n = s.data.toList
    · obtain ⟨n, h0, h1, hs⟩ := h
      have HS := Lib.hid hs
      clear hs
      go_enter Tryd.func6, Tryd.ntmps6
      go_wp2_with fail
      refine (specNumYes s n _ HS.out h0 h1 (by omega)).mono ?_
      rintro e w1 ⟨rfl, hb1⟩
      have hp1 := hp.below hb1
      go_wp2_with fail
      refine (yesParseNumber s n _ HS.out h0 h1 (by omega) hp1).mono ?_
      rintro e w2 ⟨rfl, hb2⟩
      have hb := hb1.trans (hb2.mono hb1.size)
      go_wp2
      go_ret
      exact ⟨rfl, hb⟩
    · have hno : ∀ n, 0 ≤ n → n ≤ 999999 → itoa n ≠ s.data.toList := fun n h0 h1 e => h ⟨n, h0, h1, e⟩
      have HN := Lib.hid hno
      clear h hno
      go_enter Tryd.func6, Tryd.ntmps6
      go_wp2_with fail
      refine (specNumNo s _ HN.out (by omega)).mono ?_
      rintro e w1 ⟨rfl, hb1⟩
      have hp1 := hp.below hb1
      have he1 := he.below hb1
      go_wp2_with fail
      refine (noParseNumber s _ HN.out (by omega) hp1 he1).mono ?_
      rintro e w2 ⟨rfl, hb2⟩
      have hb := hb1.trans (hb2.mono hb1.size)
      go_wp2
      go_ret
      exact ⟨rfl, hb⟩

set_option maxRecDepth 100000 in
theorem lawParseInt (s : ByteArray) (w : World) (hmax : s.size ≤ 9223372036854775807) (hp : Pow w) (he : Errs w) :
    Calls Tryd.prog 7 #[.string s] w fun e w' => e = .returned (.bool true) ∧ Below w.heap.size w w' := by
  by_cases hlong : 1048576 < s.size
  · have g : decide ((1048576 : Int) < s.size) = true := by simp; omega
    go_enter Tryd.func7, Tryd.ntmps7
    go_wp2
    go_ret
    exact ⟨rfl, Below.refl _ _⟩
  · have g : decide ((1048576 : Int) < s.size) = false := by simp; omega
    by_cases h : ∃ n, -999999999999 ≤ n ∧ n ≤ 999999999999 ∧ itoa n = s.data.toList
    · obtain ⟨n, h0, h1, hs⟩ := h
      have HS := Lib.hid hs
      clear hs
      go_enter Tryd.func7, Tryd.ntmps7
      go_wp2_with fail
      refine (specIntYes s n _ HS.out h0 h1 (by omega)).mono ?_
      rintro e w1 ⟨rfl, hb1⟩
      have hp1 := hp.below hb1
      go_wp2_with fail
      refine (yesParseInt s n _ HS.out h0 h1 (by omega) hp1).mono ?_
      rintro e w2 ⟨rfl, hb2⟩
      have hb := hb1.trans (hb2.mono hb1.size)
      go_wp2
      go_ret
      exact ⟨rfl, hb⟩
    · have hno : ∀ n, -999999999999 ≤ n → n ≤ 999999999999 → itoa n ≠ s.data.toList := fun n h0 h1 e => h ⟨n, h0, h1, e⟩
      have HN := Lib.hid hno
      clear h hno
      go_enter Tryd.func7, Tryd.ntmps7
      go_wp2_with fail
      refine (specIntNo s _ HN.out (by omega)).mono ?_
      rintro e w1 ⟨rfl, hb1⟩
      have hp1 := hp.below hb1
      have he1 := he.below hb1
      go_wp2_with fail
      refine (noParseInt s _ HN.out (by omega) hp1 he1).mono ?_
      rintro e w2 ⟨rfl, hb2⟩
      have hb := hb1.trans (hb2.mono hb1.size)
      go_wp2
      go_ret
      exact ⟨rfl, hb⟩
end Go.Proofs.YtkhpfmgclnhggaaDoor
