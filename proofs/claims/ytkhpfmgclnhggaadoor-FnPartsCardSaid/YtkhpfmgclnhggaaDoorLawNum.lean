/- The law that FormatInt, ParseInt and ParseNumber are inverse to each other. -/
import Derived.Test.YtkhpfmgclnhggaaDoorDraw1
import Derived.Test.YtkhpfmgclnhggaaDoorLawParse
namespace Go.Proofs.YtkhpfmgclnhggaaDoor
open Go.RowKit Go.Lib

theorem bigNo (A : Option Addr) (n c : Nat) (w : World) (hn : n ≤ 1048576) : Calls Tryd.prog 9 #[.slice A n c] w fun e w' => e = .returned (.bool false) ∧ w = w' := by
  have g : decide ((1048576 : Int) < n) = false := by simp; omega
  go_enter Tryd.func9, Tryd.ntmps9
  go_wp2
  go_ret
  exact ⟨rfl, rfl⟩
theorem bigYes (A : Option Addr) (n c : Nat) (w : World) (hn : 1048576 < n) : Calls Tryd.prog 9 #[.slice A n c] w fun e w' => e = .returned (.bool true) ∧ w = w' := by
  have g : decide ((1048576 : Int) < n) = true := by simp; omega
  go_enter Tryd.func9, Tryd.ntmps9
  go_wp2
  go_ret
  exact ⟨rfl, rfl⟩

theorem itoa_data (n : Int) : (⟨(itoa n).toArray⟩ : ByteArray).data.toList = itoa n := rfl
theorem itoa_size (n : Int) (h0 : -9223372036854775808 ≤ n) (h1 : n ≤ 9223372036854775807) : (⟨(itoa n).toArray⟩ : ByteArray).size ≤ 2097152 := by
  show (itoa n).toArray.size ≤ 2097152
  rw [List.size_toArray]
  have := itoa_short n h0 h1
  omega

/-- A reading of a text by the program: what it answers. -/
def Num (lo hi : Int) (l : List UInt8) (o : Option Int) : Prop := (∃ n, o = some n ∧ lo ≤ n ∧ n ≤ hi ∧ itoa n = l) ∨ (o = none ∧ ∀ n, lo ≤ n → n ≤ hi → itoa n ≠ l)
theorem num_of (lo hi : Int) (l : List UInt8) : ∃ o, Num lo hi l o := by
  by_cases h : ∃ n, lo ≤ n ∧ n ≤ hi ∧ itoa n = l
  · obtain ⟨n, h0, h1, e⟩ := h
    exact ⟨some n, .inl ⟨n, rfl, h0, h1, e⟩⟩
  · exact ⟨none, .inr ⟨rfl, fun n h0 h1 e => h ⟨n, h0, h1, e⟩⟩⟩
theorem num_itoa_in {lo hi n : Int} (h0 : lo ≤ n) (h1 : n ≤ hi) : Num lo hi (itoa n) (some n) := .inl ⟨n, rfl, h0, h1, rfl⟩
theorem num_itoa_out {lo hi n : Int} (h : n < lo ∨ hi < n) : Num lo hi (itoa n) none := .inr ⟨rfl, fun m h0 h1 e => by have := itoa_inj e; omega⟩

theorem numberIs (s : ByteArray) (o : Option Int) (w : World) (h : Num 0 999999 s.data.toList o) (hmax : s.size ≤ 2097152) (hp : Pow w) (he : Errs w) :
    Calls Tryd.prog 13 #[.string s] w fun e w' => e = .returned (rdv o) ∧ Below w.heap.size w w' := by
  rcases h with ⟨n, rfl, h0, h1, e⟩ | ⟨rfl, hno⟩
  · exact yesParseNumber s n w e h0 h1 hmax hp
  · exact noParseNumber s w hno hmax hp he
theorem intIs (s : ByteArray) (o : Option Int) (w : World) (h : Num (-999999999999) 999999999999 s.data.toList o) (hmax : s.size ≤ 2097152) (hp : Pow w) (he : Errs w) :
    Calls Tryd.prog 12 #[.string s] w fun e w' => e = .returned (rdv o) ∧ Below w.heap.size w w' := by
  rcases h with ⟨n, rfl, h0, h1, e⟩ | ⟨rfl, hno⟩
  · exact yesParseInt s n w e h0 h1 hmax hp
  · exact noParseInt s w hno hmax hp he
theorem specNumberIs (s : ByteArray) (o : Option Int) (w : World) (h : Num 0 999999 s.data.toList o) (hmax : s.size ≤ 2097152) :
    Calls Tryd.prog 15 #[.string s] w fun e w' => e = .returned (rdv o) ∧ Below w.heap.size w w' := by
  rcases h with ⟨n, rfl, h0, h1, e⟩ | ⟨rfl, hno⟩
  · exact specNumYes s n w e h0 h1 hmax
  · exact specNumNo s w hno hmax

/-- What the walk knows of a draw, case by case. -/
def Case (n : Int) (o p : Option Int) : Prop := (o = some n ∧ p = some n ∧ 0 ≤ n ∧ n ≤ 999999) ∨ (o = some n ∧ p = none ∧ -999999999999 ≤ n ∧ n ≤ 999999999999 ∧ (n < 0 ∨ 999999 < n)) ∨ (o = none ∧ p = none ∧ (n < -999999999999 ∨ 999999999999 < n))
theorem case_of (n : Int) : ∃ o p, Num (-999999999999) 999999999999 (itoa n) o ∧ Num 0 999999 (itoa n) p ∧ Case n o p := by
  by_cases h1 : 0 ≤ n ∧ n ≤ 999999
  · exact ⟨some n, some n, num_itoa_in (by omega) (by omega), num_itoa_in h1.1 h1.2, .inl ⟨rfl, rfl, h1.1, h1.2⟩⟩
  · by_cases h2 : -999999999999 ≤ n ∧ n ≤ 999999999999
    · exact ⟨some n, none, num_itoa_in h2.1 h2.2, num_itoa_out (by omega), .inr (.inl ⟨rfl, rfl, h2.1, h2.2, by omega⟩)⟩
    · exact ⟨none, none, num_itoa_out (by omega), num_itoa_out (by omega), .inr (.inr ⟨rfl, rfl, by omega⟩)⟩

set_option maxRecDepth 100000 in
set_option maxHeartbeats 4000000 in
theorem lawNum (A : Option Addr) (n c : Nat) (w : World) (hA : BytesAt w w.heap.size A n) (hn0 : n ≤ 9223372036854775807) (hp : Pow w) (he : Errs w) :
    Calls Tryd.prog 3 #[.slice A n c] w fun e w' => e = .returned (.bool true) ∧ Below w.heap.size w w' := by
  have HA := Lib.hid hA
  clear hA
  by_cases hbig : 1048576 < n
  · go_enter Tryd.func3, Tryd.ntmps3
    go_wp2_with fail
    refine (bigYes A n c _ hbig).mono ?_
    rintro e w1 ⟨rfl, rfl⟩
    go_wp2
    go_ret
    exact ⟨rfl, Below.refl _ _⟩
  · have hn : n ≤ 140737488355328 := by omega
    go_enter Tryd.func3, Tryd.ntmps3
    go_wp2_with fail
    refine (bigNo A n c _ (by omega)).mono ?_
    rintro e w1 ⟨rfl, rfl⟩
    go_wp2_with fail
    refine (drawFormatInt A n c _ HA.out hn).mono ?_
    rintro e w1 ⟨v, rfl, ⟨x, rfl, x0, x1⟩, hb1⟩
    obtain ⟨o, p, ho, hpn, hcase⟩ := case_of x
    have HO := Lib.hid ho
    have HPN := Lib.hid hpn
    have HCASE := Lib.hid hcase
    have HSZ := Lib.hid (itoa_size x x0 x1)
    clear ho hpn hcase
    go_wp2_with fail
    refine (implFmt x _ x0 x1 (hp.below hb1)).mono ?_
    rintro e w2 ⟨rfl, hb2⟩
    have h2 := hb1.trans (hb2.mono hb1.size)
    clear hb2
    go_wp2_with fail
    refine (intIs _ o _ HO.out HSZ.out (hp.below h2) (he.below h2)).mono ?_
    rintro e w3 ⟨rfl, hb3⟩
    have h3 := h2.trans (hb3.mono h2.size)
    clear hb3
    unfold rdv
    go_wp2_with fail
    refine (numberIs _ p _ HPN.out HSZ.out (hp.below h3) (he.below h3)).mono ?_
    rintro e w4 ⟨rfl, hb4⟩
    have h4 := h3.trans (hb4.mono h3.size)
    clear hb4
    unfold rdv
    go_wp2_with fail
    refine (drawParseNumber A n c _ ((HA.out.below h4).mono_ h4.size) hn).mono ?_
    rintro e w5 ⟨v, rfl, ⟨t, rfl, hts⟩, hb5⟩
    have h5 := h4.trans (hb5.mono h4.size)
    clear hb5
    obtain ⟨q, hq⟩ := num_of 0 999999 t.data.toList
    have HQ := Lib.hid hq
    clear hq
    go_wp2_with fail
    refine (numberIs t q _ HQ.out (by omega) (hp.below h5) (he.below h5)).mono ?_
    rintro e w6 ⟨rfl, hb6⟩
    have h6 := h5.trans (hb6.mono h5.size)
    clear hb6
    unfold rdv
    go_wp2_with fail
    refine (specNumberIs t q _ HQ.out (by omega)).mono ?_
    rintro e w7 ⟨rfl, hb7⟩
    have h7 := h6.trans (hb7.mono h6.size)
    clear hb7
    unfold rdv
    have hp7 := hp.below h7
    rcases HCASE.out with ⟨rfl, rfl, k0, k1⟩ | ⟨rfl, rfl, k0, k1, k2 | k2⟩ | ⟨rfl, rfl, k2 | k2⟩
    all_goals
      try have d1 : decide (x ≤ 999999) = false := by rw [decide_eq_false_iff_not]; omega
      try have d2 : decide (x ≤ 999999999999) = false := by rw [decide_eq_false_iff_not]; omega
      rcases HQ.out with ⟨m, rfl, m0, m1, em⟩ | ⟨rfl, _⟩
      · have hstr : (⟨(itoa m).toArray⟩ : ByteArray) = t := by rw [em]
        have HR := Lib.hid hstr
        clear em hstr
        go_wp2_with fail
        refine (implFmt m _ (by omega) (by omega) hp7).mono ?_
        rintro e w8 ⟨rfl, hb8⟩
        have h8 := h7.trans (hb8.mono h7.size)
        rw [HR.out]
        go_wp2
        go_ret
        exact ⟨rfl, h8⟩
      · go_wp2
        go_ret
        exact ⟨rfl, h7⟩
end Go.Proofs.YtkhpfmgclnhggaaDoor
