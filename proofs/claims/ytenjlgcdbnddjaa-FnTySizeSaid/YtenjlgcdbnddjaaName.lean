/- Names: the reference model's test and the program's, and the law that says they agree. -/
import Derived.Test.YtenjlgcdbnddjaaReserved
import Derived.Test.YtenjlgcdbnddjaaLetter
import Derived.Laws.RangeAny
namespace Go.Proofs.Ytenjlgcdbnddjaa
open Go.RowKit

/-- A byte that may stand at place i of a name. -/
def goodAt (i : Nat) (c : UInt8) : Bool := letterR c.toNat || (i != 0 && digitR c.toNat)
def goods (s : ByteArray) (k : Nat) : Bool := (List.range k).all fun i => goodAt i (s.data.toList.getD i 0)
/-- A name. -/
def okName (s : ByteArray) : Bool := decide (1 ≤ s.size ∧ s.size ≤ 8) && (!isKey s && goods s s.size)
theorem goods_succ {s : ByteArray} {k : Nat} (h : k < s.size) : goods s (k + 1) = (goods s k && goodAt k s[k]) := by
  unfold goods
  rw [List.range_succ, List.all_append]
  simp
  congr 2
  have : s.data[k]? = some s[k] := by simp [h]; rfl
  rw [this]
  rfl
theorem goods_bad {s : ByteArray} {k : Nat} (h : k < s.size) (hb : goodAt k s[k] = false) : okName s = false := by
  have h1 := goods_succ h
  rw [hb, Bool.and_false] at h1
  have : goods s s.size = false := by
    unfold goods at h1 ⊢
    rw [List.all_eq_false] at h1 ⊢
    obtain ⟨x, hx, hf⟩ := h1
    exact ⟨x, by simp at hx ⊢; omega, hf⟩
  rw [okName, this, Bool.and_false, Bool.and_false]
theorem name_size {s : ByteArray} (h : ¬ (1 ≤ s.size ∧ s.size ≤ 8)) : okName s = false := by rw [okName, decide_eq_false h, Bool.false_and]
theorem name_key {s : ByteArray} (h : isKey s = true) : okName s = false := by rw [okName, h]; simp
theorem name_ok {s : ByteArray} (h : 1 ≤ s.size ∧ s.size ≤ 8) (hg : goods s s.size = true) : okName s = !isKey s := by rw [okName, decide_eq_true h, hg]; simp

theorem withinN (x lo hi : Int) (w : World) : Calls Try.prog 76 #[.int .i64 x, .int .i64 lo, .int .i64 hi] w fun e w' => e = .returned (.bool (decide (lo ≤ x ∧ x ≤ hi))) ∧ w = w' := by
  by_cases h1 : lo ≤ x
  · go_enter Try.func76, Try.ntmps76
    go_wp2
    go_ret
    refine ⟨congrArg (fun b => Ending.returned (.bool b)) ?_, rfl⟩
    rw [Bool.eq_iff_iff]
    simp [h1]
  · go_enter Try.func76, Try.ntmps76
    go_wp2
    go_ret
    refine ⟨congrArg (fun b => Ending.returned (.bool b)) ?_, rfl⟩
    rw [Bool.eq_iff_iff]
    simp
    omega

set_option maxRecDepth 100000 in
set_option maxHeartbeats 1000000 in
theorem specName (s : ByteArray) (w : World) (hs : s.size ≤ 9223372036854775807) : Calls Try.prog 65 #[.string s] w fun e w' => e = .returned (.bool (okName s)) ∧ Below w.heap.size w w' := by
  by_cases hsz : 1 ≤ s.size ∧ s.size ≤ 8
  · have hd : decide ((1 : Int) ≤ s.size ∧ (s.size : Int) ≤ 8) = true := by simp; omega
    go_enter Try.func65, Try.ntmps65
    go_wp2_with fail
    refine (withinN _ _ _ _).mono ?_
    rintro e w1 ⟨rfl, rfl⟩
    rw [hd]
    clear hd
    go_wp2_with fail
    refine (specReserved s _).mono ?_
    rintro e w1 ⟨rfl, hb1⟩
    cases hk : isKey s with
    | true =>
      have hno := name_key hk
      have HN := Lib.hid hno
      clear hk hno
      go_wp2
      go_ret
      exact ⟨congrArg (fun b => Ending.returned (.bool b)) HN.out.symm, hb1⟩
    | false =>
      have hyes := fun h => @name_ok s hsz h
      rw [hk] at hyes
      have HY := Lib.hid hyes
      have HB := Lib.hid hb1
      obtain ⟨hsz1, hsz2⟩ := hsz
      clear hyes hk hb1
      go_wp2
      go_loopw [3] (fun iv wr => ∃ k : Nat, k ≤ s.size ∧ iv = .int .i64 k ∧ goods s k = true ∧ wr = w1) (fun iv _ => s.size - (intOf iv).toNat)
      case atStart => exact ⟨0, Nat.zero_le _, rfl, rfl, rfl⟩
      case round =>
        obtain ⟨k, hk, rfl, hg, rfl⟩ := hrel
        by_cases hlt : k < s.size
        · have hst := goods_succ hlt
          rw [hg, Bool.true_and] at hst
          have hbad := @goods_bad s k hlt
          have HS := Lib.hid hst
          have HX := Lib.hid hbad
          clear hst hbad hg
          by_cases h97 : 97 ≤ s[k].toNat
          · by_cases h122 : s[k].toNat ≤ 122
            · have hg : goodAt k s[k] = true := by unfold goodAt letterR; simp; omega
              have HG := Lib.hid (HS.out.trans hg)
              clear hg
              go_wp2
              go_roundw
              case rel => exact ⟨k + 1, by omega, by go_num, HG.out, trivial⟩
              case measure => simp [intOf]; omega
            · have hg : goodAt k s[k] = false := by unfold goodAt letterR digitR; simp; omega
              have HG := Lib.hid (HX.out hg)
              clear hg
              have q1 : decide ((s[k].toNat : Int) ≤ 122) = false := by simp; omega
              by_cases h0 : k = 0
              · subst h0
                go_wp2
                go_ret
                exact ⟨congrArg (fun b => Ending.returned (.bool b)) HG.out.symm, HB.out⟩
              · have q0 : ((k : Int) == 0) = false := by simp; omega
                go_wp2
                go_ret
                exact ⟨congrArg (fun b => Ending.returned (.bool b)) HG.out.symm, HB.out⟩
          · by_cases h0 : k = 0
            · subst h0
              have hg : goodAt 0 s[0] = false := by unfold goodAt letterR digitR; simp; omega
              have HG := Lib.hid (HX.out hg)
              clear hg
              go_wp2
              go_ret
              exact ⟨congrArg (fun b => Ending.returned (.bool b)) HG.out.symm, HB.out⟩
            · have q0 : ((k : Int) == 0) = false := by simp; omega
              by_cases h48 : s[k].toNat < 48
              · have hg : goodAt k s[k] = false := by unfold goodAt letterR digitR; simp; omega
                have HG := Lib.hid (HX.out hg)
                clear hg
                go_wp2
                go_ret
                exact ⟨congrArg (fun b => Ending.returned (.bool b)) HG.out.symm, HB.out⟩
              · by_cases h57 : 57 < s[k].toNat
                · have hg : goodAt k s[k] = false := by unfold goodAt letterR digitR; simp; omega
                  have HG := Lib.hid (HX.out hg)
                  clear hg
                  go_wp2
                  go_ret
                  exact ⟨congrArg (fun b => Ending.returned (.bool b)) HG.out.symm, HB.out⟩
                · have hg : goodAt k s[k] = true := by unfold goodAt letterR digitR; simp; omega
                  have HG := Lib.hid (HS.out.trans hg)
                  clear hg
                  go_wp2
                  go_roundw
                  case rel => exact ⟨k + 1, by omega, by go_num, HG.out, trivial⟩
                  case measure => simp [intOf]; omega
        · have hkl : k = s.size := by omega
          subst hkl
          have hy := HY.out hg
          have HZ := Lib.hid hy
          clear hg hy
          go_wp2
          go_ret
          exact ⟨congrArg (fun b => Ending.returned (.bool b)) HZ.out.symm, HB.out⟩
  · have hno := name_size hsz
    have HN := Lib.hid hno
    have hd : decide ((1 : Int) ≤ s.size ∧ (s.size : Int) ≤ 8) = false := by simp; omega
    clear hno
    go_enter Try.func65, Try.ntmps65
    go_wp2_with fail
    refine (withinN _ _ _ _).mono ?_
    rintro e w1 ⟨rfl, rfl⟩
    rw [hd]
    go_wp2
    go_ret
    exact ⟨congrArg (fun b => Ending.returned (.bool b)) HN.out.symm, Below.refl _ _⟩
end Go.Proofs.Ytenjlgcdbnddjaa
