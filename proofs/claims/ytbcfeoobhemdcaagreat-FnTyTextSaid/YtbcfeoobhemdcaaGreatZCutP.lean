/- strings.CutPrefix of a text and the apostrophe; what keyword a list opens with. -/
import Derived.Test.YtbcfeoobhemdcaaGreatZTyOf2
import Derived.Test.YtbcfeoobhemdcaaGreatQ1
import Derived.Test.YtbcfeoobhemdcaaGreatZTyRound
import Derived.RegionTactic
namespace Go.Proofs.YtbcfeoobhemdcaaGreat
open Go.RowKit Go.Lib

def quoted (a : ByteArray) : Bool := decide (a.data.toList.headD 0 = 39)
theorem head_take (a : ByteArray) (h : 1 ≤ a.size) : ((a.extract 0 1).toList == [39]) = quoted a := by
  rw [ByteArray.toList_eq, quoted]
  obtain ⟨⟨d⟩⟩ := a
  cases d with
  | nil => exact absurd h (by decide)
  | cons x r =>
    rw [Bool.eq_iff_iff]
    simp [ByteArray.data_extract]
theorem quoted_none {a : ByteArray} (h : ¬ 1 ≤ a.size) : quoted a = false := by
  obtain ⟨⟨d⟩⟩ := a
  cases d with
  | nil => rfl
  | cons x r => exact absurd (show 1 ≤ (x :: r).length by simp) h
set_option maxRecDepth 100000 in
set_option maxHeartbeats 400000 in
theorem hasP (a : ByteArray) (w : World) (hs : a.size ≤ 9223372036854775807) : Calls Tryz.prog 96 #[.string a, .string ⟨#[39]⟩] w fun e w' => e = .returned (.bool (quoted a)) ∧ w = w' := by
  by_cases h1 : 1 ≤ a.size
  · have h2 : decide ((1 : Int) ≤ a.size) = true := by simp; omega
    have hd := head_take a h1
    go_enter Tryz.func96, Tryz.ntmps96
    go_wp2
    go_ret
    exact ⟨rfl, rfl⟩
  · have h2 : decide ((1 : Int) ≤ a.size) = false := by simp; omega
    have hq := Lib.hid (quoted_none h1)
    go_enter Tryz.func96, Tryz.ntmps96
    go_wp2
    go_ret
    exact ⟨congrArg (fun b => Ending.returned (.bool b)) hq.out.symm, rfl⟩
set_option maxRecDepth 100000 in
set_option maxHeartbeats 400000 in
theorem cutLite (a : ByteArray) (w : World) (hs : a.size ≤ 9223372036854775807) : Calls Tryz.prog 85 #[.string a, .string ⟨#[39]⟩] w fun e w' => e = .returned (.tuple #[.string (if quoted a then a.extract 1 a.size else a), .bool (quoted a)]) ∧ w = w' := by
  cases hq : quoted a with
  | true =>
    have h1 : 1 ≤ a.size := Decidable.byContradiction fun h => by rw [quoted_none h] at hq; cases hq
    go_enter Tryz.func85, Tryz.ntmps85
    go_wp2_with fail
    refine (hasP a _ hs).mono ?_
    rintro e w1 ⟨rfl, rfl⟩
    rw [hq]
    clear hq
    go_wp2
    exact bodyPost_ret (v := .tuple #[.string (a.extract 1 a.size), .bool true]) (by simp [results, Tryz.results85, go_sem]) rfl ⟨rfl, rfl⟩
  | false =>
    go_enter Tryz.func85, Tryz.ntmps85
    go_wp2_with fail
    refine (hasP a _ hs).mono ?_
    rintro e w1 ⟨rfl, rfl⟩
    rw [hq]
    clear hq
    go_wp2
    exact bodyPost_ret (v := .tuple #[.string a, .bool false]) (by simp [results, Tryz.results85, go_sem]) rfl ⟨rfl, rfl⟩
set_option maxRecDepth 100000 in
set_option maxHeartbeats 400000 in
theorem cutP (a : ByteArray) (w : World) (hs : a.size ≤ 9223372036854775807) : Calls Tryz.prog 63 #[.string a, .string ⟨#[39]⟩] w fun e w' => e = .returned (.tuple #[.string (if quoted a then a.extract 1 a.size else a), .bool (quoted a)]) ∧ w = w' := by
  have hc := fun w => cutLite a w hs
  obtain ⟨b, hb⟩ : ∃ b, b = (if quoted a then a.extract 1 a.size else a) := ⟨_, rfl⟩
  rw [← hb] at hc ⊢
  obtain ⟨q, hq⟩ : ∃ q, q = quoted a := ⟨_, rfl⟩
  rw [← hq] at hc ⊢
  have HC := Lib.hid hc
  clear hb hq hc
  go_enter Tryz.func63, Tryz.ntmps63
  go_wp2_with fail
  refine (HC.out _).mono ?_
  rintro e w1 ⟨rfl, rfl⟩
  go_wp2
  exact bodyPost_ret (v := .tuple #[.string b, .bool q]) (by simp [results, Tryz.results63, go_sem]) rfl ⟨rfl, rfl⟩

/-- The kind that a list's first word names, and what lies behind the keyword. -/
def wordKind (l : List SX) : Int := match l with | [] => 2 | x :: _ => if x.atom = ⟨#[97, 115, 115, 111, 99]⟩ then 3 else if x.atom = ⟨#[100, 121, 110]⟩ then 4 else 2
def wordRest (l : List SX) : List SX := match l with | [] => [] | x :: r => if x.atom = ⟨#[97, 115, 115, 111, 99]⟩ then r else if x.atom = ⟨#[100, 121, 110]⟩ then r else x :: r
/-- All of a row but its first. -/
theorem SxRow.tail {w : World} {P : Nat → Prop} {b o c : Nat} {x : SX} {r : List SX} (h : SxRow w P (some ⟨b, o, none⟩) c (x :: r)) : SxRow w P (some ⟨b, o + 2, none⟩) (c - 1) r := by
  have hcap := h.cap
  rw [List.length_cons] at hcap
  obtain ⟨A, cap, e, h1, h2, h3⟩ := RdV_row.1 h
  injection e with e1 _ e3
  subst e1 e3
  rw [SX.rows] at h3
  rcases h3 with h3 | ⟨b', o', hA, hP, vs, hE, hc⟩
  · cases h3
  · injection hA with hA
    injection hA with hb ho
    subst hb ho
    rw [RdVE] at hE
    obtain ⟨v1, v2, rfl, hk, hs, hr⟩ := hE
    have hl1 : v1.length = 2 := by rw [RdVs_length hs, hk]
    refine RdV_row.2 ⟨_, _, by rw [SX.rows_length], by rw [SX.rows_length]; omega, by omega, .inr ⟨b, o + 2, rfl, hP, v2, hr, fun i v hi => ?_⟩⟩
    have h := hc (2 + i) v (by rw [List.getElem?_append_right (by omega), hl1, Nat.add_sub_cancel_left]; exact hi)
    rw [Nat.add_assoc]
    exact h
theorem SxRow.empty {w : World} {P : Nat → Prop} {A : Option Addr} {c : Nat} {r : List SX} (h : r = []) (hc : c ≤ 9223372036854775807) : SxRow w P A c r := by subst h; exact SxRow.nil _ _ _ _ hc
/-- What lies behind the first: by the address that Go gives it. -/
theorem SxRow.rest {w : World} {P : Nat → Prop} {b o c : Nat} {x : SX} {r : List SX} (h : SxRow w P (some ⟨b, o, none⟩) c (x :: r)) : (c = 1 → SxRow w P (some ⟨b, o, none⟩) 0 r) ∧ (c ≠ 1 → SxRow w P (some ⟨b, o + 2, none⟩) (c - 1) r) := by
  refine ⟨fun e => ?_, fun _ => h.tail⟩
  have := h.cap
  rw [List.length_cons] at this
  exact SxRow.empty (List.eq_nil_of_length_eq_zero (by omega)) (by decide)

set_option maxRecDepth 100000 in
set_option maxHeartbeats 1000000 in
theorem splitW (l : List SX) (A : Option Addr) (c : Nat) (w : World) (hl : SxRow w (Und w.heap.size) A c l) :
    Calls Tryz.prog 64 #[.slice A l.length c] w fun e w' => (∃ A' c', e = .returned (.tuple #[.int .i64 (wordKind l), .slice A' (wordRest l).length c']) ∧ SxRow w (Und w.heap.size) A' c' (wordRest l)) ∧ Below w.heap.size w w' := by
  cases l with
  | nil =>
    go_enter Tryz.func64, Tryz.ntmps64
    go_wp2
    exact bodyPost_ret (v := .tuple #[.int .i64 2, .slice none 0 0]) (by simp [results, Tryz.results64, go_sem]) rfl ⟨⟨_, _, rfl, SxRow.nil _ _ _ _ (by decide)⟩, Below.refl _ _⟩
  | cons x r =>
    obtain ⟨b, o, A2, c2, rfl, hP, q0, q1, hr⟩ := hl.at_ (j := 0) (by simp)
    have hcap := hl.cap
    rw [List.length_cons] at hcap
    obtain ⟨hr1, hr2⟩ := hl.rest
    have q0' : w.cell? ⟨b, o, none⟩ = some (.string x.atom) := by simpa using q0
    have hne : ((r.length : Int) + 1 == 0) = false := by rw [beq_eq_false_iff_ne]; omega
    have HL := Lib.hid hl
    have HR1 := Lib.hid hr1
    have HR2 := Lib.hid hr2
    clear hl q0 q1 hr hr1 hr2 hP
    have ea : (⟨#[97, 115, 115, 111, 99]⟩ : ByteArray).toList = [97, 115, 115, 111, 99] := by rw [ByteArray.toList_eq]
    have ed : (⟨#[100, 121, 110]⟩ : ByteArray).toList = [100, 121, 110] := by rw [ByteArray.toList_eq]
    by_cases ha : x.atom = ⟨#[97, 115, 115, 111, 99]⟩
    · have ht : (x.atom.toList == [97, 115, 115, 111, 99]) = true := by rw [ha, ea]; rfl
      have hk : wordKind (x :: r) = 3 := by rw [wordKind, if_pos ha]
      have hw : wordRest (x :: r) = r := by rw [wordRest, if_pos ha]
      rw [hk, hw]
      clear hk hw ha ea ed
      by_cases hc : c = 1
      · subst hc
        obtain rfl : r = [] := List.eq_nil_of_length_eq_zero (by omega)
        have HH := Lib.hid (HR1.out rfl)
        go_enter Tryz.func64, Tryz.ntmps64
        go_wp2
        go_region
        all_goals (
          go_wp2
          exact bodyPost_ret (v := .tuple #[.int .i64 3, .slice (some ⟨b, o, none⟩) 0 0]) (by simp [results, Tryz.results64, go_sem]) rfl ⟨⟨_, _, rfl, HH.out⟩, (Below.refl _ _).drew⟩)
      · have HH := Lib.hid (HR2.out hc)
        go_enter Tryz.func64, Tryz.ntmps64
        go_wp2
        go_region
        all_goals (
          go_wp2
          exact bodyPost_ret (v := .tuple #[.int .i64 3, .slice (some ⟨b, o + 2, none⟩) r.length (c - 1)]) (by simp [results, Tryz.results64, go_sem]) rfl ⟨⟨_, _, rfl, HH.out⟩, (Below.refl _ _).drew⟩)
    · have ht : (x.atom.toList == [97, 115, 115, 111, 99]) = false := by have h := text_ne ha; rwa [ea] at h
      by_cases hd : x.atom = ⟨#[100, 121, 110]⟩
      · have ht2 : (x.atom.toList == [100, 121, 110]) = true := by rw [hd, ed]; rfl
        have hk : wordKind (x :: r) = 4 := by rw [wordKind, if_neg ha, if_pos hd]
        have hw : wordRest (x :: r) = r := by rw [wordRest, if_neg ha, if_pos hd]
        rw [hk, hw]
        clear hk hw ha hd ea ed
        by_cases hc : c = 1
        · subst hc
          obtain rfl : r = [] := List.eq_nil_of_length_eq_zero (by omega)
          have HH := Lib.hid (HR1.out rfl)
          go_enter Tryz.func64, Tryz.ntmps64
          go_wp2
          go_region
          all_goals (
            go_wp2
            exact bodyPost_ret (v := .tuple #[.int .i64 4, .slice (some ⟨b, o, none⟩) 0 0]) (by simp [results, Tryz.results64, go_sem]) rfl ⟨⟨_, _, rfl, HH.out⟩, (Below.refl _ _).drew⟩)
        · have HH := Lib.hid (HR2.out hc)
          go_enter Tryz.func64, Tryz.ntmps64
          go_wp2
          go_region
          all_goals (
            go_wp2
            exact bodyPost_ret (v := .tuple #[.int .i64 4, .slice (some ⟨b, o + 2, none⟩) r.length (c - 1)]) (by simp [results, Tryz.results64, go_sem]) rfl ⟨⟨_, _, rfl, HH.out⟩, (Below.refl _ _).drew⟩)
      · have ht2 : (x.atom.toList == [100, 121, 110]) = false := by have h := text_ne hd; rwa [ed] at h
        have hk : wordKind (x :: r) = 2 := by rw [wordKind, if_neg ha, if_neg hd]
        have hw : wordRest (x :: r) = x :: r := by rw [wordRest, if_neg ha, if_neg hd]
        rw [hk, hw]
        clear hk hw ha hd ea ed
        go_enter Tryz.func64, Tryz.ntmps64
        go_wp2
        exact bodyPost_ret (v := .tuple #[.int .i64 2, .slice (some ⟨b, o, none⟩) (r.length + 1) c]) (by simp [results, Tryz.results64, go_sem]) rfl ⟨⟨_, _, rfl, HL.out⟩, Below.refl _ _⟩
end Go.Proofs.YtbcfeoobhemdcaaGreat
