/- The reference model: is an S-expression in form; what is left of a number after its nodes; is it valid. -/
import Derived.Test.YtbnfdjhcakimhaaSpecDepth
import Derived.Test.YtbnfdjhcakimhaaAtomIs
import Derived.Test.YtbnfdjhcakimhaaSz
namespace Go.Proofs.Ytbnfdjhcakimhaa
open Go.RowKit

mutual
def SX.form : SX → Bool
  | .mk a l => if a.size = 0 then SX.formL l else okAtom a && decide (l.length = 0)
def SX.formL : List SX → Bool
  | [] => true
  | x :: r => x.form && SX.formL r
end
theorem SX.form_eq (x : SX) : x.form = if x.atom.size = 0 then SX.formL x.list else okAtom x.atom && decide (x.list.length = 0) := by cases x; rw [SX.form]; rfl
theorem SX.formL_take : ∀ (l : List SX) (j : Nat) (h : j < l.length), SX.formL (l.take (j + 1)) = (SX.formL (l.take j) && l[j].form)
  | x :: r, 0, _ => by simp [SX.formL]
  | x :: r, j + 1, h => by
    have := SX.formL_take r j (by simpa using h)
    rw [List.take_succ_cons, List.take_succ_cons, SX.formL, SX.formL, this]
    simp [Bool.and_assoc]
theorem SX.formL_false : ∀ (l : List SX) (j : Nat) (h : j < l.length), l[j].form = false → SX.formL l = false
  | x :: r, 0, _, hf => by rw [SX.formL]; simp at hf; rw [hf]; rfl
  | x :: r, j + 1, h, hf => by rw [SX.formL, SX.formL_false r j (by simpa using h) (by simpa using hf), Bool.and_false]

def FormX (N : Nat) : Prop := ∀ (x : SX) (A : Option Addr) (c : Nat) (w : World), x.nodes ≤ N → x.nodes ≤ 4294967296 → x.ok → ListAt w (Lt w.heap.size) A x.list →
  Calls Try.prog 45 #[.agg #[.string x.atom, .slice A x.list.length c]] w fun e w' => e = .returned (.bool x.form) ∧ Below w.heap.size w w'

set_option maxRecDepth 100000 in
set_option maxHeartbeats 1000000 in
theorem formX : ∀ N, FormX N
  | 0 => fun x A c w hn => by rw [SX.nodes_eq] at hn; omega
  | N + 1 => by
    intro x A c w hn hm hok hl
    have ih := formX N
    have hne := SX.nodes_eq x
    have hll := SX.nodesL_length x.list
    have hlen : x.list.length ≤ 4294967296 := by omega
    have hfe := SX.form_eq x
    obtain ⟨hza, -, hol⟩ := SX.ok_eq x hok
    by_cases ha : x.atom.size = 0
    · rw [if_pos ha] at hfe
      have HL := Lib.hid hl
      have HE := Lib.hid hne
      have HF := Lib.hid hfe
      have HO := Lib.hid hol
      clear hl hne hfe hol hok
      rw [empty_of ha]
      clear ha
      go_enter Try.func45, Try.ntmps45
      go_wp2
      go_loopw [3] (fun iv wr => ∃ k : Nat, k ≤ x.list.length ∧ iv = .int .i64 k ∧ SX.formL (x.list.take k) = true ∧ Below (w.alloc (.cells #[.string ByteArray.empty, .slice A x.list.length c] 26)).heap.size (w.alloc (.cells #[.string ByteArray.empty, .slice A x.list.length c] 26)) wr) (fun iv _ => x.list.length - (intOf iv).toNat)
      case atStart => exact ⟨0, Nat.zero_le _, rfl, by simp [SX.formL], Below.refl _ _⟩
      case round =>
        obtain ⟨k, hk, rfl, hf, hb⟩ := hrel
        obtain ⟨b0, b1, hbw⟩ := boxed hb
        have HT := Lib.hid hf
        clear hf
        by_cases hlt : k < x.list.length
        · obtain ⟨b, o, A', c', rfl, hP, hc0, hc1, hl'⟩ := (boxedList HL.out hb).at_ hlt
          have hst := SX.formL_take x.list k hlt
          have hno := SX.formL_false x.list k hlt
          rw [HT.out, Bool.true_and] at hst
          have hx : x.list[k].nodes ≤ N := by have := SX.nodesL_at x.list k hlt; have := HE.out; omega
          have hsm : x.list[k].nodes ≤ 4294967296 := by have := SX.nodesL_at x.list k hlt; have := HE.out; omega
          have HS := Lib.hid hst
          have HX := Lib.hid hl'
          have HNo := Lib.hid hno
          clear hst hl' hno
          go_wp2_with fail
          refine (ih x.list[k] A' c' _ hx hsm (SX.okL_at _ HO.out k hlt) HX.out).mono ?_
          rintro e w1 ⟨rfl, hb1⟩
          have hb2 := hb.trans (hb1.mono hb.size)
          cases hc : x.list[k].form with
          | true =>
            have HC := Lib.hid hc
            clear hc
            go_wp2
            go_roundw
            case rel => exact ⟨k + 1, by omega, by go_num, by rw [HS.out, HC.out], hb2⟩
            case measure => simp [intOf]; omega
          | false =>
            have HC := Lib.hid hc
            clear hc
            have hbw2 := hbw.trans (hb1.mono hbw.size)
            go_wp2
            go_ret
            exact ⟨congrArg (fun b => Ending.returned (.bool b)) (HF.out.trans (HNo.out HC.out)).symm, hbw2⟩
        · have hkl : k = x.list.length := by omega
          subst hkl
          have ht := HT.out
          rw [List.take_length] at ht
          have HT' := Lib.hid ht
          clear ht
          go_wp2
          go_ret
          exact ⟨congrArg (fun b => Ending.returned (.bool b)) (HF.out.trans HT'.out).symm, hbw⟩
    · rw [if_neg ha] at hfe
      have HF := Lib.hid hfe
      have hnem := nonempty_of ha
      clear hfe hl
      cases hc : okAtom x.atom with
      | true =>
        have HC := Lib.hid hc
        clear hc
        go_enter Try.func45, Try.ntmps45
        go_wp2_with fail
        refine (validAtom x.atom _ hza).mono ?_
        rintro e w1 ⟨rfl, rfl⟩
        have hc := HC.out
        rw [hc]
        clear hc
        go_wp2
        go_ret
        refine ⟨congrArg (fun b => Ending.returned (.bool b)) ?_, (Below.refl _ _).alloc (Nat.le_refl _) _⟩
        rw [HF.out, HC.out, Bool.true_and]
        rw [Bool.eq_iff_iff]; simp
      | false =>
        have HC := Lib.hid hc
        clear hc
        go_enter Try.func45, Try.ntmps45
        go_wp2_with fail
        refine (validAtom x.atom _ hza).mono ?_
        rintro e w1 ⟨rfl, rfl⟩
        have hc := HC.out
        rw [hc]
        clear hc
        go_wp2
        go_ret
        refine ⟨congrArg (fun b => Ending.returned (.bool b)) ?_, (Below.refl _ _).alloc (Nat.le_refl _) _⟩
        rw [HF.out, HC.out, Bool.false_and]

def LeftX (N : Nat) : Prop := ∀ (x : SX) (A : Option Addr) (c L : Nat) (w : World), x.nodes ≤ N → x.nodes ≤ 4294967296 → L ≤ 4294967296 → ListAt w (Lt w.heap.size) A x.list →
  Calls Try.prog 44 #[.agg #[.string x.atom, .slice A x.list.length c], .int .i64 L] w fun e w' => e = .returned (.int .i64 (leftOf L x.nodes)) ∧ Below w.heap.size w w'

theorem left_some {L n : Nat} (h : n ≤ L) : leftOf L n = ((L - n : Nat) : Int) := by rw [leftOf]; split <;> omega
theorem left_none {L n : Nat} (h : L < n) : leftOf L n = -1 := by rw [leftOf]; split <;> omega

set_option maxRecDepth 100000 in
set_option maxHeartbeats 1000000 in
theorem leftX : ∀ N, LeftX N
  | 0 => fun x A c L w hn => by rw [SX.nodes_eq] at hn; omega
  | N + 1 => by
    intro x A c L w hn hm hL hl
    have ih := leftX N
    have hne := SX.nodes_eq x
    have hll := SX.nodesL_length x.list
    have hlen : x.list.length ≤ 4294967296 := by omega
    have HL := Lib.hid hl
    have HE := Lib.hid hne
    clear hl hne
    go_enter Try.func44, Try.ntmps44
    go_wp2
    go_loopw [1, 5] (fun lv iv wr => ∃ k : Nat, k ≤ x.list.length ∧ iv = .int .i64 k ∧ lv = .int .i64 (leftOf L (1 + SX.nodesL (x.list.take k))) ∧ Below (w.alloc (.cells #[.string x.atom, .slice A x.list.length c] 26)).heap.size (w.alloc (.cells #[.string x.atom, .slice A x.list.length c] 26)) wr) (fun _ iv _ => x.list.length - (intOf iv).toNat)
    case atStart =>
      refine ⟨0, Nat.zero_le _, rfl, int_of ?_, Below.refl _ _⟩
      rw [List.take_zero, SX.nodesL]
      by_cases h0 : L = 0
      · subst h0; rw [left_none (by omega)]; rfl
      · rw [left_some (by omega)]; omega
    case round =>
      obtain ⟨k, hk, rfl, rfl, hb⟩ := hrel
      obtain ⟨b0, b1, hbw⟩ := boxed hb
      by_cases hlt : k < x.list.length
      · by_cases hle : 1 + SX.nodesL (x.list.take k) ≤ L
        · obtain ⟨b, o, A', c', rfl, hP, hc0, hc1, hl'⟩ := (boxedList HL.out hb).at_ hlt
          have hst := SX.nodesL_take x.list k hlt
          have hx : x.list[k].nodes ≤ N := by have := SX.nodesL_at x.list k hlt; have := HE.out; omega
          have hsm : x.list[k].nodes ≤ 4294967296 := by have := SX.nodesL_at x.list k hlt; have := HE.out; omega
          have hnew : leftOf (L - (1 + SX.nodesL (x.list.take k))) x.list[k].nodes = leftOf L (1 + SX.nodesL (x.list.take (k + 1))) := by
            rw [hst, leftOf, leftOf]; split <;> split <;> omega
          have HS := Lib.hid hnew
          have HX := Lib.hid hl'
          clear hst hl' hnew
          rw [left_some hle]
          go_wp2_with fail
          refine (ih x.list[k] A' c' (L - (1 + SX.nodesL (x.list.take k))) _ hx hsm (by omega) HX.out).mono ?_
          rintro e w1 ⟨rfl, hb1⟩
          have hb2 := hb.trans (hb1.mono hb.size)
          go_wp2
          go_roundw
          case rel => exact ⟨k + 1, by omega, by go_num, int_of (by rw [HS.out]), hb2⟩
          case measure => simp [intOf]; omega
        · have hr : leftOf L x.nodes = -1 := left_none (by have := HE.out; have := SX.nodesL_le x.list k; omega)
          have HR := Lib.hid hr
          clear hr
          rw [left_none (by omega)]
          go_wp2
          go_ret
          exact ⟨ret_int (by rw [HR.out]), hbw⟩
      · have hkl : k = x.list.length := by omega
        subst hkl
        have hr : leftOf L x.nodes = leftOf L (1 + SX.nodesL (x.list.take x.list.length)) := by rw [HE.out, List.take_length]
        have HR := Lib.hid hr
        clear hr
        go_wp2
        go_ret
        exact ⟨ret_int (by rw [HR.out]), hbw⟩
end Go.Proofs.Ytbnfdjhcakimhaa
