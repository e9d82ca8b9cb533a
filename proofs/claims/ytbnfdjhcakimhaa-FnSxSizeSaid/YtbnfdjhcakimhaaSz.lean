/- The laws' guard over an S-expression: what is left of a measure. -/
import Derived.Test.YtbnfdjhcakimhaaSx
import Derived.Test.YtbnfdjhcakimhaaProg
import Derived.Outline
namespace Go.Proofs.Ytbnfdjhcakimhaa
open Go.RowKit

/-- What is left: -1 where there was more. -/
def leftOf (L n : Nat) : Int := if n ≤ L then (L : Int) - n else -1
theorem leftOf_yes {L n : Nat} (h : n ≤ L) : leftOf L n = (L : Int) - n := by rw [leftOf, if_pos h]
theorem leftOf_no {L n : Nat} (h : L < n) : leftOf L n = -1 := by rw [leftOf, if_neg (by omega)]

def SzX (N : Nat) : Prop := ∀ (x : SX) (A : Option Addr) (c L : Nat) (w : World), x.nodes ≤ N → x.ok → ListAt w (Lt w.heap.size) A x.list → L ≤ 1048576 →
  Calls Try.prog 30 #[.agg #[.string x.atom, .slice A x.list.length c], .int .i64 L] w fun e w' => e = .returned (.int .i64 (leftOf L x.wt)) ∧ Below w.heap.size w w'
def SzL (N : Nat) : Prop := ∀ (l : List SX) (A : Option Addr) (c L : Nat) (w : World), SX.nodesL l ≤ N → SX.okL l → l.length ≤ 9223372036854775807 → ListAt w (Lt w.heap.size) A l → L ≤ 1048576 →
  Calls Try.prog 60 #[.slice A l.length c, .int .i64 L] w fun e w' => e = .returned (.int .i64 (leftOf L (SX.wtL l))) ∧ Below w.heap.size w w'

set_option maxRecDepth 100000 in
set_option maxHeartbeats 1000000 in
theorem szX_step (N : Nat) (ih : SzL N) : SzX (N + 1) := by
  intro x A c L w hn hok hl hL
  have hn' : SX.nodesL x.list ≤ N := by rw [SX.nodes_eq] at hn; omega
  obtain ⟨ho1, ho2, ho3⟩ := SX.ok_eq x hok
  have hw := SX.wt_eq x
  have hb0 : Below w.heap.size w (w.alloc (.cells #[.string x.atom, .slice A x.list.length c] 38)) := (Below.refl _ _).alloc (Nat.le_refl _) _
  have HL := Lib.hid (hl.grow hb0)
  have HO := Lib.hid ho3
  clear hl hn hok ho3
  by_cases h1 : x.atom.size ≤ L
  · have hnn : ¬ (L : Int) - x.atom.size < 0 := by omega
    have hcast : (L : Int) - x.atom.size = ((L - x.atom.size : Nat) : Int) := by omega
    have HC := Lib.hid hcast
    have HW := Lib.hid hw
    clear hcast hw
    go_enter Try.func30, Try.ntmps30
    go_wp2_with fail
    rw [HC.out]
    refine (ih x.list A c (L - x.atom.size) _ hn' HO.out ho2 HL.out (by omega)).mono ?_
    rintro e w1 ⟨rfl, hb1⟩
    have hb : Below w.heap.size w w1 := hb0.trans (hb1.mono hb0.size)
    by_cases h2 : SX.wtL x.list ≤ L - x.atom.size
    · rw [leftOf_yes h2]
      have h3 : x.wt ≤ L := by rw [HW.out]; omega
      have hnn2 : ¬ ((L - x.atom.size : Nat) : Int) - (SX.wtL x.list : Nat) < 0 := by omega
      go_wp2
      go_ret
      exact ⟨ret_int (by rw [leftOf_yes h3, HW.out]; omega), hb⟩
    · rw [leftOf_no (by omega)]
      have h3 : L < x.wt := by rw [HW.out]; omega
      go_wp2
      go_ret
      exact ⟨ret_int (leftOf_no h3).symm, hb⟩
  · have hnn : (L : Int) - x.atom.size < 0 := by omega
    have h3 : L < x.wt := by omega
    clear hw
    go_enter Try.func30, Try.ntmps30
    go_wp2
    go_ret
    exact ⟨ret_int (leftOf_no h3).symm, hb0⟩

set_option maxRecDepth 100000 in
set_option maxHeartbeats 1000000 in
theorem szL_step (N : Nat) (ih : SzX N) : SzL N := by
  intro l A c L w hn hok hlen hl hL
  have HL := Lib.hid hl
  have HO := Lib.hid hok
  have HN := Lib.hid hn
  clear hl hok hn
  by_cases hfst : L < l.length
  · have hnn : (L : Int) - l.length < 0 := by omega
    have h3 : L < SX.wtL l := by have := SX.wtL_length l; omega
    go_enter Try.func60, Try.ntmps60
    go_wp2
    go_ret
    exact ⟨ret_int (leftOf_no h3).symm, Below.refl _ _⟩
  · have hnn : ¬ (L : Int) - l.length < 0 := by omega
    go_enter Try.func60, Try.ntmps60
    go_wp2
    go_loopw [1, 5] (fun qv iv wr => ∃ k q : Nat, k ≤ l.length ∧ iv = .int .i64 k ∧ qv = .int .i64 q ∧ q + l.length + SX.wtL (l.take k) = L + k ∧ Below w.heap.size w wr) (fun _ iv _ => l.length - (intOf iv).toNat)
    case atStart => exact ⟨0, L - l.length, Nat.zero_le _, rfl, int_of (by omega), by simp [SX.wtL]; omega, Below.refl _ _⟩
    case round =>
      obtain ⟨k, q, hk, rfl, rfl, hq, hb⟩ := hrel
      by_cases hlt : k < l.length
      · obtain ⟨b, o, A', c', rfl, hP, hc0, hc1, hl'⟩ := (HL.out.below hb).at_ hlt
        have hst := SX.wtL_take l k hlt
        have hre := SX.wtL_rest l (k + 1) hlt
        have HX := Lib.hid (hl'.frame (Q := Lt wr.heap.size) (fun _ h => Nat.lt_of_lt_of_le h hb.size) (fun _ _ _ => rfl))
        have HOX := Lib.hid (SX.okL_at l HO.out k hlt)
        have HNX := Lib.hid (Nat.le_trans (SX.nodesL_at l k hlt) HN.out)
        have hqL : q ≤ 1048576 := by have := SX.wtL_le l k; omega
        have HQ := Lib.hid hq
        have HS := Lib.hid hst
        have HR := Lib.hid hre
        clear hl' hq hst hre
        go_wp2_with fail
        refine (ih l[k] A' c' q _ HNX.out HOX.out HX.out hqL).mono ?_
        rintro e w1 ⟨rfl, hb1⟩
        have hb2 : Below w.heap.size w w1 := hb.trans (hb1.mono hb.size)
        by_cases h2 : l[k].wt ≤ q
        · rw [leftOf_yes h2]
          have hnn2 : ¬ (q : Int) - (l[k].wt : Nat) < 0 := by omega
          have hq3 : q - l[k].wt + l.length + SX.wtL (l.take (k + 1)) = L + (k + 1) := by rw [HS.out]; have := HQ.out; omega
          have HQ3 := Lib.hid hq3
          clear hq3
          go_wp2
          go_roundw
          case rel => exact ⟨k + 1, q - l[k].wt, by omega, by go_num, int_of (by omega), HQ3.out, hb2⟩
          case measure => simp [intOf]; omega
        · rw [leftOf_no (by omega)]
          have h3 : L < SX.wtL l := by have := HQ.out; have := HS.out; have := HR.out; omega
          go_wp2
          go_ret
          exact ⟨ret_int (leftOf_no h3).symm, hb2⟩
      · have hkl : k = l.length := by omega
        have h3 : q + SX.wtL l = L := by
          have := hq
          rw [hkl, List.take_length] at this
          omega
        have H3 := Lib.hid h3
        clear hq h3
        go_wp2
        go_ret
        exact ⟨ret_int (by have := H3.out; rw [leftOf_yes (by omega)]; omega), hb⟩

theorem szAll : ∀ N, SzX N ∧ SzL N
  | 0 => by
    have hx : SzX 0 := fun x A c L w hn => by rw [SX.nodes_eq] at hn; omega
    exact ⟨hx, szL_step 0 hx⟩
  | N + 1 => ⟨szX_step N (szAll N).2, szL_step (N + 1) (szX_step N (szAll N).2)⟩
theorem szX (x : SX) (A : Option Addr) (c L : Nat) (w : World) (hok : x.ok) (hl : ListAt w (Lt w.heap.size) A x.list) (hL : L ≤ 1048576) :
    Calls Try.prog 30 #[.agg #[.string x.atom, .slice A x.list.length c], .int .i64 L] w fun e w' => e = .returned (.int .i64 (leftOf L x.wt)) ∧ Below w.heap.size w w' :=
  (szAll x.nodes).1 x A c L w (Nat.le_refl _) hok hl hL
end Go.Proofs.Ytbnfdjhcakimhaa
