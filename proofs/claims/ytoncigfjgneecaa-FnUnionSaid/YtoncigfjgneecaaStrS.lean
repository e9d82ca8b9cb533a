/- The laws' helpers over a row of strings: the guard on its size, its copy. -/
import Derived.Test.YtoncigfjgneecaaEq
import Derived.Test.YtoncigfjgneecaaJoinFacts
import Derived.Laws.IdiomStrings
import Derived.Laws.MakeOwn
import Derived.Outline
namespace Go.Proofs.Ytoncigfjgneecaa
open Go.RowKit Go.Lib

set_option maxRecDepth 100000 in
set_option maxHeartbeats 400000 in
theorem szYes (A : Option Addr) (c : Nat) (ss : List ByteArray) (L : Nat) (w : World) (hA : Strs w A ss) (hL : ss.length + sizes ss ≤ L) (h1 : L ≤ 4294967296) :
    Calls Try.prog 21 #[.slice A ss.length c, .int .i64 L] w fun e w' => e = .returned (.int .i64 ((L : Int) - ss.length - (sizes ss : Nat))) ∧ w = w' := by
  have HA := Lib.hid hA
  clear hA
  go_enter Try.func21, Try.ntmps21
  go_wp2
  go_loop [1, 5] (fun q i => ∃ k : Nat, k ≤ ss.length ∧ i = .int .i64 k ∧ q = .int .i64 ((L : Int) - ss.length - (sizes (ss.take k) : Nat))) (fun _ i => ss.length - (Go.RowKit.intOf i).toNat)
  case atStart => exact ⟨0, Nat.zero_le _, rfl, int_of (by simp [sizes])⟩
  case round =>
    obtain ⟨k, hk, rfl, rfl⟩ := hrel
    have hs1 := sizes_le ss k
    by_cases hlt : k < ss.length
    · obtain ⟨g, o, rfl, hc⟩ := HA.out.at_ hlt
      have hs2 := sizes_le ss (k + 1)
      have hst := sizes_take ss k hlt
      have HS := Lib.hid hst
      have hz : ss[k].size ≤ 4294967296 := by omega
      have hnn : ¬ (L : Int) - ss.length - (sizes (ss.take k) : Nat) - (ss[k].size : Nat) < 0 := by omega
      clear hst
      go_wp2
      go_round
      case rel => exact ⟨k + 1, by omega, by go_num, int_of (by rw [HS.out]; omega)⟩
      case measure => simp [Go.RowKit.intOf]; omega
    · have hkl : k = ss.length := by omega
      subst hkl
      rw [List.take_length]
      go_wp2
      go_ret
      exact ⟨rfl, rfl⟩

set_option maxRecDepth 100000 in
set_option maxHeartbeats 400000 in
theorem szNo (A : Option Addr) (c : Nat) (ss : List ByteArray) (L : Nat) (w : World) (hA : Strs w A ss) (hL : L < ss.length + sizes ss) (h1 : L ≤ 4294967296) (hn : ss.length ≤ 9223372036854775807) (hz : ∀ x ∈ ss, x.size ≤ 9223372036854775807) :
    Calls Try.prog 21 #[.slice A ss.length c, .int .i64 L] w fun e w' => e = .returned (.int .i64 (-1)) ∧ w = w' := by
  have HA := Lib.hid hA
  have HZ := Lib.hid hz
  clear hA hz
  by_cases hfst : L < ss.length
  · have hnn : (L : Int) - ss.length < 0 := by omega
    go_enter Try.func21, Try.ntmps21
    go_wp2
    go_ret
    exact ⟨rfl, rfl⟩
  · go_enter Try.func21, Try.ntmps21
    go_wp2
    go_loop [1, 5] (fun q i => ∃ k : Nat, k ≤ ss.length ∧ i = .int .i64 k ∧ sizes (ss.take k) + ss.length ≤ L ∧ q = .int .i64 ((L : Int) - ss.length - (sizes (ss.take k) : Nat))) (fun _ i => ss.length - (Go.RowKit.intOf i).toNat)
    case atStart => exact ⟨0, Nat.zero_le _, rfl, by simp [sizes]; omega, int_of (by simp [sizes])⟩
    case round =>
      obtain ⟨k, hk, rfl, hle, rfl⟩ := hrel
      by_cases hlt : k < ss.length
      · obtain ⟨g, o, rfl, hc⟩ := HA.out.at_ hlt
        have hst := sizes_take ss k hlt
        have hz := HZ.out ss[k] (List.getElem_mem hlt)
        by_cases hnx : sizes (ss.take (k + 1)) + ss.length ≤ L
        · have HS := Lib.hid hst
          have hnn : ¬ (L : Int) - ss.length - (sizes (ss.take k) : Nat) - (ss[k].size : Nat) < 0 := by omega
          clear hst
          go_wp2
          go_round
          case rel => exact ⟨k + 1, by omega, by go_num, hnx, int_of (by rw [HS.out]; omega)⟩
          case measure => simp [Go.RowKit.intOf]; omega
        · have hnn : (L : Int) - ss.length - (sizes (ss.take k) : Nat) - (ss[k].size : Nat) < 0 := by omega
          clear hst
          go_wp2
          go_ret
          exact ⟨rfl, rfl⟩
      · have hkl : k = ss.length := by omega
        subst hkl
        rw [List.take_length] at hle
        omega

/-- The cells of a row of which the first k are written. -/
def filled (xs : List Value) (k : Nat) (z : Value) : Array Value := (xs.take k ++ List.replicate (xs.length - k) z).toArray
theorem filled_zero (xs : List Value) (z : Value) : filled xs 0 z = madeCells #[z] xs.length := by
  apply Array.ext'
  rw [toList_madeCells_one]
  simp [filled]
theorem filled_step (xs : List Value) (k : Nat) (z : Value) (h : k < xs.length) : (filled xs k z).setIfInBounds k xs[k] = filled xs (k + 1) z := by
  unfold filled
  rw [List.setIfInBounds_toArray, List.set_append_right _ _ (by simp; omega)]
  have e : k - (xs.take k).length = 0 := by simp; omega
  rw [e, show xs.length - k = (xs.length - (k + 1)) + 1 by omega, List.replicate_succ, List.set_cons_zero, List.take_succ_eq_append_getElem h, List.append_assoc]
  rfl
theorem filled_full (xs : List Value) (z : Value) : filled xs xs.length z = xs.toArray := by simp [filled]
theorem filled_at (xs : List Value) (k : Nat) (z : Value) (h : k < xs.length) : (filled xs k z)[k]? = some z := by
  unfold filled
  rw [List.getElem?_toArray, List.getElem?_append_right (by simp; omega)]
  have e : k - (xs.take k).length = 0 := by simp; omega
  rw [e, List.getElem?_replicate]
  simp; omega

theorem infoStr : (Try.prog.info? 9).map (fun i => (i.zero, i.size, i.bytes)) = some (some (.string ByteArray.empty), 1, 16) := by kernel_rfl

/-- A COPY: a new row of the same strings. -/
def CopyOf (ss : List ByteArray) (w : World) (e : Ending) (w' : World) : Prop :=
  ∃ g : Nat, e = .returned (.slice (some ⟨g, 0, none⟩) ss.length ss.length) ∧ w.heap.size ≤ g ∧ Whole w' g 9 (ss.map Value.string).toArray ∧ Below w.heap.size w w'

set_option maxRecDepth 100000 in
set_option maxHeartbeats 400000 in
theorem toStrings (A : Option Addr) (c : Nat) (ss : List ByteArray) (w : World) (hA : Strs w A ss) (hn : ss.length ≤ 4294967296) :
    Calls Try.prog 23 #[.slice A ss.length c] w (CopyOf ss w) := by
  obtain ⟨i0, hi, hz0, hz1, hz2⟩ := info_parts infoStr
  have hlen : (ss.map Value.string).length = ss.length := by simp
  have km := fun (w : World) => run_make (P := Try.prog) w 24 9 i0 (.string ByteArray.empty) Try.underlying24 hi hz0 .i64 .i64 (ss.length : Int) (ss.length : Int) (by omega) (by omega) (by rw [hz2]; omega) (by omega)
  simp only [Int.toNat_natCast, hz1, Nat.mul_one] at km
  have e0 : madeCells (Value.string ByteArray.empty).cells ss.length = filled (ss.map Value.string) 0 (.string ByteArray.empty) := by rw [filled_zero, hlen]; rfl
  rw [e0] at km
  have HA := Lib.hid hA
  have HL := Lib.hid hlen
  clear hA hlen e0 hi hz0 hz1 hz2
  go_enter Try.func23, Try.ntmps23
  go_wp2
  clear km
  have hb0 : Below w.heap.size w (w.alloc (.cells (filled (ss.map Value.string) 0 (.string ByteArray.empty)) 9)) := (Below.refl _ _).alloc (Nat.le_refl _) _
  have hw0 := Whole.new w 9 (filled (ss.map Value.string) 0 (.string ByteArray.empty))
  go_loopw [4] (fun i wr => ∃ k : Nat, k ≤ ss.length ∧ i = .int .i64 k ∧ Whole wr w.heap.size 9 (filled (ss.map Value.string) k (.string ByteArray.empty)) ∧ Below w.heap.size w wr) (fun i _ => ss.length - (Go.RowKit.intOf i).toNat)
  case atStart => exact ⟨0, Nat.zero_le _, rfl, hw0, hb0⟩
  case round =>
    obtain ⟨k, hk, rfl, hw, hb⟩ := hrel
    clear hw0 hb0
    by_cases hlt : k < ss.length
    · obtain ⟨g, o, rfl, hc⟩ := (HA.out.below hb).at_ hlt
      have hfl : k < (ss.map Value.string).length := by rw [HL.out]; exact hlt
      have hcw : wr.cell? ⟨w.heap.size, k, none⟩ = some (.string ByteArray.empty) := by rw [hw.cell, filled_at _ _ _ hfl]
      have hfz : wr.frozen? ⟨w.heap.size, k, none⟩ = false := hw.frozen k
      have hst := filled_step (ss.map Value.string) k (.string ByteArray.empty) hfl
      rw [List.getElem_map] at hst
      have HS := Lib.hid hst
      clear hst
      go_wp2
      go_roundw
      case rel => exact ⟨k + 1, by omega, by go_num, by rw [← HS.out]; exact hw.set_ _ _, hb.setCell (by simp) _⟩
      case measure => simp [Go.RowKit.intOf]; omega
    · have hkl : k = ss.length := by omega
      subst hkl
      have hfull : filled (ss.map Value.string) ss.length (.string ByteArray.empty) = (ss.map Value.string).toArray := by rw [← HL.out]; exact filled_full _ _
      rw [hfull] at hw
      clear hfull
      go_wp2
      go_ret
      exact ⟨_, rfl, Nat.le_refl _, hw, hb⟩
end Go.Proofs.Ytoncigfjgneecaa
