/- The laws' own helpers over rows of strings: equality, marking, and that the marks are held. -/
import Derived.Test.YtkhpfmgclnhggaaDoorMem
import Derived.Test.YtkhpfmgclnhggaaDoorRead
import Derived.Test.YtkhpfmgclnhggaaDoorProg
import Derived.BigQuiet
import Derived.Deep.QuietTactic
import Derived.Outline
import Derived.Lib.QuietBelow
namespace Go.Proofs.YtkhpfmgclnhggaaDoor
open Go.RowKit Go.Lib

set_option maxRecDepth 100000 in
set_option maxHeartbeats 400000 in
theorem eqStrings (A B : Option Addr) (c d : Nat) (ss : List ByteArray) (w : World) (hA : Strs w A ss) (hB : Strs w B ss) (hlen : ss.length ≤ 4294967296) :
    Calls Tryd.prog 23 #[.slice A ss.length c, .slice B ss.length d] w fun e w' => e = .returned (.bool true) ∧ Below w.heap.size w w' := by
  have HA := Lib.hid hA
  have HB := Lib.hid hB
  clear hA hB
  go_enter Tryd.func23, Tryd.ntmps23
  go_wp2
  go_loopw [5] (fun i wr => ∃ k : Nat, k ≤ ss.length ∧ i = .int .i64 k ∧ Below w.heap.size w wr) (fun i _ => ss.length - (intOf i).toNat)
  case atStart => exact ⟨0, Nat.zero_le _, rfl, Below.refl _ _⟩
  case round =>
    obtain ⟨k, hk, rfl, hb⟩ := hrel
    by_cases hlt : k < ss.length
    · obtain ⟨g, o, rfl, hc⟩ := (HA.out.below hb).at_ hlt
      obtain ⟨g', o', rfl, hc'⟩ := (HB.out.below hb).at_ hlt
      have hk0 : (0 : Int) ≤ k := by omega
      go_wp2
      go_quiet (fail)
      go_wp2
      go_roundw
      case rel => exact ⟨k + 1, by omega, by go_num, hb.trans ⟨rfl, rfl, rfl, Nat.le_refl _, fun _ _ => rfl⟩⟩
      case measure => simp [intOf]; omega
    · go_wp2
      go_ret
      exact ⟨rfl, hb⟩

/-- The text of a mark. -/
def mark (k : Nat) : ByteArray := ⟨(109 :: digs k).toArray⟩
theorem mark_step (m : Nat) (l : List UInt8) (h : 0 < m) (b : UInt8) (hb : b = UInt8.ofNat (48 + m % 10)) : digs (m / 10) ++ b :: l = digs m ++ l := by
  rw [digs_step (show m ≠ 0 by omega), hb]
  simp

set_option maxRecDepth 100000 in
set_option maxHeartbeats 400000 in
theorem markText (n : Nat) (w : World) (h0 : 0 < n) (h1 : n ≤ 9223372036854775807) :
    Calls Tryd.prog 38 #[.int .i64 n] w fun e w' => e = .returned (.string (mark n)) ∧ Below w.heap.size w w' := by
  have kc := fun (w : World) (z : Int) => conv_one (P := Tryd.prog) Tryd.underlying22 Tryd.underlying5 Tryd.underlying9 w z
  go_enter Tryd.func38, Tryd.ntmps38
  go_wp2
  go_loopw [0, 3] (fun a s wr => ∃ (m : Nat) (l : List UInt8), m ≤ n ∧ a = .int .i64 m ∧ s = .string ⟨l.toArray⟩ ∧ digs m ++ l = digs n ∧ Below w.heap.size w wr) (fun a _ _ => (intOf a).toNat)
  case atStart => exact ⟨n, [], by omega, rfl, rfl, by simp, Below.refl _ _⟩
  case round =>
    obtain ⟨m, l, hm1, rfl, rfl, hl, hb⟩ := hrel
    have hll : (l.length : Int) ≤ 20 := by
      have := congrArg List.length hl
      have := digs_length_le 20 n (by omega)
      rw [List.length_append] at *
      omega
    have HL := Lib.hid hl; clear hl
    by_cases hz : 0 < m
    · go_wp2
      go_roundw
      case rel => exact ⟨m / 10, (48 + UInt8.ofNat (m % 10)) :: l, by omega, int_of (by omega), str_of (append_byte _ _), by rw [← HL.out]; exact mark_step m l hz _ (by rw [show (48 : UInt8) = UInt8.ofNat 48 from rfl, ← UInt8.ofNat_add]), hb.alloc hb.size _⟩
      case measure => simp [intOf]; omega
    · go_wp2
      go_ret
      refine ⟨ret_str ?_, hb⟩
      have := HL.out
      rw [show m = 0 by omega, digs_zero, List.nil_append] at this
      rw [mark, ← this]
      exact append_byte 109 l

/-- The cells of a row of which the first j bear their marks. -/
def marked (k0 j : Nat) (cs : List Value) : Array Value := ((List.range j).map (fun i => Value.string (mark (k0 + i))) ++ cs.drop j).toArray
theorem marked_zero (k0 : Nat) (cs : List Value) : marked k0 0 cs = cs.toArray := by simp [marked]
theorem marked_step (k0 j : Nat) (cs : List Value) (h : j < cs.length) : (marked k0 j cs).setIfInBounds j (.string (mark (k0 + j))) = marked k0 (j + 1) cs := by
  unfold marked
  rw [List.setIfInBounds_toArray, List.set_append_right _ _ (by simp)]
  simp only [List.length_map, List.length_range, Nat.sub_self]
  rw [List.drop_eq_getElem_cons h, List.set_cons_zero, List.range_succ, List.map_append, List.append_assoc]
  rfl
theorem marked_full (k0 : Nat) (cs : List Value) : marked k0 cs.length cs = ((List.range cs.length).map (fun i => Value.string (mark (k0 + i)))).toArray := by simp [marked]
theorem marked_at (k0 j : Nat) (cs : List Value) (h : j < cs.length) : (marked k0 j cs)[j]? = cs[j]? := by
  unfold marked
  rw [List.getElem?_toArray, List.getElem?_append_right (by simp)]
  simp

set_option maxRecDepth 100000 in
set_option maxHeartbeats 400000 in
theorem markStrings (g k0 c : Nat) (cs : List Value) (w : World) (hw : Whole w g 9 cs.toArray) (h0 : 0 < k0) (h1 : k0 ≤ 4294967296) (hlen : cs.length ≤ 4294967296) :
    Calls Tryd.prog 24 #[.slice (some ⟨g, 0, none⟩) cs.length c, .int .i64 k0] w fun e w' => e = .returned (.int .i64 (k0 + cs.length : Nat)) ∧ Whole w' g 9 (marked k0 cs.length cs) ∧ But g w w' := by
  go_enter Tryd.func24, Tryd.ntmps24
  go_wp2
  go_loopw [1, 5] (fun q i wr => ∃ j : Nat, j ≤ cs.length ∧ i = .int .i64 j ∧ q = .int .i64 (k0 + j : Nat) ∧ Whole wr g 9 (marked k0 j cs) ∧ But g w wr) (fun _ i _ => cs.length - (intOf i).toNat)
  case atStart => exact ⟨0, Nat.zero_le _, rfl, rfl, by rw [marked_zero]; exact hw, But.refl _ _⟩
  case round =>
    obtain ⟨j, hj, rfl, rfl, hwr, hb⟩ := hrel
    by_cases hlt : j < cs.length
    · go_wp2_with fail
      refine (markText (k0 + j) _ (by omega) (by omega)).mono ?_
      rintro e w1 ⟨rfl, hb1⟩
      have hw1 := hwr.below hb1 hwr.lt
      have hc : w1.cell? ⟨g, j, none⟩ = some cs[j] := by rw [hw1.cell, marked_at _ _ _ hlt, List.getElem?_eq_getElem hlt]
      have hf : w1.frozen? ⟨g, j, none⟩ = false := hw1.frozen j
      have hb2 : But g w w1 := hb.trans (But.of_below hb1)
      go_wp2
      go_roundw
      case rel => exact ⟨j + 1, by omega, by go_num, int_of (by omega), by rw [← marked_step _ _ _ hlt]; exact hw1.set_ _ _, hb2.trans (But.set_ _ _ _ _)⟩
      case measure => simp [intOf]; omega
    · go_wp2
      go_ret
      have hjl : j = cs.length := by omega
      subst hjl
      exact ⟨rfl, hwr, hb⟩

theorem markRow (g k0 c n : Nat) (cs : List Value) (w : World) (hn : cs.length = n) (hw : Whole w g 9 cs.toArray) (h0 : 0 < k0) (h1 : k0 ≤ 4294967296) (hlen : n ≤ 4294967296) :
    Calls Tryd.prog 24 #[.slice (some ⟨g, 0, none⟩) n c, .int .i64 k0] w fun e w' => e = .returned (.int .i64 (k0 + n : Nat)) ∧ Whole w' g 9 (marked k0 n cs) ∧ But g w w' := by
  subst hn
  exact markStrings g k0 c cs w hw h0 h1 hlen
theorem marked_full_at (k0 j n : Nat) (cs : List Value) (hn : cs.length = n) (h : j < n) : (marked k0 n cs)[j]? = some (.string (mark (k0 + j))) := by
  subst hn
  rw [marked_full, List.getElem?_toArray, List.getElem?_map, List.getElem?_range h]
  rfl

set_option maxRecDepth 100000 in
set_option maxHeartbeats 400000 in
theorem heldStrings (g k0 c n : Nat) (w : World) (hw : ∀ j, j < n → w.cell? ⟨g, j, none⟩ = some (.string (mark (k0 + j)))) (hg : 0 < n → g < w.heap.size) (h0 : 0 < k0) (h1 : k0 ≤ 4294967296) (hlen : n ≤ 4294967296) :
    Calls Tryd.prog 25 #[.slice (some ⟨g, 0, none⟩) n c, .int .i64 k0] w fun e w' => e = .returned (.int .i64 (k0 + n : Nat)) ∧ Below w.heap.size w w' := by
  have HW := Lib.hid hw
  clear hw
  go_enter Tryd.func25, Tryd.ntmps25
  go_wp2
  go_loopw [1, 5] (fun q i wr => ∃ j : Nat, j ≤ n ∧ i = .int .i64 j ∧ q = .int .i64 (k0 + j : Nat) ∧ Below w.heap.size w wr) (fun _ i _ => n - (intOf i).toNat)
  case atStart => exact ⟨0, Nat.zero_le _, rfl, rfl, Below.refl _ _⟩
  case round =>
    obtain ⟨j, hj, rfl, rfl, hb⟩ := hrel
    by_cases hlt : j < n
    · have hc : wr.cell? ⟨g, j, none⟩ = some (.string (mark (k0 + j))) := (hb.cell (p := ⟨g, j, none⟩) (hg (by omega))).trans (HW.out j hlt)
      have cM : ∀ d os, Calls Tryd.prog 38 #[.int .i64 (k0 + j : Nat)] (Go.Sort.grow (redrawn wr d) os) fun e w'' => e = .returned (.string (mark (k0 + j))) ∧ ∃ p : Regrown, w'' = Go.Sort.grow (redrawn wr p.d) p.os := fun d os => Calls.regrown_of (markText (k0 + j) _ (by omega) (by omega))
      have kc := cell_regrown hc
      have hj0 : (0 : Int) ≤ j := by omega
      go_wp2
      refine wp_region_quiet_below (by kernel_rfl) (by kernel_rfl) ?_
      repeat (quiet_step (exact cM _ _))
      refine wpQuiet_nil ?_
      intro _ hw'
      obtain ⟨⟨dq, osq⟩, hw''⟩ := hw'
      subst hw''
      have hb3 := hb.trans ((below_regrown wr dq osq).mono hb.size)
      clear cM kc
      go_wp2
      go_roundw
      case rel => exact ⟨j + 1, by omega, by go_num, int_of (by omega), hb3⟩
      case measure => simp [intOf]; omega
    · go_wp2
      go_ret
      have hjl : j = n := by omega
      subst hjl
      exact ⟨rfl, hb⟩
end Go.Proofs.YtkhpfmgclnhggaaDoor
