/- The reference model's depth of an S-expression. -/
import Derived.Test.YtbnfdjhcakimhaaMax
import Derived.Test.YtbnfdjhcakimhaaSpecSx
namespace Go.Proofs.Ytbnfdjhcakimhaa
open Go.RowKit

mutual
def SX.depth : SX → Nat
  | .mk a l => if a.size = 0 then SX.depthL l + 1 else 0
def SX.depthL : List SX → Nat
  | [] => 0
  | x :: r => max x.depth (SX.depthL r)
end
theorem SX.depth_eq (x : SX) : x.depth = if x.atom.size = 0 then SX.depthL x.list + 1 else 0 := by cases x; rw [SX.depth]; rfl
theorem SX.depthL_take : ∀ (l : List SX) (j : Nat) (h : j < l.length), SX.depthL (l.take (j + 1)) = max (SX.depthL (l.take j)) l[j].depth
  | x :: r, 0, _ => by simp [SX.depthL]
  | x :: r, j + 1, h => by
    have := SX.depthL_take r j (by simpa using h)
    rw [List.take_succ_cons, List.take_succ_cons, SX.depthL, SX.depthL, this]
    simp
mutual
theorem SX.depth_le : ∀ (x : SX), x.depth ≤ x.nodes
  | .mk a l => by have := SX.depthL_le l; rw [SX.depth, SX.nodes]; split <;> omega
theorem SX.depthL_le : ∀ (l : List SX), SX.depthL l ≤ SX.nodesL l
  | [] => by rw [SX.depthL, SX.nodesL]; omega
  | x :: r => by have := SX.depth_le x; have := SX.depthL_le r; rw [SX.depthL, SX.nodesL]; omega
end
theorem empty_of {a : ByteArray} (h : a.size = 0) : a = ByteArray.empty := ByteArray.size_eq_zero_iff.1 h
theorem nonempty_of {a : ByteArray} (h : a.size ≠ 0) : a.toList.isEmpty = false := by
  rw [ByteArray.toList_eq, List.isEmpty_eq_false_iff]; intro e; apply h; have := congrArg List.length e; simpa using this

def DepthX (N : Nat) : Prop := ∀ (x : SX) (A : Option Addr) (c : Nat) (w : World), x.nodes ≤ N → x.nodes ≤ 4294967296 → ListAt w (Lt w.heap.size) A x.list →
  Calls Try.prog 27 #[.agg #[.string x.atom, .slice A x.list.length c]] w fun e w' => e = .returned (.int .i64 x.depth) ∧ Below w.heap.size w w'

set_option maxRecDepth 100000 in
set_option maxHeartbeats 1000000 in
theorem depthX : ∀ N, DepthX N
  | 0 => fun x A c w hn => by rw [SX.nodes_eq] at hn; omega
  | N + 1 => by
    intro x A c w hn hm hl
    have ih := depthX N
    have hne := SX.nodes_eq x
    have hll := SX.nodesL_length x.list
    have hdn := SX.depthL_le x.list
    have hlen : x.list.length ≤ 4294967296 := by omega
    have hde := SX.depth_eq x
    by_cases ha : x.atom.size = 0
    · rw [if_pos ha] at hde
      have HL := Lib.hid hl
      have HE := Lib.hid hne
      have HD := Lib.hid hde
      have HN := Lib.hid hdn
      clear hl hne hde hdn
      rw [empty_of ha]
      clear ha
      go_enter Try.func27, Try.ntmps27
      go_wp2
      go_loopw [3, 4] (fun nv iv wr => ∃ k : Nat, k ≤ x.list.length ∧ iv = .int .i64 k ∧ nv = .int .i64 (SX.depthL (x.list.take k) : Nat) ∧ Below (w.alloc (.cells #[.string ByteArray.empty, .slice A x.list.length c] 26)).heap.size (w.alloc (.cells #[.string ByteArray.empty, .slice A x.list.length c] 26)) wr) (fun _ iv _ => x.list.length - (intOf iv).toNat)
      case atStart => exact ⟨0, Nat.zero_le _, rfl, by simp [SX.depthL], Below.refl _ _⟩
      case round =>
        obtain ⟨k, hk, rfl, rfl, hb⟩ := hrel
        obtain ⟨b0, b1, hbw⟩ := boxed hb
        by_cases hlt : k < x.list.length
        · obtain ⟨b, o, A', c', rfl, hP, hc0, hc1, hl'⟩ := (boxedList HL.out hb).at_ hlt
          have hst := SX.depthL_take x.list k hlt
          have hx : x.list[k].nodes ≤ N := by have := SX.nodesL_at x.list k hlt; have := HE.out; omega
          have hsm : x.list[k].nodes ≤ 4294967296 := by have := SX.nodesL_at x.list k hlt; have := HE.out; omega
          have HS := Lib.hid hst
          have HX := Lib.hid hl'
          clear hst hl'
          go_wp2_with fail
          refine (ih x.list[k] A' c' _ hx hsm HX.out).mono ?_
          rintro e w1 ⟨rfl, hb1⟩
          have hb2 := hb.trans (hb1.mono hb.size)
          go_wp2_with fail
          refine (maxOf _ _ _).mono ?_
          rintro e w2 ⟨rfl, rfl⟩
          go_wp2
          go_roundw
          case rel => exact ⟨k + 1, by omega, by go_num, int_of (by rw [HS.out]), hb2⟩
          case measure => simp [intOf]; omega
        · have hkl : k = x.list.length := by omega
          subst hkl
          rw [List.take_length]
          have hdb : SX.depthL x.list ≤ 4294967296 := by have := HN.out; have := HE.out; omega
          go_wp2
          go_ret
          exact ⟨ret_int (by rw [HD.out]; omega), hbw⟩
    · rw [if_neg ha] at hde
      have HD := Lib.hid hde
      have hne := nonempty_of ha
      clear hde hl
      go_enter Try.func27, Try.ntmps27
      go_wp2
      go_ret
      exact ⟨ret_int (by rw [HD.out]; rfl), (Below.refl _ _).alloc (Nat.le_refl _) _⟩
end Go.Proofs.Ytbnfdjhcakimhaa
