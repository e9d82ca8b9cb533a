/- The reference model's functions over an S-expression: size, depth, nodes left, form, validity. -/
import Derived.Test.YtbnfdjhcakimhaaSx
import Derived.Test.YtbnfdjhcakimhaaProg
import Derived.Outline
namespace Go.Proofs.Ytbnfdjhcakimhaa
open Go.RowKit

/-- The boxed parameter's block, and what the loop reads of it. -/
theorem boxed {w wr : World} {t : TypeId} {a : ByteArray} {A : Option Addr} {n c : Nat} (hb : Below (w.alloc (.cells #[.string a, .slice A n c] t)).heap.size (w.alloc (.cells #[.string a, .slice A n c] t)) wr) :
    wr.cell? ⟨w.heap.size, 0, none⟩ = some (.string a) ∧ wr.cell? ⟨w.heap.size, 1, none⟩ = some (.slice A n c) ∧ Below w.heap.size w wr := by
  have h := (Whole.new w t #[.string a, .slice A n c]).below hb (by simp)
  refine ⟨by rw [h.cell]; rfl, by rw [h.cell]; rfl, ?_⟩
  exact ((Below.refl _ _).alloc (Nat.le_refl _) _).trans (hb.mono (by simp))
theorem boxedList {w wr : World} {t : TypeId} {a : ByteArray} {A : Option Addr} {n c : Nat} {l : List SX} (hl : ListAt w (Lt w.heap.size) A l) (hb : Below (w.alloc (.cells #[.string a, .slice A n c] t)).heap.size (w.alloc (.cells #[.string a, .slice A n c] t)) wr) : ListAt wr (Lt wr.heap.size) A l := by
  have h1 : Below w.heap.size w wr := (boxed hb).2.2
  exact hl.grow h1

def SizeX (N : Nat) : Prop := ∀ (x : SX) (A : Option Addr) (c : Nat) (w : World), x.nodes ≤ N → x.nodes ≤ 4294967296 → ListAt w (Lt w.heap.size) A x.list →
  Calls Try.prog 33 #[.agg #[.string x.atom, .slice A x.list.length c]] w fun e w' => e = .returned (.int .i64 x.nodes) ∧ Below w.heap.size w w'

theorem SX.nodesL_take : ∀ (l : List SX) (j : Nat) (h : j < l.length), SX.nodesL (l.take (j + 1)) = SX.nodesL (l.take j) + l[j].nodes
  | x :: r, 0, _ => by simp [SX.nodesL]
  | x :: r, j + 1, h => by
    have := SX.nodesL_take r j (by simpa using h)
    rw [List.take_succ_cons, List.take_succ_cons, SX.nodesL, SX.nodesL, this]
    simp; omega
theorem SX.nodesL_le : ∀ (l : List SX) (j : Nat), SX.nodesL (l.take j) ≤ SX.nodesL l
  | [], j => by simp
  | x :: r, 0 => by simp [SX.nodesL]
  | x :: r, j + 1 => by
    have := SX.nodesL_le r j
    rw [List.take_succ_cons, SX.nodesL, SX.nodesL]; omega
theorem SX.nodesL_length : ∀ (l : List SX), l.length ≤ SX.nodesL l
  | [] => by simp [SX.nodesL]
  | x :: r => by have := SX.nodesL_length r; have := SX.nodes_eq x; rw [SX.nodesL, List.length_cons]; omega

set_option maxRecDepth 100000 in
set_option maxHeartbeats 1000000 in
theorem sizeX : ∀ N, SizeX N
  | 0 => fun x A c w hn => by rw [SX.nodes_eq] at hn; omega
  | N + 1 => by
    intro x A c w hn hm hl
    have ih := sizeX N
    have hne := SX.nodes_eq x
    have hll := SX.nodesL_length x.list
    have hlen : x.list.length ≤ 4294967296 := by omega
    have HL := Lib.hid hl
    have HE := Lib.hid hne
    clear hl hne
    go_enter Try.func33, Try.ntmps33
    go_wp2
    go_loopw [3, 4] (fun nv iv wr => ∃ k : Nat, k ≤ x.list.length ∧ iv = .int .i64 k ∧ nv = .int .i64 (1 + SX.nodesL (x.list.take k) : Nat) ∧ Below (w.alloc (.cells #[.string x.atom, .slice A x.list.length c] 26)).heap.size (w.alloc (.cells #[.string x.atom, .slice A x.list.length c] 26)) wr) (fun _ iv _ => x.list.length - (intOf iv).toNat)
    case atStart => exact ⟨0, Nat.zero_le _, rfl, by simp [SX.nodesL], Below.refl _ _⟩
    case round =>
      obtain ⟨k, hk, rfl, rfl, hb⟩ := hrel
      obtain ⟨b0, b1, hbw⟩ := boxed hb
      by_cases hlt : k < x.list.length
      · obtain ⟨b, o, A', c', rfl, hP, hc0, hc1, hl'⟩ := (boxedList HL.out hb).at_ hlt
        have hst := SX.nodesL_take x.list k hlt
        have hle := SX.nodesL_le x.list (k + 1)
        have hx : x.list[k].nodes ≤ N := by have := SX.nodesL_at x.list k hlt; have := HE.out; omega
        have hsum : 1 + SX.nodesL (x.list.take k) + x.list[k].nodes ≤ 4294967296 := by have := HE.out; omega
        have HS := Lib.hid hst
        have HX := Lib.hid hl'
        clear hst hle hl'
        go_wp2_with fail
        refine (ih x.list[k] A' c' _ hx (by omega) HX.out).mono ?_
        rintro e w1 ⟨rfl, hb1⟩
        have hb2 := hb.trans (hb1.mono hb.size)
        go_wp2
        go_roundw
        case rel => exact ⟨k + 1, by omega, by go_num, int_of (by rw [HS.out]; omega), hb2⟩
        case measure => simp [intOf]; omega
      · have hkl : k = x.list.length := by omega
        subst hkl
        rw [List.take_length]
        go_wp2
        go_ret
        exact ⟨ret_int (by rw [HE.out]), hbw⟩
end Go.Proofs.Ytbnfdjhcakimhaa
