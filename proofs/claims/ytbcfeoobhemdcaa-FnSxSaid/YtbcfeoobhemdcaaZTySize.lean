/- The size of a type: the reference model's. -/
import Derived.Test.YtbcfeoobhemdcaaZTypeSz
import Derived.Test.YtbcfeoobhemdcaaQ1
namespace Go.Proofs.Ytbcfeoobhemdcaa
open Go.RowKit Go.Lib

mutual
def TypeX.size : TypeX → Nat
  | .mk _ _ l => 1 + TypeX.sizeL l
def TypeX.sizeL : List TypeX → Nat
  | [] => 0
  | x :: r => x.size + TypeX.sizeL r
end
theorem TypeX.size_eq (x : TypeX) : x.size = 1 + TypeX.sizeL x.args_ := by cases x with | mk a b c => rw [TypeX.size]; rfl
theorem TypeX.sizeL_take : ∀ (l : List TypeX) (j : Nat) (h : j < l.length), TypeX.sizeL (l.take (j + 1)) = TypeX.sizeL (l.take j) + l[j].size
  | x :: r, 0, _ => by simp [TypeX.sizeL]
  | x :: r, j + 1, h => by
    have := TypeX.sizeL_take r j (by simpa using h)
    rw [List.take_succ_cons, List.take_succ_cons, TypeX.sizeL, TypeX.sizeL, this]
    simp; omega
theorem TypeX.sizeL_le : ∀ (l : List TypeX) (j : Nat), TypeX.sizeL (l.take j) ≤ TypeX.sizeL l
  | [], j => by simp
  | x :: r, 0 => by simp [TypeX.sizeL]
  | x :: r, j + 1 => by
    have := TypeX.sizeL_le r j
    rw [List.take_succ_cons, TypeX.sizeL, TypeX.sizeL]; omega

set_option maxRecDepth 100000 in
set_option maxHeartbeats 2000000 in
theorem specTySize_step (N : Nat) (ih : ∀ (y : TypeX) (v : Value) (w : World), DV.nodesL y.cells < N → TypeX.size y ≤ 4294967296 → TypeAt w (Und w.heap.size) y v → Calls Try.prog 27 #[v] w fun e w' => e = .returned (.int .i64 (TypeX.size y : Nat)) ∧ Below w.heap.size w w') :
    ∀ (x : TypeX) (v : Value) (w : World), DV.nodesL x.cells ≤ N → TypeX.size x ≤ 4294967296 → TypeAt w (Und w.heap.size) x v → Calls Try.prog 27 #[v] w fun e w' => e = .returned (.int .i64 (TypeX.size x : Nat)) ∧ Below w.heap.size w w' := by
  intro x v w hn hs0 hv
  obtain ⟨A2, c2, rfl, h2⟩ := hv
  have hcap := h2.cap
  rw [TypeX.nodes_eq] at hn
  have hb0 : Below w.heap.size w (w.alloc (.cells #[.int .i64 x.kind_, .string x.name_, .slice A2 x.args_.length c2] 35)) := (Below.refl _ _).alloc (Nat.le_refl _) _
  have hx0 := Whole.new w 35 #[.int .i64 x.kind_, .string x.name_, .slice A2 x.args_.length c2]
  have hr0 := h2.grow hb0
  have HX0 := Lib.hid hx0
  have HR0 := Lib.hid hr0
  have HN := Lib.hid hn
  have HS0 := Lib.hid hs0
  clear hs0
  clear h2 hn hx0 hr0
  go_enter Try.func27, Try.ntmps27
  go_wp2
  go_loopw [3, 4] (fun mv iv wr => ∃ k m : Nat, k ≤ x.args_.length ∧ iv = .int .i64 k ∧ m = 1 + TypeX.sizeL (x.args_.take k) ∧ mv = .int .i64 m ∧ Whole wr w.heap.size 35 #[.int .i64 x.kind_, .string x.name_, .slice A2 x.args_.length c2] ∧ TypeRow wr (Und wr.heap.size) A2 c2 x.args_ ∧ Below w.heap.size w wr) (fun _ iv _ => x.args_.length - (Go.RowKit.intOf iv).toNat)
  case atStart => exact ⟨0, 1, Nat.zero_le _, rfl, by simp [TypeX.sizeL], rfl, HX0.out, HR0.out, hb0⟩
  case round =>
    clear HX0 HR0 hb0
    obtain ⟨k, m, hk, rfl, hm, rfl, hx, hr, hb⟩ := hrel
    have c2f : wr.cell? ⟨w.heap.size, 2, none⟩ = some (.slice A2 x.args_.length c2) := by rw [hx.cell]; rfl
    have hxlt := hx.lt
    by_cases hlt : k < x.args_.length
    · obtain ⟨b, o, A2', c2', hA, hP, q0, q1, q2, k2⟩ := hr.at_ hlt
      subst hA
      have hnx : DV.nodesL x.args_[k].cells < N := by
        have h := nodesVE_at (TypeX.rows x.args_) k (by rw [TypeX.rows_length]; exact hlt)
        rw [TypeX.rows_at x.args_ k hlt] at h
        have := HN.out
        omega
      have hst := TypeX.sizeL_take x.args_ k hlt
      have hle := TypeX.sizeL_le x.args_ (k + 1)
      have hse := TypeX.size_eq x
      have hs1 : m + x.args_[k].size ≤ 4294967296 := by have := HS0.out; omega
      have hm2 : m + x.args_[k].size = 1 + TypeX.sizeL (x.args_.take (k + 1)) := by omega
      have HM := Lib.hid hm2
      clear hst hle hse hm2 hm
      have HX := Lib.hid hx
      have HR := Lib.hid hr
      have HK := Lib.hid k2
      clear hx hr k2
      go_wp2_with fail
      refine (ih x.args_[k] _ _ hnx (by omega) ⟨_, _, rfl, HK.out⟩).mono ?_
      rintro e w1 ⟨rfl, hb1⟩
      have hb2 := hb.trans (hb1.mono hb.size)
      have hx1 := HX.out.below hb1 HX.out.lt
      have hr1 := HR.out.grow hb1
      have HX1 := Lib.hid hx1
      have HR1 := Lib.hid hr1
      clear hx1 hr1 hb1
      go_wp2
      go_roundw
      case rel => exact ⟨k + 1, m + x.args_[k].size, by omega, by go_num, HM.out, int_of (by omega), HX1.out, HR1.out, hb2⟩
      case measure => simp [Go.RowKit.intOf]; omega
    · have hkl : k = x.args_.length := by omega
      subst hkl
      rw [List.take_length] at hm
      have c0f : wr.cell? ⟨w.heap.size, 0, none⟩ = some (.int .i64 x.kind_) := by rw [hx.cell]; rfl
      rw [← TypeX.size_eq] at hm
      have HM := Lib.hid hm
      clear hm hx hr
      go_wp2
      go_ret
      exact ⟨ret_int (by rw [HM.out]), hb⟩
theorem specTySizeAll : ∀ (N : Nat) (x : TypeX) (v : Value) (w : World), DV.nodesL x.cells ≤ N → TypeX.size x ≤ 4294967296 → TypeAt w (Und w.heap.size) x v → Calls Try.prog 27 #[v] w fun e w' => e = .returned (.int .i64 (TypeX.size x : Nat)) ∧ Below w.heap.size w w'
  | 0 => specTySize_step 0 (fun _ _ _ h => absurd h (Nat.not_lt_zero _))
  | N + 1 => specTySize_step (N + 1) (fun y v w h => specTySizeAll N y v w (Nat.le_of_lt_succ h))
theorem specTySize (x : TypeX) (v : Value) (w : World) : TypeX.size x ≤ 4294967296 → TypeAt w (Und w.heap.size) x v → Calls Try.prog 27 #[v] w fun e w' => e = .returned (.int .i64 (TypeX.size x : Nat)) ∧ Below w.heap.size w w' := specTySizeAll _ x v w (Nat.le_refl _)
end Go.Proofs.Ytbcfeoobhemdcaa
