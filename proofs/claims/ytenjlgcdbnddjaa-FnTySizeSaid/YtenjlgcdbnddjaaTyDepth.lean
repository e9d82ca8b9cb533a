/- The depth of a type: the reference model's. -/
import Derived.Test.YtenjlgcdbnddjaaTypeSz
import Derived.Test.YtenjlgcdbnddjaaMem
import Derived.Test.YtenjlgcdbnddjaaMax
namespace Go.Proofs.Ytenjlgcdbnddjaa
open Go.RowKit Go.Lib

mutual
def TypeX.depth : TypeX → Nat
  | .mk _ _ l => TypeX.depthL l
def TypeX.depthL : List TypeX → Nat
  | [] => 0
  | x :: r => max (1 + x.depth) (TypeX.depthL r)
end
theorem TypeX.depth_eq (x : TypeX) : x.depth = TypeX.depthL x.args_ := by cases x with | mk a b c => rw [TypeX.depth]; rfl
theorem TypeX.depthL_take : ∀ (l : List TypeX) (j : Nat) (h : j < l.length), TypeX.depthL (l.take (j + 1)) = max (TypeX.depthL (l.take j)) (1 + l[j].depth)
  | x :: r, 0, _ => by simp [TypeX.depthL]
  | x :: r, j + 1, h => by
    have := TypeX.depthL_take r j (by simpa using h)
    rw [List.take_succ_cons, List.take_succ_cons, TypeX.depthL, TypeX.depthL, this]
    simp [Nat.max_assoc]
theorem TypeX.depthL_le : ∀ (l : List TypeX) (j : Nat), TypeX.depthL (l.take j) ≤ TypeX.depthL l
  | [], j => by simp
  | x :: r, 0 => by simp [TypeX.depthL]
  | x :: r, j + 1 => by
    have := TypeX.depthL_le r j
    rw [List.take_succ_cons, TypeX.depthL, TypeX.depthL]; omega

set_option maxRecDepth 100000 in
set_option maxHeartbeats 2000000 in
theorem specTyDepth_step (N : Nat) (ih : ∀ (y : TypeX) (v : Value) (w : World), DV.nodesL y.cells < N → TypeX.depth y ≤ 4294967296 → TypeAt w (Und w.heap.size) y v → Calls Try.prog 18 #[v] w fun e w' => e = .returned (.int .i64 (TypeX.depth y : Nat)) ∧ Below w.heap.size w w') :
    ∀ (x : TypeX) (v : Value) (w : World), DV.nodesL x.cells ≤ N → TypeX.depth x ≤ 4294967296 → TypeAt w (Und w.heap.size) x v → Calls Try.prog 18 #[v] w fun e w' => e = .returned (.int .i64 (TypeX.depth x : Nat)) ∧ Below w.heap.size w w' := by
  intro x v w hn hs0 hv
  obtain ⟨A2, c2, rfl, h2⟩ := hv
  have hcap := h2.cap
  rw [TypeX.nodes_eq] at hn
  have hb0 : Below w.heap.size w (w.alloc (.cells #[.int .i64 x.kind_, .string x.name_, .slice A2 x.args_.length c2] 26)) := (Below.refl _ _).alloc (Nat.le_refl _) _
  have hx0 := Whole.new w 26 #[.int .i64 x.kind_, .string x.name_, .slice A2 x.args_.length c2]
  have hr0 := h2.grow hb0
  have HX0 := Lib.hid hx0
  have HR0 := Lib.hid hr0
  have HN := Lib.hid hn
  have HS0 := Lib.hid hs0
  clear hs0
  clear h2 hn hx0 hr0
  go_enter Try.func18, Try.ntmps18
  go_wp2
  go_loopw [3, 4] (fun mv iv wr => ∃ k m : Nat, k ≤ x.args_.length ∧ iv = .int .i64 k ∧ m = TypeX.depthL (x.args_.take k) ∧ mv = .int .i64 m ∧ Whole wr w.heap.size 26 #[.int .i64 x.kind_, .string x.name_, .slice A2 x.args_.length c2] ∧ TypeRow wr (Und wr.heap.size) A2 c2 x.args_ ∧ Below w.heap.size w wr) (fun _ iv _ => x.args_.length - (Go.RowKit.intOf iv).toNat)
  case atStart => exact ⟨0, 0, Nat.zero_le _, rfl, by simp [TypeX.depthL], rfl, HX0.out, HR0.out, hb0⟩
  case round =>
    clear HX0 HR0 hb0
    obtain ⟨k, m, hk, rfl, hm, rfl, hx, hr, hb⟩ := hrel
    have c2f : wr.cell? ⟨w.heap.size, 2, none⟩ = some (.slice A2 x.args_.length c2) := by rw [hx.cell]; rfl
    have hxlt := hx.lt
    by_cases hlt : k < x.args_.length
    · obtain ⟨b, o, A2', c2', hA, hP, q0, q1, q2, k2⟩ := hr.at_ hlt
      subst hA
      have hnx : DV.nodesL x.args_[k].cells < N := by
        have h := nodesVE_at (TypeX.rows x.args_) k (by rw [TypeX.rows_length]; exact hlt)
        rw [TypeX.rows_at x.args_ k hlt] at h
        have := HN.out
        omega
      have hst := TypeX.depthL_take x.args_ k hlt
      have hle := TypeX.depthL_le x.args_ (k + 1)
      have hse := TypeX.depth_eq x
      have hs1 : x.args_[k].depth < 4294967296 ∧ m ≤ 4294967296 := by have := HS0.out; omega
      have hm2 : max m (1 + x.args_[k].depth) = TypeX.depthL (x.args_.take (k + 1)) := by rw [hst, hm]
      have hcast : (1 : Int) + (x.args_[k].depth : Nat) = ((1 + x.args_[k].depth : Nat) : Int) := by omega
      have HM := Lib.hid hm2
      have HC := Lib.hid hcast
      clear hst hle hse hm2 hm hcast
      have HX := Lib.hid hx
      have HR := Lib.hid hr
      have HK := Lib.hid k2
      clear hx hr k2
      go_wp2_with fail
      refine (ih x.args_[k] _ _ hnx (by omega) ⟨_, _, rfl, HK.out⟩).mono ?_
      rintro e w1 ⟨rfl, hb1⟩
      have hb2 := hb.trans (hb1.mono hb.size)
      have hx1 := HX.out.below hb1 HX.out.lt
      have hr1 := HR.out.grow hb1
      have HX1 := Lib.hid hx1
      have HR1 := Lib.hid hr1
      clear hx1 hr1 hb1
      go_wp2_with fail
      rw [HC.out]
      refine (maxOf m (1 + x.args_[k].depth) _).mono ?_
      rintro e w2 ⟨rfl, rfl⟩
      go_wp2
      go_roundw
      case rel => exact ⟨k + 1, max m (1 + x.args_[k].depth), by omega, by go_num, HM.out, rfl, HX1.out, HR1.out, hb2⟩
      case measure => simp [Go.RowKit.intOf]; omega
    · have hkl : k = x.args_.length := by omega
      subst hkl
      rw [List.take_length] at hm
      have c0f : wr.cell? ⟨w.heap.size, 0, none⟩ = some (.int .i64 x.kind_) := by rw [hx.cell]; rfl
      rw [← TypeX.depth_eq] at hm
      have HM := Lib.hid hm
      clear hm hx hr
      go_wp2
      go_ret
      exact ⟨ret_int (by rw [HM.out]), hb⟩
theorem specTyDepthAll : ∀ (N : Nat) (x : TypeX) (v : Value) (w : World), DV.nodesL x.cells ≤ N → TypeX.depth x ≤ 4294967296 → TypeAt w (Und w.heap.size) x v → Calls Try.prog 18 #[v] w fun e w' => e = .returned (.int .i64 (TypeX.depth x : Nat)) ∧ Below w.heap.size w w'
  | 0 => specTyDepth_step 0 (fun _ _ _ h => absurd h (Nat.not_lt_zero _))
  | N + 1 => specTyDepth_step (N + 1) (fun y v w h => specTyDepthAll N y v w (Nat.le_of_lt_succ h))
theorem specTyDepth (x : TypeX) (v : Value) (w : World) : TypeX.depth x ≤ 4294967296 → TypeAt w (Und w.heap.size) x v → Calls Try.prog 18 #[v] w fun e w' => e = .returned (.int .i64 (TypeX.depth x : Nat)) ∧ Below w.heap.size w w' := specTyDepthAll _ x v w (Nat.le_refl _)
end Go.Proofs.Ytenjlgcdbnddjaa
