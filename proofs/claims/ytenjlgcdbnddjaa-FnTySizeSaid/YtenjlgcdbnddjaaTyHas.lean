/- Does a type hold a projection: the reference model's. -/
import Derived.Test.YtenjlgcdbnddjaaTypeSz
import Derived.Test.YtenjlgcdbnddjaaMem
namespace Go.Proofs.Ytenjlgcdbnddjaa
open Go.RowKit Go.Lib

mutual
def TypeX.hasP : TypeX → Bool
  | .mk k _ l => TypeX.hasPL l || k == 3
def TypeX.hasPL : List TypeX → Bool
  | [] => false
  | x :: r => x.hasP || TypeX.hasPL r
end
theorem TypeX.hasP_eq (x : TypeX) : x.hasP = (TypeX.hasPL x.args_ || x.kind_ == 3) := by cases x with | mk a b c => rw [TypeX.hasP]; rfl
theorem TypeX.hasPL_take : ∀ (l : List TypeX) (j : Nat) (h : j < l.length), TypeX.hasPL (l.take (j + 1)) = (TypeX.hasPL (l.take j) || l[j].hasP)
  | x :: r, 0, _ => by simp [TypeX.hasPL]
  | x :: r, j + 1, h => by
    have := TypeX.hasPL_take r j (by simpa using h)
    rw [List.take_succ_cons, List.take_succ_cons, TypeX.hasPL, TypeX.hasPL, this]
    simp [Bool.or_assoc]
theorem TypeX.hasPL_up : ∀ (l : List TypeX) (j : Nat), TypeX.hasPL (l.take j) = true → TypeX.hasPL l = true
  | [], j, h => by simpa using h
  | x :: r, 0, h => by simp [TypeX.hasPL] at h
  | x :: r, j + 1, h => by
    rw [List.take_succ_cons, TypeX.hasPL, Bool.or_eq_true] at h
    rw [TypeX.hasPL, Bool.or_eq_true]
    exact h.imp id (TypeX.hasPL_up r j)

set_option maxRecDepth 100000 in
set_option maxHeartbeats 2000000 in
theorem specTyHas_step (N : Nat) (ih : ∀ (y : TypeX) (v : Value) (w : World), DV.nodesL y.cells < N → TypeAt w (Und w.heap.size) y v → Calls Try.prog 20 #[v] w fun e w' => e = .returned (.bool (TypeX.hasP y)) ∧ Below w.heap.size w w') :
    ∀ (x : TypeX) (v : Value) (w : World), DV.nodesL x.cells ≤ N → TypeAt w (Und w.heap.size) x v → Calls Try.prog 20 #[v] w fun e w' => e = .returned (.bool (TypeX.hasP x)) ∧ Below w.heap.size w w' := by
  intro x v w hn hv
  obtain ⟨A2, c2, rfl, h2⟩ := hv
  have hcap := h2.cap
  rw [TypeX.nodes_eq] at hn
  have hb0 : Below w.heap.size w (w.alloc (.cells #[.int .i64 x.kind_, .string x.name_, .slice A2 x.args_.length c2] 26)) := (Below.refl _ _).alloc (Nat.le_refl _) _
  have hx0 := Whole.new w 26 #[.int .i64 x.kind_, .string x.name_, .slice A2 x.args_.length c2]
  have hr0 := h2.grow hb0
  have HX0 := Lib.hid hx0
  have HR0 := Lib.hid hr0
  have HN := Lib.hid hn
  clear h2 hn hx0 hr0
  go_enter Try.func20, Try.ntmps20
  go_wp2
  go_loopw [3] (fun iv wr => ∃ k : Nat, k ≤ x.args_.length ∧ iv = .int .i64 k ∧ TypeX.hasPL (x.args_.take k) = false ∧ Whole wr w.heap.size 26 #[.int .i64 x.kind_, .string x.name_, .slice A2 x.args_.length c2] ∧ TypeRow wr (Und wr.heap.size) A2 c2 x.args_ ∧ Below w.heap.size w wr) (fun iv _ => x.args_.length - (Go.RowKit.intOf iv).toNat)
  case atStart => exact ⟨0, Nat.zero_le _, rfl, rfl, HX0.out, HR0.out, hb0⟩
  case round =>
    clear HX0 HR0 hb0
    obtain ⟨k, hk, rfl, hm, hx, hr, hb⟩ := hrel
    have c2f : wr.cell? ⟨w.heap.size, 2, none⟩ = some (.slice A2 x.args_.length c2) := by rw [hx.cell]; rfl
    have hxlt := hx.lt
    by_cases hlt : k < x.args_.length
    · obtain ⟨b, o, A2', c2', hA, hP, q0, q1, q2, k2⟩ := hr.at_ hlt
      subst hA
      have hnx : DV.nodesL x.args_[k].cells < N := by
        have h := nodesVE_at (TypeX.rows x.args_) k (by rw [TypeX.rows_length]; exact hlt)
        rw [TypeX.rows_at x.args_ k hlt] at h
        have := HN.out
        omega
      have hst := TypeX.hasPL_take x.args_ k hlt
      rw [hm, Bool.false_or] at hst
      have hup := TypeX.hasPL_up x.args_ (k + 1)
      rw [hst] at hup
      have HST := Lib.hid hst
      have HUP := Lib.hid hup
      clear hst hup hm
      have HX := Lib.hid hx
      have HR := Lib.hid hr
      have HK := Lib.hid k2
      clear hx hr k2
      go_wp2_with fail
      refine (ih x.args_[k] _ _ hnx ⟨_, _, rfl, HK.out⟩).mono ?_
      rintro e w1 ⟨rfl, hb1⟩
      have hb2 := hb.trans (hb1.mono hb.size)
      have hx1 := HX.out.below hb1 HX.out.lt
      have hr1 := HR.out.grow hb1
      have HX1 := Lib.hid hx1
      have HR1 := Lib.hid hr1
      clear hx1 hr1 hb1
      cases hp : x.args_[k].hasP with
      | true =>
        have hy : x.hasP = true := by rw [TypeX.hasP_eq, HUP.out hp]; rfl
        have HY := Lib.hid hy
        clear hp hy
        go_wp2
        go_ret
        exact ⟨congrArg (fun b => Ending.returned (.bool b)) HY.out.symm, hb2⟩
      | false =>
        have hf := HST.out.trans hp
        have HF := Lib.hid hf
        clear hp hf
        go_wp2
        go_roundw
        case rel => exact ⟨k + 1, by omega, by go_num, HF.out, HX1.out, HR1.out, hb2⟩
        case measure => simp [Go.RowKit.intOf]; omega
    · have hkl : k = x.args_.length := by omega
      subst hkl
      rw [List.take_length] at hm
      have c0f : wr.cell? ⟨w.heap.size, 0, none⟩ = some (.int .i64 x.kind_) := by rw [hx.cell]; rfl
      have hy : x.hasP = (x.kind_ == 3) := by rw [TypeX.hasP_eq, hm, Bool.false_or]
      have HY := Lib.hid hy
      clear hm hy hx hr
      go_wp2
      go_ret
      exact ⟨congrArg (fun b => Ending.returned (.bool b)) HY.out.symm, hb⟩
theorem specTyHasAll : ∀ (N : Nat) (x : TypeX) (v : Value) (w : World), DV.nodesL x.cells ≤ N → TypeAt w (Und w.heap.size) x v → Calls Try.prog 20 #[v] w fun e w' => e = .returned (.bool (TypeX.hasP x)) ∧ Below w.heap.size w w'
  | 0 => specTyHas_step 0 (fun _ _ _ h => absurd h (Nat.not_lt_zero _))
  | N + 1 => specTyHas_step (N + 1) (fun y v w h => specTyHasAll N y v w (Nat.le_of_lt_succ h))
theorem specTyHas (x : TypeX) (v : Value) (w : World) : TypeAt w (Und w.heap.size) x v → Calls Try.prog 20 #[v] w fun e w' => e = .returned (.bool (TypeX.hasP x)) ∧ Below w.heap.size w w' := specTyHasAll _ x v w (Nat.le_refl _)
end Go.Proofs.Ytenjlgcdbnddjaa
