/- A type's nodes taken from what is left: the reference model's. -/
import Derived.Test.YtenjlgcdbnddjaaTySize
namespace Go.Proofs.Ytenjlgcdbnddjaa
open Go.RowKit Go.Lib

set_option maxRecDepth 100000 in
set_option maxHeartbeats 2000000 in
theorem specLeft_step (N : Nat) (ih : ∀ (y : TypeX) (v : Value) (L : Nat) (w : World), DV.nodesL y.cells < N → L ≤ 4294967296 → TypeAt w (Und w.heap.size) y v → Calls Try.prog 40 #[v, .int .i64 L] w fun e w' => e = .returned (.int .i64 (leftV L y.size)) ∧ Below w.heap.size w w') :
    ∀ (x : TypeX) (v : Value) (L : Nat) (w : World), DV.nodesL x.cells ≤ N → L ≤ 4294967296 → TypeAt w (Und w.heap.size) x v → Calls Try.prog 40 #[v, .int .i64 L] w fun e w' => e = .returned (.int .i64 (leftV L x.size)) ∧ Below w.heap.size w w' := by
  intro x v L w hn hL hv
  obtain ⟨A2, c2, rfl, h2⟩ := hv
  have hcap := h2.cap
  rw [TypeX.nodes_eq] at hn
  have hb0 : Below w.heap.size w (w.alloc (.cells #[.int .i64 x.kind_, .string x.name_, .slice A2 x.args_.length c2] 26)) := (Below.refl _ _).alloc (Nat.le_refl _) _
  have hx0 := Whole.new w 26 #[.int .i64 x.kind_, .string x.name_, .slice A2 x.args_.length c2]
  have hr0 := h2.grow hb0
  have hse := TypeX.size_eq x
  have HSE := Lib.hid hse
  have HX0 := Lib.hid hx0
  have HR0 := Lib.hid hr0
  have HN := Lib.hid hn
  clear h2 hn hx0 hr0 hse
  go_enter Try.func40, Try.ntmps40
  go_wp2
  go_loopw [1, 5] (fun qv iv wr => ∃ (k : Nat) (q : Int), k ≤ x.args_.length ∧ iv = .int .i64 k ∧ qv = .int .i64 q ∧ ((q = -1 ∧ L < x.size) ∨ ∃ n : Nat, q = n ∧ n + 1 + TypeX.sizeL (x.args_.take k) = L) ∧ Whole wr w.heap.size 26 #[.int .i64 x.kind_, .string x.name_, .slice A2 x.args_.length c2] ∧ TypeRow wr (Und wr.heap.size) A2 c2 x.args_ ∧ Below w.heap.size w wr) (fun _ iv _ => x.args_.length - (Go.RowKit.intOf iv).toNat)
  case atStart =>
    refine ⟨0, (L : Int) - 1, Nat.zero_le _, rfl, rfl, ?_, HX0.out, HR0.out, hb0⟩
    by_cases h0 : L = 0
    · exact .inl ⟨by omega, by have := HSE.out; omega⟩
    · exact .inr ⟨L - 1, by omega, by simp [TypeX.sizeL]; omega⟩
  case round =>
    clear HX0 HR0 hb0
    obtain ⟨k, q, hk, rfl, rfl, hq, hx, hr, hb⟩ := hrel
    have c2f : wr.cell? ⟨w.heap.size, 2, none⟩ = some (.slice A2 x.args_.length c2) := by rw [hx.cell]; rfl
    have hxlt := hx.lt
    rcases hq with ⟨rfl, hno⟩ | ⟨n, rfl, hq⟩
    · have hz : leftV L x.size = -1 := leftV_no hno
      have HZ := Lib.hid hz
      clear hx hr hz
      by_cases hlt : k < x.args_.length
      · go_wp2
        go_ret
        exact ⟨ret_int HZ.out.symm, hb⟩
      · go_wp2
        go_ret
        exact ⟨ret_int HZ.out.symm, hb⟩
    · by_cases hlt : k < x.args_.length
      · obtain ⟨b, o, A2', c2', hA, hP, q0, q1, q2, k2⟩ := hr.at_ hlt
        subst hA
        have hnx : DV.nodesL x.args_[k].cells < N := by
          have h := nodesVE_at (TypeX.rows x.args_) k (by rw [TypeX.rows_length]; exact hlt)
          rw [TypeX.rows_at x.args_ k hlt] at h
          have := HN.out
          omega
        have hst := TypeX.sizeL_take x.args_ k hlt
        have hle := TypeX.sizeL_le x.args_ (k + 1)
        have hrel2 : (leftV n x.args_[k].size = -1 ∧ L < x.size) ∨ ∃ m : Nat, leftV n x.args_[k].size = m ∧ m + 1 + TypeX.sizeL (x.args_.take (k + 1)) = L := by
          by_cases h : x.args_[k].size ≤ n
          · exact .inr ⟨n - x.args_[k].size, by rw [leftV_yes h]; omega, by omega⟩
          · exact .inl ⟨leftV_no (by omega), by have := HSE.out; omega⟩
        have hnL : n ≤ 4294967296 := by omega
        have HR2 := Lib.hid hrel2
        have HX := Lib.hid hx
        have HR := Lib.hid hr
        have HK := Lib.hid k2
        clear hx hr k2 hst hle hrel2 hq
        go_wp2_with fail
        refine (ih x.args_[k] _ n _ hnx hnL ⟨_, _, rfl, HK.out⟩).mono ?_
        rintro e w1 ⟨rfl, hb1⟩
        have hb2 := hb.trans (hb1.mono hb.size)
        have hx1 := HX.out.below hb1 HX.out.lt
        have hr1 := HR.out.grow hb1
        have HX1 := Lib.hid hx1
        have HR1 := Lib.hid hr1
        clear hx1 hr1 hb1
        go_wp2
        go_roundw
        case rel => exact ⟨k + 1, _, by omega, by go_num, rfl, HR2.out, HX1.out, HR1.out, hb2⟩
        case measure => simp [Go.RowKit.intOf]; omega
      · have hkl : k = x.args_.length := by omega
        subst hkl
        rw [List.take_length] at hq
        have hz : leftV L x.size = n := by have := HSE.out; rw [leftV_yes (by omega)]; omega
        have HZ := Lib.hid hz
        clear hx hr hz hq
        go_wp2
        go_ret
        exact ⟨ret_int HZ.out.symm, hb⟩
theorem specLeftAll : ∀ (N : Nat) (x : TypeX) (v : Value) (L : Nat) (w : World), DV.nodesL x.cells ≤ N → L ≤ 4294967296 → TypeAt w (Und w.heap.size) x v → Calls Try.prog 40 #[v, .int .i64 L] w fun e w' => e = .returned (.int .i64 (leftV L x.size)) ∧ Below w.heap.size w w'
  | 0 => specLeft_step 0 (fun _ _ _ _ h => absurd h (Nat.not_lt_zero _))
  | N + 1 => specLeft_step (N + 1) (fun y v L w h => specLeftAll N y v L w (Nat.le_of_lt_succ h))
theorem specLeft (x : TypeX) (v : Value) (L : Nat) (w : World) (hL : L ≤ 4294967296) (hv : TypeAt w (Und w.heap.size) x v) : Calls Try.prog 40 #[v, .int .i64 L] w fun e w' => e = .returned (.int .i64 (leftV L x.size)) ∧ Below w.heap.size w w' := specLeftAll _ x v L w (Nat.le_refl _) hL hv
end Go.Proofs.Ytenjlgcdbnddjaa
