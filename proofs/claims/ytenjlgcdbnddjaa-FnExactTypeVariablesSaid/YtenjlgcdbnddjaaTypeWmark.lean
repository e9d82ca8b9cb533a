/- The laws' mark over Type by value. -/
import Derived.Test.YtenjlgcdbnddjaaTypeMark
import Derived.Outline
namespace Go.Proofs.Ytenjlgcdbnddjaa
open Go.RowKit Go.Lib

theorem TypeX.tcnt_eq (x : TypeX) : tcntL x.cells = DV.cntE (TypeX.rows x.args_) := by
  rw [TypeX.cells_eq]
  simp only [tcntL, DV.tcnt]
  omega
theorem TypeX.tmk_eq (x : TypeX) (k : Nat) : tmkL k x.cells = [.pl (.int .i64 x.kind_), .pl (.string x.name_), .row 26 3 (vmkE (k) (TypeX.rows x.args_))] := by
  rw [TypeX.cells_eq]
  simp only [tmkL, DV.tmk, DV.tcnt, Nat.add_zero]
set_option maxRecDepth 100000 in
set_option maxHeartbeats 2000000 in
theorem markVType (x : TypeX) (vs : List Value) (k B : Nat) (bs : List Nat) (w : World) (hO : OwVs w B x.cells vs bs) (hnd : bs.Nodup) (hk0 : 0 < k) (hk : k + tcntL x.cells ≤ 4294967296) :
    Calls Try.prog 32 #[.agg vs.toArray, .int .i64 k] w fun e w' => e = .returned (.int .i64 (k + tcntL x.cells : Nat)) ∧ OwVs w' B (tmkL k x.cells) vs bs ∧ ButV bs w w' := by
  rw [TypeX.tcnt_eq] at hk ⊢
  rw [TypeX.tmk_eq]
  rw [TypeX.cells_eq] at hO
  have hO2 := hO
  simp only [OwVs] at hO2
  obtain ⟨v0, _, y0, _, z0, -, h0, v1, _, y1, _, z1, -, h1, v2, _, y2, _, z2, -, h2, z3, -⟩ := hO2
  subst z3 z2 z1 z0
  rw [OwV] at h0
  obtain ⟨rfl, -⟩ := h0
  rw [OwV] at h1
  obtain ⟨rfl, -⟩ := h1
  obtain ⟨A2, c2, rfl⟩ := OwV_shape h2 (TypeX.rows_length _)
  clear h2
  have hb0 : Below w.heap.size w (w.alloc (.cells #[.int .i64 x.kind_, .string x.name_, .slice A2 x.args_.length c2] 26)) := (Below.refl _ _).alloc (Nat.le_refl _) _
  have hO := OwVs_below hO hb0
  have hb := ButV.of_below (bs := bs) hb0
  have HND := Lib.hid hnd
  clear hnd hb0
  go_enter Try.func32, Try.ntmps32
  go_wp2_with fail
  obtain ⟨v, bd, hv, hod, hndd, hsub, hput⟩ := OwVs_focus hO HND.out (c := 2) rfl
  obtain rfl : .slice A2 x.args_.length c2 = v := Option.some.inj hv
  refine (markTypeS x.args_ A2 c2 (k) B bd _ hod hndd (by omega) (by omega)).mono ?_
  rintro e w1 ⟨rfl, hO3, hb3⟩
  have hO := hput w1 _ hO3 (fun b hm hn => hb3.block b (OwVs_lt _ hO b hm).2 hn)
  have hb := hb.trans (hb3.more hsub)
  have hO : OwVs w1 B [.pl (.int .i64 x.kind_), .pl (.string x.name_), .row 26 3 (vmkE (k) (TypeX.rows x.args_))] [.int .i64 x.kind_, .string x.name_, .slice A2 x.args_.length c2] bs := hO
  clear hO3 hb3 hput hsub hndd hod hv
  have HF := Lib.hid hO
  have HB := Lib.hid hb
  clear hO hb
  go_wp2
  go_ret
  exact ⟨rfl, HF.out, HB.out⟩
end Go.Proofs.Ytenjlgcdbnddjaa
