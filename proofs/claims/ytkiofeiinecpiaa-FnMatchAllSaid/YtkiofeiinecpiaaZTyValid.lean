/- The types that respect their limits: the reference model's IsValidType. -/
import Derived.Test.YtkiofeiinecpiaaZTyForm
import Derived.Test.YtkiofeiinecpiaaQ1
namespace Go.Proofs.Ytkiofeiinecpiaa
open Go.RowKit Go.Lib

mutual
theorem TypeX.depth_size : ∀ x : TypeX, x.depth + 1 ≤ x.size
  | .mk k s l => by
    rw [TypeX.depth, TypeX.size]
    have := TypeX.depthL_size l
    omega
theorem TypeX.depthL_size : ∀ l : List TypeX, TypeX.depthL l ≤ TypeX.sizeL l
  | [] => by rw [TypeX.depthL, TypeX.sizeL]; omega
  | x :: r => by
    rw [TypeX.depthL, TypeX.sizeL]
    have h1 := TypeX.depth_size x
    have h2 := TypeX.depthL_size r
    omega
end
/-- A valid type. -/
def TypeX.valid (x : TypeX) : Bool := decide (x.size ≤ 60) && (decide (x.depth ≤ 6) && x.form)

set_option maxRecDepth 100000 in
set_option maxHeartbeats 2000000 in
theorem specValidTy (x : TypeX) (v : Value) (w : World) (hok : DV.okL x.cells) (hv : TypeAt w (Und w.heap.size) x v) : Calls Try.prog 84 #[v] w fun e w' => e = .returned (.bool x.valid) ∧ Below w.heap.size w w' := by
  have hds := TypeX.depth_size x
  have hv0 := hv
  obtain ⟨A2, c2, rfl, h2⟩ := hv0
  have hb0 : Below w.heap.size w (w.alloc (.cells #[.int .i64 x.kind_, .string x.name_, .slice A2 x.args_.length c2] 26)) := (Below.refl _ _).alloc (Nat.le_refl _) _
  have hx0 := Whole.new w 26 #[.int .i64 x.kind_, .string x.name_, .slice A2 x.args_.length c2]
  have HX0 := Lib.hid hx0
  have HV := Lib.hid (hv.grow hb0)
  have HB0 := Lib.hid hb0
  have HO := Lib.hid hok
  clear hv h2 hok hb0 hx0
  by_cases h1 : x.size ≤ 60
  · by_cases h3 : x.depth ≤ 6
    · have hz : x.valid = x.form := by rw [TypeX.valid, decide_eq_true h1, decide_eq_true h3]; rfl
      have HZ := Lib.hid hz
      have e1 : leftV 60 x.size = ((60 - x.size : Nat) : Int) := by rw [leftV_yes h1]; omega
      have E1 := Lib.hid e1
      have n1 : decide (((60 - x.size : Nat) : Int) ≥ 0) = true := by rw [decide_eq_true_eq]; omega
      have n2 : decide ((x.depth : Int) ≤ 6) = true := by rw [decide_eq_true_eq]; omega
      clear hz e1
      go_enter Try.func84, Try.ntmps84
      go_wp2_with fail
      refine (specLeft x _ 60 _ (by omega) HV.out).mono ?_
      rw [E1.out]
      rintro e w1 ⟨rfl, hb1⟩
      have c0w1 : w1.cell? ⟨w.heap.size, 0, none⟩ = some (.int .i64 x.kind_) := by rw [(HX0.out.below hb1 HX0.out.lt).cell]; rfl
      have c1w1 : w1.cell? ⟨w.heap.size, 1, none⟩ = some (.string x.name_) := by rw [(HX0.out.below hb1 HX0.out.lt).cell]; rfl
      have c2w1 : w1.cell? ⟨w.heap.size, 2, none⟩ = some (.slice A2 x.args_.length c2) := by rw [(HX0.out.below hb1 HX0.out.lt).cell]; rfl
      go_wp2_with fail
      refine (specTyDepth x _ _ (by omega) (HV.out.grow hb1)).mono ?_
      rintro e w2 ⟨rfl, hb2⟩
      have hb := hb1.trans (hb2.mono hb1.size)
      have c0w2 : w2.cell? ⟨w.heap.size, 0, none⟩ = some (.int .i64 x.kind_) := by rw [(HX0.out.below hb HX0.out.lt).cell]; rfl
      have c1w2 : w2.cell? ⟨w.heap.size, 1, none⟩ = some (.string x.name_) := by rw [(HX0.out.below hb HX0.out.lt).cell]; rfl
      have c2w2 : w2.cell? ⟨w.heap.size, 2, none⟩ = some (.slice A2 x.args_.length c2) := by rw [(HX0.out.below hb HX0.out.lt).cell]; rfl
      go_wp2_with fail
      refine (specForm x _ _ HO.out (HV.out.grow hb)).mono ?_
      rintro e w3 ⟨rfl, hb3⟩
      have hb' := hb.trans (hb3.mono hb.size)
      go_wp2
      go_ret
      exact ⟨congrArg (fun b => Ending.returned (.bool b)) HZ.out.symm, HB0.out.trans (hb'.mono HB0.out.size)⟩
    · have hz : x.valid = false := by rw [TypeX.valid, decide_eq_true h1, decide_eq_false h3]; rfl
      have HZ := Lib.hid hz
      have e1 : leftV 60 x.size = ((60 - x.size : Nat) : Int) := by rw [leftV_yes h1]; omega
      have E1 := Lib.hid e1
      have n2 : decide ((x.depth : Int) ≤ 6) = false := by rw [decide_eq_false_iff_not]; omega
      clear hz e1
      go_enter Try.func84, Try.ntmps84
      go_wp2_with fail
      refine (specLeft x _ 60 _ (by omega) HV.out).mono ?_
      rw [E1.out]
      rintro e w1 ⟨rfl, hb1⟩
      have c0w1 : w1.cell? ⟨w.heap.size, 0, none⟩ = some (.int .i64 x.kind_) := by rw [(HX0.out.below hb1 HX0.out.lt).cell]; rfl
      have c1w1 : w1.cell? ⟨w.heap.size, 1, none⟩ = some (.string x.name_) := by rw [(HX0.out.below hb1 HX0.out.lt).cell]; rfl
      have c2w1 : w1.cell? ⟨w.heap.size, 2, none⟩ = some (.slice A2 x.args_.length c2) := by rw [(HX0.out.below hb1 HX0.out.lt).cell]; rfl
      go_wp2_with fail
      refine (specTyDepth x _ _ (by omega) (HV.out.grow hb1)).mono ?_
      rintro e w2 ⟨rfl, hb2⟩
      have hb := hb1.trans (hb2.mono hb1.size)
      go_wp2
      go_ret
      exact ⟨congrArg (fun b => Ending.returned (.bool b)) HZ.out.symm, HB0.out.trans (hb.mono HB0.out.size)⟩
  · have hz : x.valid = false := by rw [TypeX.valid, decide_eq_false h1]; rfl
    have HZ := Lib.hid hz
    have e1 : leftV 60 x.size = -1 := leftV_no (by omega)
    have E1 := Lib.hid e1
    clear hz e1
    go_enter Try.func84, Try.ntmps84
    go_wp2_with fail
    refine (specLeft x _ 60 _ (by omega) HV.out).mono ?_
    rw [E1.out]
    rintro e w1 ⟨rfl, hb1⟩
    go_wp2
    go_ret
    exact ⟨congrArg (fun b => Ending.returned (.bool b)) HZ.out.symm, HB0.out.trans (hb1.mono HB0.out.size)⟩
end Go.Proofs.Ytkiofeiinecpiaa
