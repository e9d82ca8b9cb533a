/- The program's IsValidType. -/
import Derived.Test.YtngbilblddngcaaDoorZTypesIn
import Derived.Test.YtngbilblddngcaaDoorQ2
import Derived.Test.YtngbilblddngcaaDoorZTySizeI
import Derived.Test.YtngbilblddngcaaDoorZTyDepthI
namespace Go.Proofs.YtngbilblddngcaaDoor
open Go.RowKit Go.Shelf Go.Lib
attribute [local go_sem] Oper.semAt_some

/-- Do these keep the depth and the rules? -/
def okW : List (Nat × TypeX) → Bool
  | [] => true
  | p :: r => (decide (p.1 ≤ 6) && headOk p.2.kind_ p.2.name_ p.2.args_.length) && okW r
theorem okW_app : ∀ (a b : List (Nat × TypeX)), okW (a ++ b) = (okW a && okW b)
  | [], b => by simp [okW]
  | p :: r, b => by rw [List.cons_append, okW, okW, okW_app r b]; simp only [Bool.and_assoc]
mutual
theorem TypeX.walk_ok (d : Nat) : ∀ x : TypeX, okW (x.walk d) = (decide (d + x.depth ≤ 6) && x.form)
  | .mk a b c => by
    rw [TypeX.walk, okW, TypeX.depth, TypeX.form]
    have h := TypeX.walkL_ok d c
    show ((decide (d ≤ 6) && headOk a b c.length) && okW (TypeX.walkL (d + 1) c)) = _
    rw [Bool.and_right_comm, h]
    cases headOk a b c.length <;> simp
theorem TypeX.walkL_ok (d : Nat) : ∀ l : List TypeX, (decide (d ≤ 6) && okW (TypeX.walkL (d + 1) l)) = (decide (d + TypeX.depthL l ≤ 6) && TypeX.formL l)
  | [] => by rw [TypeX.walkL, TypeX.depthL, TypeX.formL, okW]; rfl
  | x :: r => by
    rw [TypeX.walkL, TypeX.depthL, TypeX.formL, okW_app, TypeX.walk_ok (d + 1) x]
    have h := TypeX.walkL_ok d r
    have e : decide (d + max (1 + x.depth) (TypeX.depthL r) ≤ 6) = (decide (d + 1 + x.depth ≤ 6) && decide (d + TypeX.depthL r ≤ 6)) := by
      rw [Bool.eq_iff_iff, Bool.and_eq_true, decide_eq_true_eq, decide_eq_true_eq, decide_eq_true_eq]; omega
    rw [e]
    calc (decide (d ≤ 6) && (decide (d + 1 + x.depth ≤ 6) && x.form && okW (TypeX.walkL (d + 1) r)))
        = ((decide (d + 1 + x.depth ≤ 6) && x.form) && (decide (d ≤ 6) && okW (TypeX.walkL (d + 1) r))) := by cases decide (d ≤ 6) <;> simp
      _ = _ := by rw [h]; cases decide (d + 1 + x.depth ≤ 6) <;> cases x.form <;> simp
end
/-- The texts of a type are no longer than a Go int. -/
def okName_ (p : Nat × TypeX) : Prop := p.2.name_.size ≤ 9223372036854775807 ∧ p.2.args_.length ≤ 9223372036854775807
mutual
theorem TypeX.walk_names (d : Nat) : ∀ x : TypeX, DV.okL x.cells → ∀ p ∈ x.walk d, okName_ p
  | .mk a b c, h => by
    rw [TypeX.cells] at h
    simp only [DV.okL, DV.ok, uok, TypeX.rows_length] at h
    rw [TypeX.walk]
    intro p hp
    rcases List.mem_cons.1 hp with rfl | hp
    · exact ⟨h.2.1, h.2.2.1.1⟩
    · exact TypeX.walkL_names (d + 1) c h.2.2.1.2 p hp
theorem TypeX.walkL_names (d : Nat) : ∀ l : List TypeX, DV.okE (TypeX.rows l) → ∀ p ∈ TypeX.walkL d l, okName_ p
  | [], _ => by rw [TypeX.walkL]; intro p hp; cases hp
  | x :: r, h => by
    rw [TypeX.rows, DV.okE] at h
    rw [TypeX.walkL]
    intro p hp
    rcases List.mem_append.1 hp with hp | hp
    · exact TypeX.walk_names d x h.1 p hp
    · exact TypeX.walkL_names d r h.2 p hp
end
theorem TypeX.valid_eq (x : TypeX) : x.valid = (decide ((x.walk 0).length ≤ 60) && okW (x.walk 0)) := by rw [TypeX.valid, TypeX.walk_size, TypeX.walk_ok, Nat.zero_add]
/-- What breaks a rule of a part breaks the whole. -/
theorem TypeX.valid_no {x : TypeX} {pre : List (Nat × TypeX)} {y : Nat × TypeX} {rest : List (Nat × TypeX)} (h : x.walk 0 = (pre ++ [y]) ++ rest) (hn : 60 < pre.length + 1 ∨ 6 < y.1 ∨ headOk y.2.kind_ y.2.name_ y.2.args_.length = false) : x.valid = false := by
  rw [TypeX.valid_eq]
  by_cases h0 : 60 < pre.length + 1
  · rw [decide_eq_false (by rw [h]; simp; omega), Bool.false_and]
  · have h1 : okW (x.walk 0) = false := by
      rw [h, okW_app, okW_app, okW, okW]
      rcases hn with hn | hn | hn
      · omega
      · rw [decide_eq_false (by omega)]; simp
      · rw [hn]; simp
    rw [h1, Bool.and_false]

end Go.Proofs.YtngbilblddngcaaDoor
