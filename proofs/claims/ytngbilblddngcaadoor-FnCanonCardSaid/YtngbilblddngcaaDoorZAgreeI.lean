/- impl.agree: two types' roots and the numbers of their arguments. -/
import Derived.Test.YtngbilblddngcaaDoorZTyEqJ
import Derived.Test.YtngbilblddngcaaDoorQ1
namespace Go.Proofs.YtngbilblddngcaaDoor
open Go.RowKit Go.Lib

/-- The roots agree, and so do the numbers of arguments. -/
def agreeX (p t : TypeX) : Bool := decide (p.kind_ = t.kind_ ∧ p.name_ = t.name_ ∧ p.args_.length = t.args_.length)
theorem agreeX_iff {p t : TypeX} : agreeX p t = true ↔ p.kind_ = t.kind_ ∧ p.name_ = t.name_ ∧ p.args_.length = t.args_.length := by rw [agreeX, decide_eq_true_eq]

set_option maxRecDepth 100000 in
set_option maxHeartbeats 4000000 in
theorem implAgree (p t : TypeX) (A C : Option Addr) (a c : Nat) (w : World) :
    Calls Tryd.prog 76 #[.agg #[.int .i64 p.kind_, .string p.name_, .slice A p.args_.length a], .agg #[.int .i64 t.kind_, .string t.name_, .slice C t.args_.length c]] w fun e w' => e = .returned (.bool (agreeX p t)) ∧ Below w.heap.size w w' := by
  obtain ⟨W, hW⟩ : ∃ W, W = (w.alloc (.cells #[.int .i64 p.kind_, .string p.name_, .slice A p.args_.length a] 26)).alloc (.cells #[.int .i64 t.kind_, .string t.name_, .slice C t.args_.length c] 26) := ⟨_, rfl⟩
  have hb0 : Below w.heap.size w W := by rw [hW]; exact ((Below.refl _ _).alloc (Nat.le_refl _) _).alloc (by simp) _
  have hs : W.heap.size = w.heap.size + 2 := by rw [hW]; simp
  have hx1 : Whole W w.heap.size 26 #[.int .i64 p.kind_, .string p.name_, .slice A p.args_.length a] := by rw [hW]; exact (Whole.new w _ _).below ((Below.refl (w.heap.size + 1) _).alloc (by simp) _) (by omega)
  have hx2 : Whole W (w.heap.size + 1) 26 #[.int .i64 t.kind_, .string t.name_, .slice C t.args_.length c] := by
    have h := Whole.new (w.alloc (.cells #[.int .i64 p.kind_, .string p.name_, .slice A p.args_.length a] 26)) 26 #[.int .i64 t.kind_, .string t.name_, .slice C t.args_.length c]
    rw [World.size_alloc] at h; rw [hW]; exact h
  obtain ⟨r, hr⟩ : ∃ r, r = ((p.kind_ == t.kind_) && decide (p.name_ = t.name_)) := ⟨_, rfl⟩
  have HR := Lib.hid hr
  have HW := Lib.hid hW.symm
  have HB := Lib.hid hb0
  have HX1 := Lib.hid hx1
  have HX2 := Lib.hid hx2
  have HS := Lib.hid hs
  clear hr hW hb0 hx1 hx2 hs
  go_enter Tryd.func76, Tryd.ntmps76
  go_upto_region 1 with (fail)
  rw [HW.out]
  obtain ⟨p0, p1, p2⟩ := cells3 HX1.out
  obtain ⟨q0, q1, q2⟩ := cells3 HX2.out
  have l1 := HX1.out.lt
  have l2 := HX2.out.lt
  go_wp2_with fail
  refine (implRoot _ _ _ _ _ _ _ _ _ _ _).mono ?_
  rw [← HR.out]
  rintro e w2 ⟨rfl, hb2⟩
  have h1 := HX1.out.below hb2 HX1.out.lt
  have h2 := HX2.out.below hb2 HX2.out.lt
  obtain ⟨x0, x1, x2⟩ := cells3 h1
  obtain ⟨y0, y1, y2⟩ := cells3 h2
  have m1 := h1.lt
  have m2 := h2.lt
  have HBB := Lib.hid (HB.out.trans (hb2.mono HB.out.size))
  clear p0 p1 p2 q0 q1 q2 h1 h2 hb2
  cases r with
  | false =>
    have hno : agreeX p t = false := by
      rw [← Bool.not_eq_true, agreeX_iff]
      rintro ⟨h1, h2, _⟩
      have := HR.out
      simp [h1, h2] at this
    have HN := Lib.hid hno
    clear hno
    go_wp2
    go_ret
    exact ⟨congrArg (fun b => Ending.returned (.bool b)) HN.out.symm, HBB.out⟩
  | true =>
    have hyes : agreeX p t = decide (p.args_.length = t.args_.length) := by
      have := HR.out
      rw [eq_comm, Bool.and_eq_true, beq_iff_eq, decide_eq_true_eq] at this
      simp [agreeX, this.1, this.2]
    by_cases hl : p.args_.length = t.args_.length
    · have hlb : ((p.args_.length : Int) == (t.args_.length : Int)) = true := by rw [beq_iff_eq]; omega
      rw [decide_eq_true hl] at hyes
      have HN := Lib.hid hyes
      clear hl hyes
      go_wp2
      go_ret
      exact ⟨congrArg (fun b => Ending.returned (.bool b)) HN.out.symm, HBB.out⟩
    · have hlb : ((p.args_.length : Int) == (t.args_.length : Int)) = false := by rw [beq_eq_false_iff_ne]; omega
      rw [decide_eq_false hl] at hyes
      have HN := Lib.hid hyes
      clear hl hyes
      go_wp2
      go_ret
      exact ⟨congrArg (fun b => Ending.returned (.bool b)) HN.out.symm, HBB.out⟩
end Go.Proofs.YtngbilblddngcaaDoor
