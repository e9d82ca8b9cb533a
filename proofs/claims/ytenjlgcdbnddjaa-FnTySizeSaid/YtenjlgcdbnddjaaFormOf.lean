/- impl.formOf: a type in a struct of its kind, behind an interface; what an assertion says of it; impl.isVariable. -/
import Derived.Test.YtenjlgcdbnddjaaTypeD
import Derived.WalkKit
namespace Go.Proofs.Ytenjlgcdbnddjaa
open Go.RowKit Go.Lib

/-- What formOf hands back. -/
def tyForm (k : Int) (v : Value) : Value :=
  if k == 1 then .iface 76 v else if k == 2 then .iface 78 v else if k == 3 then .iface 54 v else if k == 4 then .iface 79 v else .nilIface
theorem tyForm1 {k : Int} (v : Value) (h : (k == 1) = true) : tyForm k v = .iface 76 v := by rw [tyForm, if_pos h]
theorem tyForm2 {k : Int} (v : Value) (h : (k == 2) = true) : tyForm k v = .iface 78 v := by
  have : k = 2 := by simpa using h
  subst this; rfl
theorem tyForm3 {k : Int} (v : Value) (h : (k == 3) = true) : tyForm k v = .iface 54 v := by
  have : k = 3 := by simpa using h
  subst this; rfl
theorem tyForm4 {k : Int} (v : Value) (h : (k == 4) = true) : tyForm k v = .iface 79 v := by
  have : k = 4 := by simpa using h
  subst this; rfl
theorem tyForm0 {k : Int} (v : Value) (h1 : (k == 1) = false) (h2 : (k == 2) = false) (h3 : (k == 3) = false) (h4 : (k == 4) = false) : tyForm k v = .nilIface := by
  rw [tyForm, h1, h2, h3, h4]; rfl

abbrev zeroTy : Value := .agg #[.int .i64 0, .string ByteArray.empty, .slice none 0 0]
theorem asV1 (v : Value) (w : World) : (Instr.typeAssert (.iface 76 v) 57 76 true).run Try.prog w = .ok (.tuple #[v, .bool true]) w := by kernel_rfl
theorem asV2 (v : Value) (w : World) : (Instr.typeAssert (.iface 78 v) 57 76 true).run Try.prog w = .ok (.tuple #[zeroTy, .bool false]) w := by kernel_rfl
theorem asV3 (v : Value) (w : World) : (Instr.typeAssert (.iface 54 v) 57 76 true).run Try.prog w = .ok (.tuple #[zeroTy, .bool false]) w := by kernel_rfl
theorem asV4 (v : Value) (w : World) : (Instr.typeAssert (.iface 79 v) 57 76 true).run Try.prog w = .ok (.tuple #[zeroTy, .bool false]) w := by kernel_rfl
theorem asV0 (w : World) : (Instr.typeAssert .nilIface 57 76 true).run Try.prog w = .ok (.tuple #[zeroTy, .bool false]) w := by kernel_rfl
theorem asP1 (v : Value) (w : World) : (Instr.typeAssert (.iface 76 v) 57 54 true).run Try.prog w = .ok (.tuple #[zeroTy, .bool false]) w := by kernel_rfl
theorem asP2 (v : Value) (w : World) : (Instr.typeAssert (.iface 78 v) 57 54 true).run Try.prog w = .ok (.tuple #[zeroTy, .bool false]) w := by kernel_rfl
theorem asP3 (v : Value) (w : World) : (Instr.typeAssert (.iface 54 v) 57 54 true).run Try.prog w = .ok (.tuple #[v, .bool true]) w := by kernel_rfl
theorem asP4 (v : Value) (w : World) : (Instr.typeAssert (.iface 79 v) 57 54 true).run Try.prog w = .ok (.tuple #[zeroTy, .bool false]) w := by kernel_rfl
theorem asP0 (w : World) : (Instr.typeAssert .nilIface 57 54 true).run Try.prog w = .ok (.tuple #[zeroTy, .bool false]) w := by kernel_rfl

/-- Whatever the kind: is it a variable? -/
theorem as_var {k : Int} (v : Value) (h : (k == 1) = false) (w : World) : (Instr.typeAssert (tyForm k v) 57 76 true).run Try.prog w = .ok (.tuple #[zeroTy, .bool false]) w := by
  unfold tyForm
  rw [h]
  simp only [Bool.false_eq_true, if_false]
  split
  · exact asV2 v w
  · split
    · exact asV3 v w
    · split
      · exact asV4 v w
      · exact asV0 w
theorem as_proj {k : Int} (v : Value) (h : (k == 3) = false) (w : World) : (Instr.typeAssert (tyForm k v) 57 54 true).run Try.prog w = .ok (.tuple #[zeroTy, .bool false]) w := by
  unfold tyForm
  rw [h]
  simp only [Bool.false_eq_true, if_false]
  split
  · exact asP1 v w
  · split
    · exact asP2 v w
    · split
      · exact asP4 v w
      · exact asP0 w

set_option maxRecDepth 100000 in
set_option maxHeartbeats 2000000 in
theorem implFormOf (k : Int) (s : ByteArray) (A : Option Addr) (n c : Nat) (w : World) :
    Calls Try.prog 43 #[.agg #[.int .i64 k, .string s, .slice A n c]] w fun e w' => e = .returned (tyForm k (.agg #[.int .i64 k, .string s, .slice A n c])) ∧ Below w.heap.size w w' := by
  have hb : Below w.heap.size w (w.alloc (.cells #[.int .i64 k, .string s, .slice A n c] 26)) := (Below.refl _ _).alloc (Nat.le_refl _) _
  cases h1 : (k == 1) with
  | true =>
    have HF := Lib.hid (tyForm1 (.agg #[.int .i64 k, .string s, .slice A n c]) h1)
    go_enter Try.func43, Try.ntmps43
    go_wp2
    go_ret
    exact ⟨congrArg Ending.returned HF.out.symm, hb⟩
  | false =>
    cases h2 : (k == 2) with
    | true =>
      have HF := Lib.hid (tyForm2 (.agg #[.int .i64 k, .string s, .slice A n c]) h2)
      go_enter Try.func43, Try.ntmps43
      go_wp2
      go_ret
      exact ⟨congrArg Ending.returned HF.out.symm, hb⟩
    | false =>
      cases h3 : (k == 3) with
      | true =>
        have HF := Lib.hid (tyForm3 (.agg #[.int .i64 k, .string s, .slice A n c]) h3)
        go_enter Try.func43, Try.ntmps43
        go_wp2
        go_ret
        exact ⟨congrArg Ending.returned HF.out.symm, hb⟩
      | false =>
        cases h4 : (k == 4) with
        | true =>
          have HF := Lib.hid (tyForm4 (.agg #[.int .i64 k, .string s, .slice A n c]) h4)
          go_enter Try.func43, Try.ntmps43
          go_wp2
          go_ret
          exact ⟨congrArg Ending.returned HF.out.symm, hb⟩
        | false =>
          have HF := Lib.hid (tyForm0 (.agg #[.int .i64 k, .string s, .slice A n c]) h1 h2 h3 h4)
          go_enter Try.func43, Try.ntmps43
          go_wp2
          go_ret
          exact ⟨congrArg Ending.returned HF.out.symm, hb⟩

set_option maxRecDepth 100000 in
set_option maxHeartbeats 2000000 in
theorem implIsVar (k : Int) (s : ByteArray) (A : Option Addr) (n c : Nat) (w : World) :
    Calls Try.prog 44 #[.agg #[.int .i64 k, .string s, .slice A n c]] w fun e w' => e = .returned (.bool (k == 1)) ∧ Below w.heap.size w w' := by
  have hb : Below w.heap.size w (w.alloc (.cells #[.int .i64 k, .string s, .slice A n c] 26)) := (Below.refl _ _).alloc (Nat.le_refl _) _
  cases h1 : (k == 1) with
  | true =>
    have HF := Lib.hid (tyForm1 (.agg #[.int .i64 k, .string s, .slice A n c]) h1)
    have hA := asV1 (.agg #[.int .i64 k, .string s, .slice A n c])
    clear h1
    go_enter Try.func44, Try.ntmps44
    go_wp2_with fail
    refine (implFormOf _ _ _ _ _ _).mono ?_
    rintro e w1 ⟨rfl, hb1⟩
    rw [HF.out]
    have hb2 := hb.trans (hb1.mono (by simp))
    have hs := hb2.size
    go_wp2
    go_ret
    exact ⟨rfl, hb2.alloc hs _⟩
  | false =>
    have hA := as_var (.agg #[.int .i64 k, .string s, .slice A n c]) h1
    clear h1
    go_enter Try.func44, Try.ntmps44
    go_wp2_with fail
    refine (implFormOf _ _ _ _ _ _).mono ?_
    rintro e w1 ⟨rfl, hb1⟩
    have hb2 := hb.trans (hb1.mono (by simp))
    have hs := hb2.size
    go_wp2
    go_ret
    exact ⟨rfl, hb2.alloc hs _⟩
end Go.Proofs.Ytenjlgcdbnddjaa
