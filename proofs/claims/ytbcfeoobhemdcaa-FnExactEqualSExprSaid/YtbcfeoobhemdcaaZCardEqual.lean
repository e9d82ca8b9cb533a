/- At every two S-expressions the program's EqualSExpr returns what the reference model's returns, and changes nothing of its arguments. No condition but the form's own reach. -/
import Derived.Test.YtbcfeoobhemdcaaZLawEqual
import Derived.Test.YtbcfeoobhemdcaaZSxOpen
import Derived.Test.YtbcfeoobhemdcaaRows
import Derived.ProofKit
import Derived.OpenShut
import Derived.ShutString
import Derived.ChangeOld
namespace Go.Proofs.Ytbcfeoobhemdcaa.cardEqual
open Go.ChangeShapes Go.WideShapes Go.ChangeAt Go.RowKit Go.WideMaps Go.WideElems
open Go.ChangeMaps (open_string shut_string)

theorem own : ownKnob Try.prog.godebug = none := by kernel_rfl
theorem laidOut : laidOutB Try.prog = true := by kernel_rfl
set_option maxRecDepth 100000 in
theorem lifted (os : Os) (started : os.Started) (H : Type) (enc : TypeId × Value → H) :
    ReturnsInHanded {} Try.checked os 8 .any (Rows.fnExactEqualSExprSpec.pre6 enc Try.prog Try.f8 Rows.fnExactEqualSExprRow.domain false) (Rows.fnExactEqualSExprSpec.post enc Try.prog Try.f8 false true false false) := by
  refine returnsInHanded_of_change (C := Try.checked) own started (by kernel_rfl) Try.func8
    (ChangeSpec.witness6 (enc := enc) (C := Try.checked) false ⟨#[], #[.agg #[.string ByteArray.empty, .slice none 0 0], .agg #[.string ByteArray.empty, .slice none 0 0]], []⟩ 8 (by kernel_rfl) (by kernel_rfl) (by kernel_rfl) (by kernel_rfl)) ?_
  intro W base args ds gs before hval0 hW _ _
  have hval : ∀ (j : Nat) t v, Try.f8.params[j]? = some t → args[j]? = some v → Value.okWide Try.prog W .any base t v := hval0
  have hW' := hW
  obtain ⟨p, q, hA0, hV, rfl, _, _⟩ := hW
  have hA : DataW.TrodAll enc Try.prog W 0 (fun _ => true) true Try.f8.params.toList args.toList ds p := hA0
  rw [Try.params8] at hA hval
  obtain ⟨v0, vs0, d0, ds0, p0, q0, hargs, rfl, rfl, h0, r0⟩ := trodAll_cons hA
  obtain ⟨v1, vs1, d1, ds1, p1, q1, rfl, rfl, rfl, h1, r1⟩ := trodAll_cons r0
  obtain ⟨rfl, rfl, rfl⟩ := trodAll_nil r1
  obtain rfl : args = #[v0, v1] := by cases args; simp_all
  obtain ⟨rfl, rfl⟩ := trodVars_none hV
  obtain ⟨cs0, rfl, -⟩ := okWide_struct Try.underlying46 (hval 0 46 v0 rfl rfl)
  have k0 := h0
  have lt0 : ∀ x ∈ p0, x.block < W.heap.size := by obtain ⟨m, hm⟩ := k0; exact DataW.trod_lt m _ _ _ hm
  obtain ⟨x0, A0, c0, rfl, hl0, hx0⟩ : ∃ (x : SX) (A : Option Addr) (c : Nat), cs0 = #[.string x.atom, .slice A x.list.length c] ∧ ListAt W (Lt W.heap.size) A x.list ∧ x.ok := by
    obtain ⟨m, hm⟩ := h0
    obtain ⟨x, A, c, e, hl, ho⟩ := sx_of Try.underlying46 ⟨rfl, rfl⟩ ⟨rfl, rfl⟩ Try.underlying9 Try.underlying44 (by kernel_rfl) (by kernel_rfl) (by kernel_rfl) m m _ _ (Nat.le_refl _) hm
    exact ⟨x, A, c, Array.toList_inj.1 (by simpa [Value.cells] using e), hl, ho⟩
  obtain ⟨cs1, rfl, -⟩ := okWide_struct Try.underlying46 (hval 1 46 v1 rfl rfl)
  have k1 := h1
  have lt1 : ∀ x ∈ p1, x.block < W.heap.size := by obtain ⟨m, hm⟩ := k1; exact DataW.trod_lt m _ _ _ hm
  obtain ⟨x1, A1, c1, rfl, hl1, hx1⟩ : ∃ (x : SX) (A : Option Addr) (c : Nat), cs1 = #[.string x.atom, .slice A x.list.length c] ∧ ListAt W (Lt W.heap.size) A x.list ∧ x.ok := by
    obtain ⟨m, hm⟩ := h1
    obtain ⟨x, A, c, e, hl, ho⟩ := sx_of Try.underlying46 ⟨rfl, rfl⟩ ⟨rfl, rfl⟩ Try.underlying9 Try.underlying44 (by kernel_rfl) (by kernel_rfl) (by kernel_rfl) m m _ _ (Nat.le_refl _) hm
    exact ⟨x, A, c, Array.toList_inj.1 (by simpa [Value.cells] using e), hl, ho⟩
  clear hA0 hval0
  refine (lawEqual x0 x1 A0 A1 c0 c1 W hx0 hx1 hl0 hl1).mono fun e W' ⟨he, hb⟩ => ?_
  subst he
  exact ⟨_, rfl, _, _, _, [], _, [], hW', trodAll_mk1 (shut_bool Try.underlying4 _), (trodAll_cons_mk (Below.trod laidOut (by kernel_rfl) (of_decide_eq_true (by kernel_rfl)) k0 hb lt0) (trodAll_cons_mk (Below.trod laidOut (by kernel_rfl) (of_decide_eq_true (by kernel_rfl)) k1 hb lt1) trodAll_mk0)), rfl, hb.frame _, fun h => by cases h⟩

theorem said : Rows.FnExactEqualSExprSaid :=
  OpenClaim.holds_of_wide 8 Try.f8 rfl rfl rfl rfl rfl rfl rfl ⟨rfl, rfl, rfl, rfl, rfl⟩ rfl rfl rfl rfl rfl (by kernel_rfl) Try.func8 (by kernel_rfl)
    (of_decide_eq_true (by kernel_rfl)) (by unfold Func.isWrapper; first | (rw [if_pos (by decide +kernel)]; kernel_rfl) | (rw [if_neg (by decide +kernel)]; exact ⟨rfl, rfl⟩))
    (fun os started H enc _ => lifted os started H enc)
end Go.Proofs.Ytbcfeoobhemdcaa.cardEqual
