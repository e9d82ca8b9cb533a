/-
  NARROWER THAN 'FOR EVERY INPUT', by the rows' own cells (each row's printed sentence says how): FnExactIsValidSubstitution: loops · FnExactApply: loops · FnExactApplyAll: loops · FnExactLookup: loops · FnExactRestrictTo: loops · FnExactEqualBindings: loops · FnExactEqualType: loops · FnExactTypeVariables: loops · FnExactIsValidType: loops · FnExactCountTypeVariable: loops.
  DERIVED. THE GIVEN ROWS OF THIS SEAT. 12 by the template 'for every input the law returns true; each argument reads behind the call as it read before'; 0 by the template 'total and deterministic' (their statements: YtoongnmkhjkbkaaTotals.lean).
  GIVEN WITH THE SEED: the statements are not yours to turn. If you find one false, say at which input.
  Laid BY PROGRAM, IN A SANDBOX (cutbox-rows.mjs): the forced cells as the released guide's own fill.sh prints them over the translation 6aa7ebce802400fe… (all of the seat's roots in one cut). By AI agents, Wed Nov 11 2026. No macro, syntax, notation, axiom, sorry.
-/
import Derived.Test.YtoongnmkhjkbkaaChecked
import GoSem.Claim
import GoSem.ClaimJoined
import GoSem.ClaimMapViews
import Derived.JoinedTies
import Derived.KernelRfl
namespace Go.Proofs.Ytoongnmkhjkbkaa
/- THE CELL 'sum', in the pinned program and in every row, IS THE sha256 OF THE DUMP (.gsa) THAT YtoongnmkhjkbkaaProg.lean LOADS. Nothing in Lean hashes anything: it is a label: what it is worth is what the hold of that sum in a sandbox is worth. -/
noncomputable def Try.pinned : Pinned := { name := "ytoongnmkhjkbkaa", sum := "6aa7ebce802400fee9a010e26eb309856b999bce6a17a6c46134a08a150e53f1", checked := Try.checked }
namespace Rows
def none {H : Type} : Left H := { results := [], args := [] }

/-- 'laws.FnApplied': WHATEVER THE INPUT: true; the input reads as it did. -/
def fnAppliedSpec : ChangeSpec := { name := "fnApplied", fn := fun _ => fun
  | [d] => { results := [.lit (.bool true)], args := [d] }
  | _ => none }
def fnAppliedRow : OpenClaim := { program := "ytoongnmkhjkbkaa", sum := "6aa7ebce802400fee9a010e26eb309856b999bce6a17a6c46134a08a150e53f1", func := "loop.example/g00508/laws.FnApplied", spec := "fnApplied", unfollowed := true, recurses := true, apart := false }
def FnAppliedSaid : Prop := fnAppliedRow.holds Try.pinned (OpenSpec.ofChange fnAppliedSpec)

/-- ITS FALSE NEIGHBOUR: 'it returns false'. Refute it at one input. -/
def fnAppliedWrong : ChangeSpec := { name := "fnApplied", fn := fun _ => fun
  | [d] => { results := [.lit (.bool false)], args := [d] }
  | _ => none }
def FnAppliedWrongFalsely : Prop := fnAppliedRow.holds Try.pinned (OpenSpec.ofChange fnAppliedWrong)

/-- 'laws.FnExactIsValidSubstitution': WHATEVER THE INPUT: true; the input reads as it did. -/
def fnExactIsValidSubstitutionSpec : ChangeSpec := { name := "fnExactIsValidSubstitution", fn := fun _ => fun
  | [d] => { results := [.lit (.bool true)], args := [d] }
  | _ => none }
def fnExactIsValidSubstitutionRow : OpenClaim := { program := "ytoongnmkhjkbkaa", sum := "6aa7ebce802400fee9a010e26eb309856b999bce6a17a6c46134a08a150e53f1", func := "loop.example/g00508/laws.FnExactIsValidSubstitution", spec := "fnExactIsValidSubstitution", unfollowed := true, recurses := true, loops := true, apart := false }
def FnExactIsValidSubstitutionSaid : Prop := fnExactIsValidSubstitutionRow.holds Try.pinned (OpenSpec.ofChange fnExactIsValidSubstitutionSpec)

/-- ITS FALSE NEIGHBOUR: 'it returns false'. Refute it at one input. -/
def fnExactIsValidSubstitutionWrong : ChangeSpec := { name := "fnExactIsValidSubstitution", fn := fun _ => fun
  | [d] => { results := [.lit (.bool false)], args := [d] }
  | _ => none }
def FnExactIsValidSubstitutionWrongFalsely : Prop := fnExactIsValidSubstitutionRow.holds Try.pinned (OpenSpec.ofChange fnExactIsValidSubstitutionWrong)

/-- 'laws.FnExactApply': WHATEVER THE INPUT: true; the input reads as it did. -/
def fnExactApplySpec : ChangeSpec := { name := "fnExactApply", fn := fun _ => fun
  | [d1, d2] => { results := [.lit (.bool true)], args := [d1, d2] }
  | _ => none }
def fnExactApplyRow : OpenClaim := { program := "ytoongnmkhjkbkaa", sum := "6aa7ebce802400fee9a010e26eb309856b999bce6a17a6c46134a08a150e53f1", func := "loop.example/g00508/laws.FnExactApply", spec := "fnExactApply", recurses := true, loops := true, apart := false }
def FnExactApplySaid : Prop := fnExactApplyRow.holds Try.pinned (OpenSpec.ofChange fnExactApplySpec)

/-- ITS FALSE NEIGHBOUR: 'it returns false'. Refute it at one input. -/
def fnExactApplyWrong : ChangeSpec := { name := "fnExactApply", fn := fun _ => fun
  | [d1, d2] => { results := [.lit (.bool false)], args := [d1, d2] }
  | _ => none }
def FnExactApplyWrongFalsely : Prop := fnExactApplyRow.holds Try.pinned (OpenSpec.ofChange fnExactApplyWrong)

/-- 'laws.FnExactApplyAll': WHATEVER THE INPUT: true; the input reads as it did. -/
def fnExactApplyAllSpec : ChangeSpec := { name := "fnExactApplyAll", fn := fun _ => fun
  | [d1, d2] => { results := [.lit (.bool true)], args := [d1, d2] }
  | _ => none }
def fnExactApplyAllRow : OpenClaim := { program := "ytoongnmkhjkbkaa", sum := "6aa7ebce802400fee9a010e26eb309856b999bce6a17a6c46134a08a150e53f1", func := "loop.example/g00508/laws.FnExactApplyAll", spec := "fnExactApplyAll", recurses := true, loops := true, apart := false }
def FnExactApplyAllSaid : Prop := fnExactApplyAllRow.holds Try.pinned (OpenSpec.ofChange fnExactApplyAllSpec)

/-- ITS FALSE NEIGHBOUR: 'it returns false'. Refute it at one input. -/
def fnExactApplyAllWrong : ChangeSpec := { name := "fnExactApplyAll", fn := fun _ => fun
  | [d1, d2] => { results := [.lit (.bool false)], args := [d1, d2] }
  | _ => none }
def FnExactApplyAllWrongFalsely : Prop := fnExactApplyAllRow.holds Try.pinned (OpenSpec.ofChange fnExactApplyAllWrong)

/-- 'laws.FnExactLookup': WHATEVER THE INPUT: true; the input reads as it did. -/
def fnExactLookupSpec : ChangeSpec := { name := "fnExactLookup", fn := fun _ => fun
  | [d1, d2] => { results := [.lit (.bool true)], args := [d1, d2] }
  | _ => none }
def fnExactLookupRow : OpenClaim := { program := "ytoongnmkhjkbkaa", sum := "6aa7ebce802400fee9a010e26eb309856b999bce6a17a6c46134a08a150e53f1", func := "loop.example/g00508/laws.FnExactLookup", spec := "fnExactLookup", recurses := true, loops := true, apart := false }
def FnExactLookupSaid : Prop := fnExactLookupRow.holds Try.pinned (OpenSpec.ofChange fnExactLookupSpec)

/-- ITS FALSE NEIGHBOUR: 'it returns false'. Refute it at one input. -/
def fnExactLookupWrong : ChangeSpec := { name := "fnExactLookup", fn := fun _ => fun
  | [d1, d2] => { results := [.lit (.bool false)], args := [d1, d2] }
  | _ => none }
def FnExactLookupWrongFalsely : Prop := fnExactLookupRow.holds Try.pinned (OpenSpec.ofChange fnExactLookupWrong)

/-- 'laws.FnExactRestrictTo': WHATEVER THE INPUT: true; the input reads as it did. -/
def fnExactRestrictToSpec : ChangeSpec := { name := "fnExactRestrictTo", fn := fun _ => fun
  | [d1, d2] => { results := [.lit (.bool true)], args := [d1, d2] }
  | _ => none }
def fnExactRestrictToRow : OpenClaim := { program := "ytoongnmkhjkbkaa", sum := "6aa7ebce802400fee9a010e26eb309856b999bce6a17a6c46134a08a150e53f1", func := "loop.example/g00508/laws.FnExactRestrictTo", spec := "fnExactRestrictTo", recurses := true, loops := true, apart := false }
def FnExactRestrictToSaid : Prop := fnExactRestrictToRow.holds Try.pinned (OpenSpec.ofChange fnExactRestrictToSpec)

/-- ITS FALSE NEIGHBOUR: 'it returns false'. Refute it at one input. -/
def fnExactRestrictToWrong : ChangeSpec := { name := "fnExactRestrictTo", fn := fun _ => fun
  | [d1, d2] => { results := [.lit (.bool false)], args := [d1, d2] }
  | _ => none }
def FnExactRestrictToWrongFalsely : Prop := fnExactRestrictToRow.holds Try.pinned (OpenSpec.ofChange fnExactRestrictToWrong)

/-- 'laws.FnExactEqualBindings': WHATEVER THE INPUT: true; the input reads as it did. -/
def fnExactEqualBindingsSpec : ChangeSpec := { name := "fnExactEqualBindings", fn := fun _ => fun
  | [d1, d2] => { results := [.lit (.bool true)], args := [d1, d2] }
  | _ => none }
def fnExactEqualBindingsRow : OpenClaim := { program := "ytoongnmkhjkbkaa", sum := "6aa7ebce802400fee9a010e26eb309856b999bce6a17a6c46134a08a150e53f1", func := "loop.example/g00508/laws.FnExactEqualBindings", spec := "fnExactEqualBindings", unfollowed := true, recurses := true, loops := true, apart := false }
def FnExactEqualBindingsSaid : Prop := fnExactEqualBindingsRow.holds Try.pinned (OpenSpec.ofChange fnExactEqualBindingsSpec)

/-- ITS FALSE NEIGHBOUR: 'it returns false'. Refute it at one input. -/
def fnExactEqualBindingsWrong : ChangeSpec := { name := "fnExactEqualBindings", fn := fun _ => fun
  | [d1, d2] => { results := [.lit (.bool false)], args := [d1, d2] }
  | _ => none }
def FnExactEqualBindingsWrongFalsely : Prop := fnExactEqualBindingsRow.holds Try.pinned (OpenSpec.ofChange fnExactEqualBindingsWrong)

/-- 'laws.FnTySize': WHATEVER THE INPUT: true; the input reads as it did. -/
def fnTySizeSpec : ChangeSpec := { name := "fnTySize", fn := fun _ => fun
  | [d] => { results := [.lit (.bool true)], args := [d] }
  | _ => none }
def fnTySizeRow : OpenClaim := { program := "ytoongnmkhjkbkaa", sum := "6aa7ebce802400fee9a010e26eb309856b999bce6a17a6c46134a08a150e53f1", func := "loop.example/g00508/laws.FnTySize", spec := "fnTySize", unfollowed := true, recurses := true, apart := false }
def FnTySizeSaid : Prop := fnTySizeRow.holds Try.pinned (OpenSpec.ofChange fnTySizeSpec)

/-- ITS FALSE NEIGHBOUR: 'it returns false'. Refute it at one input. -/
def fnTySizeWrong : ChangeSpec := { name := "fnTySize", fn := fun _ => fun
  | [d] => { results := [.lit (.bool false)], args := [d] }
  | _ => none }
def FnTySizeWrongFalsely : Prop := fnTySizeRow.holds Try.pinned (OpenSpec.ofChange fnTySizeWrong)

/-- 'laws.FnExactEqualType': WHATEVER THE INPUT: true; the input reads as it did. -/
def fnExactEqualTypeSpec : ChangeSpec := { name := "fnExactEqualType", fn := fun _ => fun
  | [d1, d2] => { results := [.lit (.bool true)], args := [d1, d2] }
  | _ => none }
def fnExactEqualTypeRow : OpenClaim := { program := "ytoongnmkhjkbkaa", sum := "6aa7ebce802400fee9a010e26eb309856b999bce6a17a6c46134a08a150e53f1", func := "loop.example/g00508/laws.FnExactEqualType", spec := "fnExactEqualType", unfollowed := true, recurses := true, loops := true, apart := false }
def FnExactEqualTypeSaid : Prop := fnExactEqualTypeRow.holds Try.pinned (OpenSpec.ofChange fnExactEqualTypeSpec)

/-- ITS FALSE NEIGHBOUR: 'it returns false'. Refute it at one input. -/
def fnExactEqualTypeWrong : ChangeSpec := { name := "fnExactEqualType", fn := fun _ => fun
  | [d1, d2] => { results := [.lit (.bool false)], args := [d1, d2] }
  | _ => none }
def FnExactEqualTypeWrongFalsely : Prop := fnExactEqualTypeRow.holds Try.pinned (OpenSpec.ofChange fnExactEqualTypeWrong)

/-- 'laws.FnExactTypeVariables': WHATEVER THE INPUT: true; the input reads as it did. -/
def fnExactTypeVariablesSpec : ChangeSpec := { name := "fnExactTypeVariables", fn := fun _ => fun
  | [d] => { results := [.lit (.bool true)], args := [d] }
  | _ => none }
def fnExactTypeVariablesRow : OpenClaim := { program := "ytoongnmkhjkbkaa", sum := "6aa7ebce802400fee9a010e26eb309856b999bce6a17a6c46134a08a150e53f1", func := "loop.example/g00508/laws.FnExactTypeVariables", spec := "fnExactTypeVariables", unfollowed := true, recurses := true, loops := true, apart := false }
def FnExactTypeVariablesSaid : Prop := fnExactTypeVariablesRow.holds Try.pinned (OpenSpec.ofChange fnExactTypeVariablesSpec)

/-- ITS FALSE NEIGHBOUR: 'it returns false'. Refute it at one input. -/
def fnExactTypeVariablesWrong : ChangeSpec := { name := "fnExactTypeVariables", fn := fun _ => fun
  | [d] => { results := [.lit (.bool false)], args := [d] }
  | _ => none }
def FnExactTypeVariablesWrongFalsely : Prop := fnExactTypeVariablesRow.holds Try.pinned (OpenSpec.ofChange fnExactTypeVariablesWrong)

/-- 'laws.FnExactIsValidType': WHATEVER THE INPUT: true; the input reads as it did. -/
def fnExactIsValidTypeSpec : ChangeSpec := { name := "fnExactIsValidType", fn := fun _ => fun
  | [d] => { results := [.lit (.bool true)], args := [d] }
  | _ => none }
def fnExactIsValidTypeRow : OpenClaim := { program := "ytoongnmkhjkbkaa", sum := "6aa7ebce802400fee9a010e26eb309856b999bce6a17a6c46134a08a150e53f1", func := "loop.example/g00508/laws.FnExactIsValidType", spec := "fnExactIsValidType", unfollowed := true, recurses := true, loops := true, apart := false }
def FnExactIsValidTypeSaid : Prop := fnExactIsValidTypeRow.holds Try.pinned (OpenSpec.ofChange fnExactIsValidTypeSpec)

/-- ITS FALSE NEIGHBOUR: 'it returns false'. Refute it at one input. -/
def fnExactIsValidTypeWrong : ChangeSpec := { name := "fnExactIsValidType", fn := fun _ => fun
  | [d] => { results := [.lit (.bool false)], args := [d] }
  | _ => none }
def FnExactIsValidTypeWrongFalsely : Prop := fnExactIsValidTypeRow.holds Try.pinned (OpenSpec.ofChange fnExactIsValidTypeWrong)

/-- 'laws.FnExactCountTypeVariable': WHATEVER THE INPUT: true; the input reads as it did. -/
def fnExactCountTypeVariableSpec : ChangeSpec := { name := "fnExactCountTypeVariable", fn := fun _ => fun
  | [d1, d2] => { results := [.lit (.bool true)], args := [d1, d2] }
  | _ => none }
def fnExactCountTypeVariableRow : OpenClaim := { program := "ytoongnmkhjkbkaa", sum := "6aa7ebce802400fee9a010e26eb309856b999bce6a17a6c46134a08a150e53f1", func := "loop.example/g00508/laws.FnExactCountTypeVariable", spec := "fnExactCountTypeVariable", unfollowed := true, recurses := true, loops := true, apart := false }
def FnExactCountTypeVariableSaid : Prop := fnExactCountTypeVariableRow.holds Try.pinned (OpenSpec.ofChange fnExactCountTypeVariableSpec)

/-- ITS FALSE NEIGHBOUR: 'it returns false'. Refute it at one input. -/
def fnExactCountTypeVariableWrong : ChangeSpec := { name := "fnExactCountTypeVariable", fn := fun _ => fun
  | [d1, d2] => { results := [.lit (.bool false)], args := [d1, d2] }
  | _ => none }
def FnExactCountTypeVariableWrongFalsely : Prop := fnExactCountTypeVariableRow.holds Try.pinned (OpenSpec.ofChange fnExactCountTypeVariableWrong)

/- THE SECOND FORM. 'bulk': how many values and letters a reading holds, each counted each time it is reached (what is shared counts as often as it is met; a slice's spare places count too). A statement '..UptoSaid' is the law's where the arguments, and the package variables that the reading takes, are together of bulk at most 1048576: NARROWER than '..Said'. Prove '..Said' where nothing that the law and all that it calls make is longer than what came in: it says more and counts as full. Else prove '..UptoSaid'. A law counts once. -/
mutual
def uptoBulk {H : Type} : DataW H → Nat
  | .lit (.string bytes) => bytes.length + 1
  | .lit _ => 1
  | .nil => 1
  | .ptr d => uptoBulk d + 1
  | .slice elems spare => uptoBulkAll elems + uptoBulkAll spare + 1
  | .agg parts => uptoBulkAll parts + 1
  | .iface _ d => uptoBulk d + 1
  | .map entries => uptoBulkEntries entries + 1
  | .held _ => 1
def uptoBulkAll {H : Type} : List (DataW H) → Nat
  | [] => 0
  | d :: r => uptoBulk d + uptoBulkAll r
def uptoBulkEntries {H : Type} : List (Lit × DataW H) → Nat
  | [] => 0
  | x :: r => uptoBulkEntry x + uptoBulkEntries r
def uptoBulkEntry {H : Type} : Lit × DataW H → Nat
  | (.string bytes, d) => bytes.length + uptoBulk d + 1
  | (_, d) => uptoBulk d + 1
 end
def uptoSmall : (H : Type) → List (DataW H) → Bool := fun _ ds => decide (uptoBulkAll ds ≤ 1048576)
def OpenSpec.upto (s : _root_.Go.ChangeSpec) : _root_.Go.OpenSpec := { _root_.Go.OpenSpec.ofChange s with cond := some uptoSmall }

/-- 'laws.FnApplied', WHERE WHAT IT READS IS OF BULK AT MOST 1048576: true; the input reads as it did. -/
def fnAppliedUptoRow : OpenClaim := { program := "ytoongnmkhjkbkaa", sum := "6aa7ebce802400fee9a010e26eb309856b999bce6a17a6c46134a08a150e53f1", func := "loop.example/g00508/laws.FnApplied", spec := "fnApplied", unfollowed := true, recurses := true, apart := false, narrowed := true }
def FnAppliedUptoSaid : Prop := fnAppliedUptoRow.holds Try.pinned (OpenSpec.upto fnAppliedSpec)

/-- 'laws.FnExactIsValidSubstitution', WHERE WHAT IT READS IS OF BULK AT MOST 1048576: true; the input reads as it did. -/
def fnExactIsValidSubstitutionUptoRow : OpenClaim := { program := "ytoongnmkhjkbkaa", sum := "6aa7ebce802400fee9a010e26eb309856b999bce6a17a6c46134a08a150e53f1", func := "loop.example/g00508/laws.FnExactIsValidSubstitution", spec := "fnExactIsValidSubstitution", unfollowed := true, recurses := true, loops := true, apart := false, narrowed := true }
def FnExactIsValidSubstitutionUptoSaid : Prop := fnExactIsValidSubstitutionUptoRow.holds Try.pinned (OpenSpec.upto fnExactIsValidSubstitutionSpec)

/-- 'laws.FnExactApply', WHERE WHAT IT READS IS OF BULK AT MOST 1048576: true; the input reads as it did. -/
def fnExactApplyUptoRow : OpenClaim := { program := "ytoongnmkhjkbkaa", sum := "6aa7ebce802400fee9a010e26eb309856b999bce6a17a6c46134a08a150e53f1", func := "loop.example/g00508/laws.FnExactApply", spec := "fnExactApply", recurses := true, loops := true, apart := false, narrowed := true }
def FnExactApplyUptoSaid : Prop := fnExactApplyUptoRow.holds Try.pinned (OpenSpec.upto fnExactApplySpec)

/-- 'laws.FnExactApplyAll', WHERE WHAT IT READS IS OF BULK AT MOST 1048576: true; the input reads as it did. -/
def fnExactApplyAllUptoRow : OpenClaim := { program := "ytoongnmkhjkbkaa", sum := "6aa7ebce802400fee9a010e26eb309856b999bce6a17a6c46134a08a150e53f1", func := "loop.example/g00508/laws.FnExactApplyAll", spec := "fnExactApplyAll", recurses := true, loops := true, apart := false, narrowed := true }
def FnExactApplyAllUptoSaid : Prop := fnExactApplyAllUptoRow.holds Try.pinned (OpenSpec.upto fnExactApplyAllSpec)

/-- 'laws.FnExactLookup', WHERE WHAT IT READS IS OF BULK AT MOST 1048576: true; the input reads as it did. -/
def fnExactLookupUptoRow : OpenClaim := { program := "ytoongnmkhjkbkaa", sum := "6aa7ebce802400fee9a010e26eb309856b999bce6a17a6c46134a08a150e53f1", func := "loop.example/g00508/laws.FnExactLookup", spec := "fnExactLookup", recurses := true, loops := true, apart := false, narrowed := true }
def FnExactLookupUptoSaid : Prop := fnExactLookupUptoRow.holds Try.pinned (OpenSpec.upto fnExactLookupSpec)

/-- 'laws.FnExactRestrictTo', WHERE WHAT IT READS IS OF BULK AT MOST 1048576: true; the input reads as it did. -/
def fnExactRestrictToUptoRow : OpenClaim := { program := "ytoongnmkhjkbkaa", sum := "6aa7ebce802400fee9a010e26eb309856b999bce6a17a6c46134a08a150e53f1", func := "loop.example/g00508/laws.FnExactRestrictTo", spec := "fnExactRestrictTo", recurses := true, loops := true, apart := false, narrowed := true }
def FnExactRestrictToUptoSaid : Prop := fnExactRestrictToUptoRow.holds Try.pinned (OpenSpec.upto fnExactRestrictToSpec)

/-- 'laws.FnExactEqualBindings', WHERE WHAT IT READS IS OF BULK AT MOST 1048576: true; the input reads as it did. -/
def fnExactEqualBindingsUptoRow : OpenClaim := { program := "ytoongnmkhjkbkaa", sum := "6aa7ebce802400fee9a010e26eb309856b999bce6a17a6c46134a08a150e53f1", func := "loop.example/g00508/laws.FnExactEqualBindings", spec := "fnExactEqualBindings", unfollowed := true, recurses := true, loops := true, apart := false, narrowed := true }
def FnExactEqualBindingsUptoSaid : Prop := fnExactEqualBindingsUptoRow.holds Try.pinned (OpenSpec.upto fnExactEqualBindingsSpec)

/-- 'laws.FnTySize', WHERE WHAT IT READS IS OF BULK AT MOST 1048576: true; the input reads as it did. -/
def fnTySizeUptoRow : OpenClaim := { program := "ytoongnmkhjkbkaa", sum := "6aa7ebce802400fee9a010e26eb309856b999bce6a17a6c46134a08a150e53f1", func := "loop.example/g00508/laws.FnTySize", spec := "fnTySize", unfollowed := true, recurses := true, apart := false, narrowed := true }
def FnTySizeUptoSaid : Prop := fnTySizeUptoRow.holds Try.pinned (OpenSpec.upto fnTySizeSpec)

/-- 'laws.FnExactEqualType', WHERE WHAT IT READS IS OF BULK AT MOST 1048576: true; the input reads as it did. -/
def fnExactEqualTypeUptoRow : OpenClaim := { program := "ytoongnmkhjkbkaa", sum := "6aa7ebce802400fee9a010e26eb309856b999bce6a17a6c46134a08a150e53f1", func := "loop.example/g00508/laws.FnExactEqualType", spec := "fnExactEqualType", unfollowed := true, recurses := true, loops := true, apart := false, narrowed := true }
def FnExactEqualTypeUptoSaid : Prop := fnExactEqualTypeUptoRow.holds Try.pinned (OpenSpec.upto fnExactEqualTypeSpec)

/-- 'laws.FnExactTypeVariables', WHERE WHAT IT READS IS OF BULK AT MOST 1048576: true; the input reads as it did. -/
def fnExactTypeVariablesUptoRow : OpenClaim := { program := "ytoongnmkhjkbkaa", sum := "6aa7ebce802400fee9a010e26eb309856b999bce6a17a6c46134a08a150e53f1", func := "loop.example/g00508/laws.FnExactTypeVariables", spec := "fnExactTypeVariables", unfollowed := true, recurses := true, loops := true, apart := false, narrowed := true }
def FnExactTypeVariablesUptoSaid : Prop := fnExactTypeVariablesUptoRow.holds Try.pinned (OpenSpec.upto fnExactTypeVariablesSpec)

/-- 'laws.FnExactIsValidType', WHERE WHAT IT READS IS OF BULK AT MOST 1048576: true; the input reads as it did. -/
def fnExactIsValidTypeUptoRow : OpenClaim := { program := "ytoongnmkhjkbkaa", sum := "6aa7ebce802400fee9a010e26eb309856b999bce6a17a6c46134a08a150e53f1", func := "loop.example/g00508/laws.FnExactIsValidType", spec := "fnExactIsValidType", unfollowed := true, recurses := true, loops := true, apart := false, narrowed := true }
def FnExactIsValidTypeUptoSaid : Prop := fnExactIsValidTypeUptoRow.holds Try.pinned (OpenSpec.upto fnExactIsValidTypeSpec)

/-- 'laws.FnExactCountTypeVariable', WHERE WHAT IT READS IS OF BULK AT MOST 1048576: true; the input reads as it did. -/
def fnExactCountTypeVariableUptoRow : OpenClaim := { program := "ytoongnmkhjkbkaa", sum := "6aa7ebce802400fee9a010e26eb309856b999bce6a17a6c46134a08a150e53f1", func := "loop.example/g00508/laws.FnExactCountTypeVariable", spec := "fnExactCountTypeVariable", unfollowed := true, recurses := true, loops := true, apart := false, narrowed := true }
def FnExactCountTypeVariableUptoSaid : Prop := fnExactCountTypeVariableUptoRow.holds Try.pinned (OpenSpec.upto fnExactCountTypeVariableSpec)

end Rows
end Go.Proofs.Ytoongnmkhjkbkaa
