/-
  NARROWER THAN 'FOR EVERY INPUT', by the rows' own cells (each row's printed sentence says how): FnExactIsValidType: loops · FnExactEqualType: loops · FnExactTypeSize: loops · FnExactTypeDepth: loops · FnExactTypeVariables: loops · FnExactCountTypeVariable: loops · FnExactHasProjection: loops.
  DERIVED. THE GIVEN ROWS OF THIS SEAT. 8 by the template 'for every input the law returns true; each argument reads behind the call as it read before'; 0 by the template 'total and deterministic' (their statements: YtenjlgcdbnddjaaTotals.lean).
  GIVEN WITH THE SEED: the statements are not yours to turn. If you find one false, say at which input.
  Laid BY PROGRAM, IN A SANDBOX (cutbox-rows.mjs): the forced cells as the released guide's own fill.sh prints them over the translation 0cdd186bb33e391a… (all of the seat's roots in one cut). By AI agents, Wed Nov 11 2026. No macro, syntax, notation, axiom, sorry.
-/
import Derived.Test.YtenjlgcdbnddjaaChecked
import GoSem.Claim
import GoSem.ClaimJoined
import GoSem.ClaimMapViews
import Derived.JoinedTies
import Derived.KernelRfl
namespace Go.Proofs.Ytenjlgcdbnddjaa
/- THE CELL 'sum', in the pinned program and in every row, IS THE sha256 OF THE DUMP (.gsa) THAT YtenjlgcdbnddjaaProg.lean LOADS. Nothing in Lean hashes anything: it is a label: what it is worth is what the hold of that sum in a sandbox is worth. -/
noncomputable def Try.pinned : Pinned := { name := "ytenjlgcdbnddjaa", sum := "0cdd186bb33e391a41bd6909048e9933538cc63d02ceb16ed11e3e6f2280b27e", checked := Try.checked }
namespace Rows
def none {H : Type} : Left H := { results := [], args := [] }

/-- 'laws.FnTySize': WHATEVER THE INPUT: true; the input reads as it did. -/
def fnTySizeSpec : ChangeSpec := { name := "fnTySize", fn := fun _ => fun
  | [d] => { results := [.lit (.bool true)], args := [d] }
  | _ => none }
def fnTySizeRow : OpenClaim := { program := "ytenjlgcdbnddjaa", sum := "0cdd186bb33e391a41bd6909048e9933538cc63d02ceb16ed11e3e6f2280b27e", func := "loop.example/g00508/laws.FnTySize", spec := "fnTySize", unfollowed := true, recurses := true, apart := false }
def FnTySizeSaid : Prop := fnTySizeRow.holds Try.pinned (OpenSpec.ofChange fnTySizeSpec)

/-- ITS FALSE NEIGHBOUR: 'it returns false'. Refute it at one input. -/
def fnTySizeWrong : ChangeSpec := { name := "fnTySize", fn := fun _ => fun
  | [d] => { results := [.lit (.bool false)], args := [d] }
  | _ => none }
def FnTySizeWrongFalsely : Prop := fnTySizeRow.holds Try.pinned (OpenSpec.ofChange fnTySizeWrong)

/-- 'laws.FnExactIsValidType': WHATEVER THE INPUT: true; the input reads as it did. -/
def fnExactIsValidTypeSpec : ChangeSpec := { name := "fnExactIsValidType", fn := fun _ => fun
  | [d] => { results := [.lit (.bool true)], args := [d] }
  | _ => none }
def fnExactIsValidTypeRow : OpenClaim := { program := "ytenjlgcdbnddjaa", sum := "0cdd186bb33e391a41bd6909048e9933538cc63d02ceb16ed11e3e6f2280b27e", func := "loop.example/g00508/laws.FnExactIsValidType", spec := "fnExactIsValidType", unfollowed := true, recurses := true, loops := true, apart := false }
def FnExactIsValidTypeSaid : Prop := fnExactIsValidTypeRow.holds Try.pinned (OpenSpec.ofChange fnExactIsValidTypeSpec)

/-- ITS FALSE NEIGHBOUR: 'it returns false'. Refute it at one input. -/
def fnExactIsValidTypeWrong : ChangeSpec := { name := "fnExactIsValidType", fn := fun _ => fun
  | [d] => { results := [.lit (.bool false)], args := [d] }
  | _ => none }
def FnExactIsValidTypeWrongFalsely : Prop := fnExactIsValidTypeRow.holds Try.pinned (OpenSpec.ofChange fnExactIsValidTypeWrong)

/-- 'laws.FnExactEqualType': WHATEVER THE INPUT: true; the input reads as it did. -/
def fnExactEqualTypeSpec : ChangeSpec := { name := "fnExactEqualType", fn := fun _ => fun
  | [d1, d2] => { results := [.lit (.bool true)], args := [d1, d2] }
  | _ => none }
def fnExactEqualTypeRow : OpenClaim := { program := "ytenjlgcdbnddjaa", sum := "0cdd186bb33e391a41bd6909048e9933538cc63d02ceb16ed11e3e6f2280b27e", func := "loop.example/g00508/laws.FnExactEqualType", spec := "fnExactEqualType", unfollowed := true, recurses := true, loops := true, apart := false }
def FnExactEqualTypeSaid : Prop := fnExactEqualTypeRow.holds Try.pinned (OpenSpec.ofChange fnExactEqualTypeSpec)

/-- ITS FALSE NEIGHBOUR: 'it returns false'. Refute it at one input. -/
def fnExactEqualTypeWrong : ChangeSpec := { name := "fnExactEqualType", fn := fun _ => fun
  | [d1, d2] => { results := [.lit (.bool false)], args := [d1, d2] }
  | _ => none }
def FnExactEqualTypeWrongFalsely : Prop := fnExactEqualTypeRow.holds Try.pinned (OpenSpec.ofChange fnExactEqualTypeWrong)

/-- 'laws.FnExactTypeSize': WHATEVER THE INPUT: true; the input reads as it did. -/
def fnExactTypeSizeSpec : ChangeSpec := { name := "fnExactTypeSize", fn := fun _ => fun
  | [d] => { results := [.lit (.bool true)], args := [d] }
  | _ => none }
def fnExactTypeSizeRow : OpenClaim := { program := "ytenjlgcdbnddjaa", sum := "0cdd186bb33e391a41bd6909048e9933538cc63d02ceb16ed11e3e6f2280b27e", func := "loop.example/g00508/laws.FnExactTypeSize", spec := "fnExactTypeSize", unfollowed := true, recurses := true, loops := true, apart := false }
def FnExactTypeSizeSaid : Prop := fnExactTypeSizeRow.holds Try.pinned (OpenSpec.ofChange fnExactTypeSizeSpec)

/-- ITS FALSE NEIGHBOUR: 'it returns false'. Refute it at one input. -/
def fnExactTypeSizeWrong : ChangeSpec := { name := "fnExactTypeSize", fn := fun _ => fun
  | [d] => { results := [.lit (.bool false)], args := [d] }
  | _ => none }
def FnExactTypeSizeWrongFalsely : Prop := fnExactTypeSizeRow.holds Try.pinned (OpenSpec.ofChange fnExactTypeSizeWrong)

/-- 'laws.FnExactTypeDepth': WHATEVER THE INPUT: true; the input reads as it did. -/
def fnExactTypeDepthSpec : ChangeSpec := { name := "fnExactTypeDepth", fn := fun _ => fun
  | [d] => { results := [.lit (.bool true)], args := [d] }
  | _ => none }
def fnExactTypeDepthRow : OpenClaim := { program := "ytenjlgcdbnddjaa", sum := "0cdd186bb33e391a41bd6909048e9933538cc63d02ceb16ed11e3e6f2280b27e", func := "loop.example/g00508/laws.FnExactTypeDepth", spec := "fnExactTypeDepth", unfollowed := true, recurses := true, loops := true, apart := false }
def FnExactTypeDepthSaid : Prop := fnExactTypeDepthRow.holds Try.pinned (OpenSpec.ofChange fnExactTypeDepthSpec)

/-- ITS FALSE NEIGHBOUR: 'it returns false'. Refute it at one input. -/
def fnExactTypeDepthWrong : ChangeSpec := { name := "fnExactTypeDepth", fn := fun _ => fun
  | [d] => { results := [.lit (.bool false)], args := [d] }
  | _ => none }
def FnExactTypeDepthWrongFalsely : Prop := fnExactTypeDepthRow.holds Try.pinned (OpenSpec.ofChange fnExactTypeDepthWrong)

/-- 'laws.FnExactTypeVariables': WHATEVER THE INPUT: true; the input reads as it did. -/
def fnExactTypeVariablesSpec : ChangeSpec := { name := "fnExactTypeVariables", fn := fun _ => fun
  | [d] => { results := [.lit (.bool true)], args := [d] }
  | _ => none }
def fnExactTypeVariablesRow : OpenClaim := { program := "ytenjlgcdbnddjaa", sum := "0cdd186bb33e391a41bd6909048e9933538cc63d02ceb16ed11e3e6f2280b27e", func := "loop.example/g00508/laws.FnExactTypeVariables", spec := "fnExactTypeVariables", unfollowed := true, recurses := true, loops := true, apart := false }
def FnExactTypeVariablesSaid : Prop := fnExactTypeVariablesRow.holds Try.pinned (OpenSpec.ofChange fnExactTypeVariablesSpec)

/-- ITS FALSE NEIGHBOUR: 'it returns false'. Refute it at one input. -/
def fnExactTypeVariablesWrong : ChangeSpec := { name := "fnExactTypeVariables", fn := fun _ => fun
  | [d] => { results := [.lit (.bool false)], args := [d] }
  | _ => none }
def FnExactTypeVariablesWrongFalsely : Prop := fnExactTypeVariablesRow.holds Try.pinned (OpenSpec.ofChange fnExactTypeVariablesWrong)

/-- 'laws.FnExactCountTypeVariable': WHATEVER THE INPUT: true; the input reads as it did. -/
def fnExactCountTypeVariableSpec : ChangeSpec := { name := "fnExactCountTypeVariable", fn := fun _ => fun
  | [d1, d2] => { results := [.lit (.bool true)], args := [d1, d2] }
  | _ => none }
def fnExactCountTypeVariableRow : OpenClaim := { program := "ytenjlgcdbnddjaa", sum := "0cdd186bb33e391a41bd6909048e9933538cc63d02ceb16ed11e3e6f2280b27e", func := "loop.example/g00508/laws.FnExactCountTypeVariable", spec := "fnExactCountTypeVariable", unfollowed := true, recurses := true, loops := true, apart := false }
def FnExactCountTypeVariableSaid : Prop := fnExactCountTypeVariableRow.holds Try.pinned (OpenSpec.ofChange fnExactCountTypeVariableSpec)

/-- ITS FALSE NEIGHBOUR: 'it returns false'. Refute it at one input. -/
def fnExactCountTypeVariableWrong : ChangeSpec := { name := "fnExactCountTypeVariable", fn := fun _ => fun
  | [d1, d2] => { results := [.lit (.bool false)], args := [d1, d2] }
  | _ => none }
def FnExactCountTypeVariableWrongFalsely : Prop := fnExactCountTypeVariableRow.holds Try.pinned (OpenSpec.ofChange fnExactCountTypeVariableWrong)

/-- 'laws.FnExactHasProjection': WHATEVER THE INPUT: true; the input reads as it did. -/
def fnExactHasProjectionSpec : ChangeSpec := { name := "fnExactHasProjection", fn := fun _ => fun
  | [d] => { results := [.lit (.bool true)], args := [d] }
  | _ => none }
def fnExactHasProjectionRow : OpenClaim := { program := "ytenjlgcdbnddjaa", sum := "0cdd186bb33e391a41bd6909048e9933538cc63d02ceb16ed11e3e6f2280b27e", func := "loop.example/g00508/laws.FnExactHasProjection", spec := "fnExactHasProjection", unfollowed := true, recurses := true, loops := true, apart := false }
def FnExactHasProjectionSaid : Prop := fnExactHasProjectionRow.holds Try.pinned (OpenSpec.ofChange fnExactHasProjectionSpec)

/-- ITS FALSE NEIGHBOUR: 'it returns false'. Refute it at one input. -/
def fnExactHasProjectionWrong : ChangeSpec := { name := "fnExactHasProjection", fn := fun _ => fun
  | [d] => { results := [.lit (.bool false)], args := [d] }
  | _ => none }
def FnExactHasProjectionWrongFalsely : Prop := fnExactHasProjectionRow.holds Try.pinned (OpenSpec.ofChange fnExactHasProjectionWrong)

/- THE SECOND FORM. 'bulk': how many values and letters a reading holds, each counted each time it is reached (what is shared counts as often as it is met; a slice's spare places count too). A statement '..UptoSaid' is the law's where the arguments, and the package variables that the reading takes, are together of bulk at most 1048576: NARROWER than '..Said'. Prove '..Said' where nothing that the law and all that it calls make is longer than what came in: it says more and counts as full. Else prove '..UptoSaid'. A law counts once. -/
mutual
def uptoBulk {H : Type} : DataW H → Nat
  | .lit (.string bytes) => bytes.length + 1
  | .lit _ => 1
  | .nil => 1
  | .ptr d => uptoBulk d + 1
  | .slice elems spare => uptoBulkAll elems + uptoBulkAll spare + 1
  | .agg parts => uptoBulkAll parts + 1
  | .iface _ d => uptoBulk d + 1
  | .map entries => uptoBulkEntries entries + 1
  | .held _ => 1
def uptoBulkAll {H : Type} : List (DataW H) → Nat
  | [] => 0
  | d :: r => uptoBulk d + uptoBulkAll r
def uptoBulkEntries {H : Type} : List (Lit × DataW H) → Nat
  | [] => 0
  | x :: r => uptoBulkEntry x + uptoBulkEntries r
def uptoBulkEntry {H : Type} : Lit × DataW H → Nat
  | (.string bytes, d) => bytes.length + uptoBulk d + 1
  | (_, d) => uptoBulk d + 1
 end
def uptoSmall : (H : Type) → List (DataW H) → Bool := fun _ ds => decide (uptoBulkAll ds ≤ 1048576)
def OpenSpec.upto (s : _root_.Go.ChangeSpec) : _root_.Go.OpenSpec := { _root_.Go.OpenSpec.ofChange s with cond := some uptoSmall }

/-- 'laws.FnTySize', WHERE WHAT IT READS IS OF BULK AT MOST 1048576: true; the input reads as it did. -/
def fnTySizeUptoRow : OpenClaim := { program := "ytenjlgcdbnddjaa", sum := "0cdd186bb33e391a41bd6909048e9933538cc63d02ceb16ed11e3e6f2280b27e", func := "loop.example/g00508/laws.FnTySize", spec := "fnTySize", unfollowed := true, recurses := true, apart := false, narrowed := true }
def FnTySizeUptoSaid : Prop := fnTySizeUptoRow.holds Try.pinned (OpenSpec.upto fnTySizeSpec)

/-- 'laws.FnExactIsValidType', WHERE WHAT IT READS IS OF BULK AT MOST 1048576: true; the input reads as it did. -/
def fnExactIsValidTypeUptoRow : OpenClaim := { program := "ytenjlgcdbnddjaa", sum := "0cdd186bb33e391a41bd6909048e9933538cc63d02ceb16ed11e3e6f2280b27e", func := "loop.example/g00508/laws.FnExactIsValidType", spec := "fnExactIsValidType", unfollowed := true, recurses := true, loops := true, apart := false, narrowed := true }
def FnExactIsValidTypeUptoSaid : Prop := fnExactIsValidTypeUptoRow.holds Try.pinned (OpenSpec.upto fnExactIsValidTypeSpec)

/-- 'laws.FnExactEqualType', WHERE WHAT IT READS IS OF BULK AT MOST 1048576: true; the input reads as it did. -/
def fnExactEqualTypeUptoRow : OpenClaim := { program := "ytenjlgcdbnddjaa", sum := "0cdd186bb33e391a41bd6909048e9933538cc63d02ceb16ed11e3e6f2280b27e", func := "loop.example/g00508/laws.FnExactEqualType", spec := "fnExactEqualType", unfollowed := true, recurses := true, loops := true, apart := false, narrowed := true }
def FnExactEqualTypeUptoSaid : Prop := fnExactEqualTypeUptoRow.holds Try.pinned (OpenSpec.upto fnExactEqualTypeSpec)

/-- 'laws.FnExactTypeSize', WHERE WHAT IT READS IS OF BULK AT MOST 1048576: true; the input reads as it did. -/
def fnExactTypeSizeUptoRow : OpenClaim := { program := "ytenjlgcdbnddjaa", sum := "0cdd186bb33e391a41bd6909048e9933538cc63d02ceb16ed11e3e6f2280b27e", func := "loop.example/g00508/laws.FnExactTypeSize", spec := "fnExactTypeSize", unfollowed := true, recurses := true, loops := true, apart := false, narrowed := true }
def FnExactTypeSizeUptoSaid : Prop := fnExactTypeSizeUptoRow.holds Try.pinned (OpenSpec.upto fnExactTypeSizeSpec)

/-- 'laws.FnExactTypeDepth', WHERE WHAT IT READS IS OF BULK AT MOST 1048576: true; the input reads as it did. -/
def fnExactTypeDepthUptoRow : OpenClaim := { program := "ytenjlgcdbnddjaa", sum := "0cdd186bb33e391a41bd6909048e9933538cc63d02ceb16ed11e3e6f2280b27e", func := "loop.example/g00508/laws.FnExactTypeDepth", spec := "fnExactTypeDepth", unfollowed := true, recurses := true, loops := true, apart := false, narrowed := true }
def FnExactTypeDepthUptoSaid : Prop := fnExactTypeDepthUptoRow.holds Try.pinned (OpenSpec.upto fnExactTypeDepthSpec)

/-- 'laws.FnExactTypeVariables', WHERE WHAT IT READS IS OF BULK AT MOST 1048576: true; the input reads as it did. -/
def fnExactTypeVariablesUptoRow : OpenClaim := { program := "ytenjlgcdbnddjaa", sum := "0cdd186bb33e391a41bd6909048e9933538cc63d02ceb16ed11e3e6f2280b27e", func := "loop.example/g00508/laws.FnExactTypeVariables", spec := "fnExactTypeVariables", unfollowed := true, recurses := true, loops := true, apart := false, narrowed := true }
def FnExactTypeVariablesUptoSaid : Prop := fnExactTypeVariablesUptoRow.holds Try.pinned (OpenSpec.upto fnExactTypeVariablesSpec)

/-- 'laws.FnExactCountTypeVariable', WHERE WHAT IT READS IS OF BULK AT MOST 1048576: true; the input reads as it did. -/
def fnExactCountTypeVariableUptoRow : OpenClaim := { program := "ytenjlgcdbnddjaa", sum := "0cdd186bb33e391a41bd6909048e9933538cc63d02ceb16ed11e3e6f2280b27e", func := "loop.example/g00508/laws.FnExactCountTypeVariable", spec := "fnExactCountTypeVariable", unfollowed := true, recurses := true, loops := true, apart := false, narrowed := true }
def FnExactCountTypeVariableUptoSaid : Prop := fnExactCountTypeVariableUptoRow.holds Try.pinned (OpenSpec.upto fnExactCountTypeVariableSpec)

/-- 'laws.FnExactHasProjection', WHERE WHAT IT READS IS OF BULK AT MOST 1048576: true; the input reads as it did. -/
def fnExactHasProjectionUptoRow : OpenClaim := { program := "ytenjlgcdbnddjaa", sum := "0cdd186bb33e391a41bd6909048e9933538cc63d02ceb16ed11e3e6f2280b27e", func := "loop.example/g00508/laws.FnExactHasProjection", spec := "fnExactHasProjection", unfollowed := true, recurses := true, loops := true, apart := false, narrowed := true }
def FnExactHasProjectionUptoSaid : Prop := fnExactHasProjectionUptoRow.holds Try.pinned (OpenSpec.upto fnExactHasProjectionSpec)

end Rows
end Go.Proofs.Ytenjlgcdbnddjaa
