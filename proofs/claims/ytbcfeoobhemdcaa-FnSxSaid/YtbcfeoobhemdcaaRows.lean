/-
  NARROWER THAN 'FOR EVERY INPUT', by the rows' own cells (each row's printed sentence says how): FnExactIsValidSExpr: loops · FnExactSExprSize: loops · FnExactEqualSExpr: loops · FnExactEqualType: loops · FnExactTypeToSExpr: loops · FnExactSExprToType: loops · FnExactFormatType: loops.
  DERIVED. THE GIVEN ROWS OF THIS SEAT. 11 by the template 'for every input the law returns true; each argument reads behind the call as it read before'; 0 by the template 'total and deterministic' (their statements: YtbcfeoobhemdcaaTotals.lean).
  GIVEN WITH THE SEED: the statements are not yours to turn. If you find one false, say at which input.
  Laid BY PROGRAM, IN A SANDBOX (cutbox-rows.mjs): the forced cells as the released guide's own fill.sh prints them over the translation 16eb0ae214876c7c… (all of the seat's roots in one cut). By AI agents, Wed Nov 11 2026. No macro, syntax, notation, axiom, sorry.
-/
import Derived.Test.YtbcfeoobhemdcaaChecked
import GoSem.Claim
import GoSem.ClaimJoined
import GoSem.ClaimMapViews
import Derived.JoinedTies
import Derived.KernelRfl
namespace Go.Proofs.Ytbcfeoobhemdcaa
/- THE CELL 'sum', in the pinned program and in every row, IS THE sha256 OF THE DUMP (.gsa) THAT YtbcfeoobhemdcaaProg.lean LOADS. Nothing in Lean hashes anything: it is a label: what it is worth is what the hold of that sum in a sandbox is worth. -/
noncomputable def Try.pinned : Pinned := { name := "ytbcfeoobhemdcaa", sum := "16eb0ae214876c7c19a0d53b5de1a711e055e2fa34c7a75367ccee120970507b", checked := Try.checked }
namespace Rows
def none {H : Type} : Left H := { results := [], args := [] }

/-- 'laws.FnSx': WHATEVER THE INPUT: true; the input reads as it did. -/
def fnSxSpec : ChangeSpec := { name := "fnSx", fn := fun _ => fun
  | [d] => { results := [.lit (.bool true)], args := [d] }
  | _ => none }
def fnSxRow : OpenClaim := { program := "ytbcfeoobhemdcaa", sum := "16eb0ae214876c7c19a0d53b5de1a711e055e2fa34c7a75367ccee120970507b", func := "loop.example/g00508/laws.FnSx", spec := "fnSx", inPlace := ["internal/abi.NoEscape", "internal/bytealg.MakeNoZero"], unfollowed := true, recurses := true, apart := false }
def FnSxSaid : Prop := fnSxRow.holds Try.pinned (OpenSpec.ofChange fnSxSpec)

/-- ITS FALSE NEIGHBOUR: 'it returns false'. Refute it at one input. -/
def fnSxWrong : ChangeSpec := { name := "fnSx", fn := fun _ => fun
  | [d] => { results := [.lit (.bool false)], args := [d] }
  | _ => none }
def FnSxWrongFalsely : Prop := fnSxRow.holds Try.pinned (OpenSpec.ofChange fnSxWrong)

/-- 'laws.FnTySize': WHATEVER THE INPUT: true; the input reads as it did. -/
def fnTySizeSpec : ChangeSpec := { name := "fnTySize", fn := fun _ => fun
  | [d] => { results := [.lit (.bool true)], args := [d] }
  | _ => none }
def fnTySizeRow : OpenClaim := { program := "ytbcfeoobhemdcaa", sum := "16eb0ae214876c7c19a0d53b5de1a711e055e2fa34c7a75367ccee120970507b", func := "loop.example/g00508/laws.FnTySize", spec := "fnTySize", unfollowed := true, recurses := true, apart := false }
def FnTySizeSaid : Prop := fnTySizeRow.holds Try.pinned (OpenSpec.ofChange fnTySizeSpec)

/-- ITS FALSE NEIGHBOUR: 'it returns false'. Refute it at one input. -/
def fnTySizeWrong : ChangeSpec := { name := "fnTySize", fn := fun _ => fun
  | [d] => { results := [.lit (.bool false)], args := [d] }
  | _ => none }
def FnTySizeWrongFalsely : Prop := fnTySizeRow.holds Try.pinned (OpenSpec.ofChange fnTySizeWrong)

/-- 'laws.FnExactIsValidSExpr': WHATEVER THE INPUT: true; the input reads as it did. -/
def fnExactIsValidSExprSpec : ChangeSpec := { name := "fnExactIsValidSExpr", fn := fun _ => fun
  | [d] => { results := [.lit (.bool true)], args := [d] }
  | _ => none }
def fnExactIsValidSExprRow : OpenClaim := { program := "ytbcfeoobhemdcaa", sum := "16eb0ae214876c7c19a0d53b5de1a711e055e2fa34c7a75367ccee120970507b", func := "loop.example/g00508/laws.FnExactIsValidSExpr", spec := "fnExactIsValidSExpr", recurses := true, loops := true, apart := false }
def FnExactIsValidSExprSaid : Prop := fnExactIsValidSExprRow.holds Try.pinned (OpenSpec.ofChange fnExactIsValidSExprSpec)

/-- ITS FALSE NEIGHBOUR: 'it returns false'. Refute it at one input. -/
def fnExactIsValidSExprWrong : ChangeSpec := { name := "fnExactIsValidSExpr", fn := fun _ => fun
  | [d] => { results := [.lit (.bool false)], args := [d] }
  | _ => none }
def FnExactIsValidSExprWrongFalsely : Prop := fnExactIsValidSExprRow.holds Try.pinned (OpenSpec.ofChange fnExactIsValidSExprWrong)

/-- 'laws.FnExactSExprSize': WHATEVER THE INPUT: true; the input reads as it did. -/
def fnExactSExprSizeSpec : ChangeSpec := { name := "fnExactSExprSize", fn := fun _ => fun
  | [d] => { results := [.lit (.bool true)], args := [d] }
  | _ => none }
def fnExactSExprSizeRow : OpenClaim := { program := "ytbcfeoobhemdcaa", sum := "16eb0ae214876c7c19a0d53b5de1a711e055e2fa34c7a75367ccee120970507b", func := "loop.example/g00508/laws.FnExactSExprSize", spec := "fnExactSExprSize", unfollowed := true, recurses := true, loops := true, apart := false }
def FnExactSExprSizeSaid : Prop := fnExactSExprSizeRow.holds Try.pinned (OpenSpec.ofChange fnExactSExprSizeSpec)

/-- ITS FALSE NEIGHBOUR: 'it returns false'. Refute it at one input. -/
def fnExactSExprSizeWrong : ChangeSpec := { name := "fnExactSExprSize", fn := fun _ => fun
  | [d] => { results := [.lit (.bool false)], args := [d] }
  | _ => none }
def FnExactSExprSizeWrongFalsely : Prop := fnExactSExprSizeRow.holds Try.pinned (OpenSpec.ofChange fnExactSExprSizeWrong)

/-- 'laws.FnExactParseSExpr': WHATEVER THE INPUT: true; the input reads as it did. -/
def fnExactParseSExprSpec : ChangeSpec := { name := "fnExactParseSExpr", fn := fun _ => fun
  | [d] => { results := [.lit (.bool true)], args := [d] }
  | _ => none }
def fnExactParseSExprRow : OpenClaim := { program := "ytbcfeoobhemdcaa", sum := "16eb0ae214876c7c19a0d53b5de1a711e055e2fa34c7a75367ccee120970507b", func := "loop.example/g00508/laws.FnExactParseSExpr", spec := "fnExactParseSExpr", recurses := true, apart := false }
def FnExactParseSExprSaid : Prop := fnExactParseSExprRow.holds Try.pinned (OpenSpec.ofChange fnExactParseSExprSpec)

/-- ITS FALSE NEIGHBOUR: 'it returns false'. Refute it at one input. -/
def fnExactParseSExprWrong : ChangeSpec := { name := "fnExactParseSExpr", fn := fun _ => fun
  | [d] => { results := [.lit (.bool false)], args := [d] }
  | _ => none }
def FnExactParseSExprWrongFalsely : Prop := fnExactParseSExprRow.holds Try.pinned (OpenSpec.ofChange fnExactParseSExprWrong)

/-- 'laws.FnExactEqualSExpr': WHATEVER THE INPUT: true; the input reads as it did. -/
def fnExactEqualSExprSpec : ChangeSpec := { name := "fnExactEqualSExpr", fn := fun _ => fun
  | [d1, d2] => { results := [.lit (.bool true)], args := [d1, d2] }
  | _ => none }
def fnExactEqualSExprRow : OpenClaim := { program := "ytbcfeoobhemdcaa", sum := "16eb0ae214876c7c19a0d53b5de1a711e055e2fa34c7a75367ccee120970507b", func := "loop.example/g00508/laws.FnExactEqualSExpr", spec := "fnExactEqualSExpr", unfollowed := true, recurses := true, loops := true, apart := false }
def FnExactEqualSExprSaid : Prop := fnExactEqualSExprRow.holds Try.pinned (OpenSpec.ofChange fnExactEqualSExprSpec)

/-- ITS FALSE NEIGHBOUR: 'it returns false'. Refute it at one input. -/
def fnExactEqualSExprWrong : ChangeSpec := { name := "fnExactEqualSExpr", fn := fun _ => fun
  | [d1, d2] => { results := [.lit (.bool false)], args := [d1, d2] }
  | _ => none }
def FnExactEqualSExprWrongFalsely : Prop := fnExactEqualSExprRow.holds Try.pinned (OpenSpec.ofChange fnExactEqualSExprWrong)

/-- 'laws.FnExactEqualType': WHATEVER THE INPUT: true; the input reads as it did. -/
def fnExactEqualTypeSpec : ChangeSpec := { name := "fnExactEqualType", fn := fun _ => fun
  | [d1, d2] => { results := [.lit (.bool true)], args := [d1, d2] }
  | _ => none }
def fnExactEqualTypeRow : OpenClaim := { program := "ytbcfeoobhemdcaa", sum := "16eb0ae214876c7c19a0d53b5de1a711e055e2fa34c7a75367ccee120970507b", func := "loop.example/g00508/laws.FnExactEqualType", spec := "fnExactEqualType", unfollowed := true, recurses := true, loops := true, apart := false }
def FnExactEqualTypeSaid : Prop := fnExactEqualTypeRow.holds Try.pinned (OpenSpec.ofChange fnExactEqualTypeSpec)

/-- ITS FALSE NEIGHBOUR: 'it returns false'. Refute it at one input. -/
def fnExactEqualTypeWrong : ChangeSpec := { name := "fnExactEqualType", fn := fun _ => fun
  | [d1, d2] => { results := [.lit (.bool false)], args := [d1, d2] }
  | _ => none }
def FnExactEqualTypeWrongFalsely : Prop := fnExactEqualTypeRow.holds Try.pinned (OpenSpec.ofChange fnExactEqualTypeWrong)

/-- 'laws.FnExactTypeToSExpr': WHATEVER THE INPUT: true; the input reads as it did. -/
def fnExactTypeToSExprSpec : ChangeSpec := { name := "fnExactTypeToSExpr", fn := fun _ => fun
  | [d] => { results := [.lit (.bool true)], args := [d] }
  | _ => none }
def fnExactTypeToSExprRow : OpenClaim := { program := "ytbcfeoobhemdcaa", sum := "16eb0ae214876c7c19a0d53b5de1a711e055e2fa34c7a75367ccee120970507b", func := "loop.example/g00508/laws.FnExactTypeToSExpr", spec := "fnExactTypeToSExpr", unfollowed := true, recurses := true, loops := true, apart := false }
def FnExactTypeToSExprSaid : Prop := fnExactTypeToSExprRow.holds Try.pinned (OpenSpec.ofChange fnExactTypeToSExprSpec)

/-- ITS FALSE NEIGHBOUR: 'it returns false'. Refute it at one input. -/
def fnExactTypeToSExprWrong : ChangeSpec := { name := "fnExactTypeToSExpr", fn := fun _ => fun
  | [d] => { results := [.lit (.bool false)], args := [d] }
  | _ => none }
def FnExactTypeToSExprWrongFalsely : Prop := fnExactTypeToSExprRow.holds Try.pinned (OpenSpec.ofChange fnExactTypeToSExprWrong)

/-- 'laws.FnExactSExprToType': WHATEVER THE INPUT: true; the input reads as it did. -/
def fnExactSExprToTypeSpec : ChangeSpec := { name := "fnExactSExprToType", fn := fun _ => fun
  | [d] => { results := [.lit (.bool true)], args := [d] }
  | _ => none }
def fnExactSExprToTypeRow : OpenClaim := { program := "ytbcfeoobhemdcaa", sum := "16eb0ae214876c7c19a0d53b5de1a711e055e2fa34c7a75367ccee120970507b", func := "loop.example/g00508/laws.FnExactSExprToType", spec := "fnExactSExprToType", unfollowed := true, recurses := true, loops := true, apart := false }
def FnExactSExprToTypeSaid : Prop := fnExactSExprToTypeRow.holds Try.pinned (OpenSpec.ofChange fnExactSExprToTypeSpec)

/-- ITS FALSE NEIGHBOUR: 'it returns false'. Refute it at one input. -/
def fnExactSExprToTypeWrong : ChangeSpec := { name := "fnExactSExprToType", fn := fun _ => fun
  | [d] => { results := [.lit (.bool false)], args := [d] }
  | _ => none }
def FnExactSExprToTypeWrongFalsely : Prop := fnExactSExprToTypeRow.holds Try.pinned (OpenSpec.ofChange fnExactSExprToTypeWrong)

/-- 'laws.FnExactFormatType': WHATEVER THE INPUT: true; the input reads as it did. -/
def fnExactFormatTypeSpec : ChangeSpec := { name := "fnExactFormatType", fn := fun _ => fun
  | [d] => { results := [.lit (.bool true)], args := [d] }
  | _ => none }
def fnExactFormatTypeRow : OpenClaim := { program := "ytbcfeoobhemdcaa", sum := "16eb0ae214876c7c19a0d53b5de1a711e055e2fa34c7a75367ccee120970507b", func := "loop.example/g00508/laws.FnExactFormatType", spec := "fnExactFormatType", inPlace := ["internal/abi.NoEscape", "internal/bytealg.MakeNoZero"], unfollowed := true, recurses := true, loops := true, apart := false }
def FnExactFormatTypeSaid : Prop := fnExactFormatTypeRow.holds Try.pinned (OpenSpec.ofChange fnExactFormatTypeSpec)

/-- ITS FALSE NEIGHBOUR: 'it returns false'. Refute it at one input. -/
def fnExactFormatTypeWrong : ChangeSpec := { name := "fnExactFormatType", fn := fun _ => fun
  | [d] => { results := [.lit (.bool false)], args := [d] }
  | _ => none }
def FnExactFormatTypeWrongFalsely : Prop := fnExactFormatTypeRow.holds Try.pinned (OpenSpec.ofChange fnExactFormatTypeWrong)

/-- 'laws.FnExactParseType': WHATEVER THE INPUT: true; the input reads as it did. -/
def fnExactParseTypeSpec : ChangeSpec := { name := "fnExactParseType", fn := fun _ => fun
  | [d] => { results := [.lit (.bool true)], args := [d] }
  | _ => none }
def fnExactParseTypeRow : OpenClaim := { program := "ytbcfeoobhemdcaa", sum := "16eb0ae214876c7c19a0d53b5de1a711e055e2fa34c7a75367ccee120970507b", func := "loop.example/g00508/laws.FnExactParseType", spec := "fnExactParseType", unfollowed := true, recurses := true, apart := false }
def FnExactParseTypeSaid : Prop := fnExactParseTypeRow.holds Try.pinned (OpenSpec.ofChange fnExactParseTypeSpec)

/-- ITS FALSE NEIGHBOUR: 'it returns false'. Refute it at one input. -/
def fnExactParseTypeWrong : ChangeSpec := { name := "fnExactParseType", fn := fun _ => fun
  | [d] => { results := [.lit (.bool false)], args := [d] }
  | _ => none }
def FnExactParseTypeWrongFalsely : Prop := fnExactParseTypeRow.holds Try.pinned (OpenSpec.ofChange fnExactParseTypeWrong)

/- THE SECOND FORM. 'bulk': how many values and letters a reading holds, each counted each time it is reached (what is shared counts as often as it is met; a slice's spare places count too). A statement '..UptoSaid' is the law's where the arguments, and the package variables that the reading takes, are together of bulk at most 1048576: NARROWER than '..Said'. Prove '..Said' where nothing that the law and all that it calls make is longer than what came in: it says more and counts as full. Else prove '..UptoSaid'. A law counts once. -/
mutual
def uptoBulk {H : Type} : DataW H → Nat
  | .lit (.string bytes) => bytes.length + 1
  | .lit _ => 1
  | .nil => 1
  | .ptr d => uptoBulk d + 1
  | .slice elems spare => uptoBulkAll elems + uptoBulkAll spare + 1
  | .agg parts => uptoBulkAll parts + 1
  | .iface _ d => uptoBulk d + 1
  | .map entries => uptoBulkEntries entries + 1
  | .held _ => 1
def uptoBulkAll {H : Type} : List (DataW H) → Nat
  | [] => 0
  | d :: r => uptoBulk d + uptoBulkAll r
def uptoBulkEntries {H : Type} : List (Lit × DataW H) → Nat
  | [] => 0
  | x :: r => uptoBulkEntry x + uptoBulkEntries r
def uptoBulkEntry {H : Type} : Lit × DataW H → Nat
  | (.string bytes, d) => bytes.length + uptoBulk d + 1
  | (_, d) => uptoBulk d + 1
 end
def uptoSmall : (H : Type) → List (DataW H) → Bool := fun _ ds => decide (uptoBulkAll ds ≤ 1048576)
def OpenSpec.upto (s : _root_.Go.ChangeSpec) : _root_.Go.OpenSpec := { _root_.Go.OpenSpec.ofChange s with cond := some uptoSmall }

/-- 'laws.FnSx', WHERE WHAT IT READS IS OF BULK AT MOST 1048576: true; the input reads as it did. -/
def fnSxUptoRow : OpenClaim := { program := "ytbcfeoobhemdcaa", sum := "16eb0ae214876c7c19a0d53b5de1a711e055e2fa34c7a75367ccee120970507b", func := "loop.example/g00508/laws.FnSx", spec := "fnSx", inPlace := ["internal/abi.NoEscape", "internal/bytealg.MakeNoZero"], unfollowed := true, recurses := true, apart := false, narrowed := true }
def FnSxUptoSaid : Prop := fnSxUptoRow.holds Try.pinned (OpenSpec.upto fnSxSpec)

/-- 'laws.FnTySize', WHERE WHAT IT READS IS OF BULK AT MOST 1048576: true; the input reads as it did. -/
def fnTySizeUptoRow : OpenClaim := { program := "ytbcfeoobhemdcaa", sum := "16eb0ae214876c7c19a0d53b5de1a711e055e2fa34c7a75367ccee120970507b", func := "loop.example/g00508/laws.FnTySize", spec := "fnTySize", unfollowed := true, recurses := true, apart := false, narrowed := true }
def FnTySizeUptoSaid : Prop := fnTySizeUptoRow.holds Try.pinned (OpenSpec.upto fnTySizeSpec)

/-- 'laws.FnExactIsValidSExpr', WHERE WHAT IT READS IS OF BULK AT MOST 1048576: true; the input reads as it did. -/
def fnExactIsValidSExprUptoRow : OpenClaim := { program := "ytbcfeoobhemdcaa", sum := "16eb0ae214876c7c19a0d53b5de1a711e055e2fa34c7a75367ccee120970507b", func := "loop.example/g00508/laws.FnExactIsValidSExpr", spec := "fnExactIsValidSExpr", recurses := true, loops := true, apart := false, narrowed := true }
def FnExactIsValidSExprUptoSaid : Prop := fnExactIsValidSExprUptoRow.holds Try.pinned (OpenSpec.upto fnExactIsValidSExprSpec)

/-- 'laws.FnExactSExprSize', WHERE WHAT IT READS IS OF BULK AT MOST 1048576: true; the input reads as it did. -/
def fnExactSExprSizeUptoRow : OpenClaim := { program := "ytbcfeoobhemdcaa", sum := "16eb0ae214876c7c19a0d53b5de1a711e055e2fa34c7a75367ccee120970507b", func := "loop.example/g00508/laws.FnExactSExprSize", spec := "fnExactSExprSize", unfollowed := true, recurses := true, loops := true, apart := false, narrowed := true }
def FnExactSExprSizeUptoSaid : Prop := fnExactSExprSizeUptoRow.holds Try.pinned (OpenSpec.upto fnExactSExprSizeSpec)

/-- 'laws.FnExactParseSExpr', WHERE WHAT IT READS IS OF BULK AT MOST 1048576: true; the input reads as it did. -/
def fnExactParseSExprUptoRow : OpenClaim := { program := "ytbcfeoobhemdcaa", sum := "16eb0ae214876c7c19a0d53b5de1a711e055e2fa34c7a75367ccee120970507b", func := "loop.example/g00508/laws.FnExactParseSExpr", spec := "fnExactParseSExpr", recurses := true, apart := false, narrowed := true }
def FnExactParseSExprUptoSaid : Prop := fnExactParseSExprUptoRow.holds Try.pinned (OpenSpec.upto fnExactParseSExprSpec)

/-- 'laws.FnExactEqualSExpr', WHERE WHAT IT READS IS OF BULK AT MOST 1048576: true; the input reads as it did. -/
def fnExactEqualSExprUptoRow : OpenClaim := { program := "ytbcfeoobhemdcaa", sum := "16eb0ae214876c7c19a0d53b5de1a711e055e2fa34c7a75367ccee120970507b", func := "loop.example/g00508/laws.FnExactEqualSExpr", spec := "fnExactEqualSExpr", unfollowed := true, recurses := true, loops := true, apart := false, narrowed := true }
def FnExactEqualSExprUptoSaid : Prop := fnExactEqualSExprUptoRow.holds Try.pinned (OpenSpec.upto fnExactEqualSExprSpec)

/-- 'laws.FnExactEqualType', WHERE WHAT IT READS IS OF BULK AT MOST 1048576: true; the input reads as it did. -/
def fnExactEqualTypeUptoRow : OpenClaim := { program := "ytbcfeoobhemdcaa", sum := "16eb0ae214876c7c19a0d53b5de1a711e055e2fa34c7a75367ccee120970507b", func := "loop.example/g00508/laws.FnExactEqualType", spec := "fnExactEqualType", unfollowed := true, recurses := true, loops := true, apart := false, narrowed := true }
def FnExactEqualTypeUptoSaid : Prop := fnExactEqualTypeUptoRow.holds Try.pinned (OpenSpec.upto fnExactEqualTypeSpec)

/-- 'laws.FnExactTypeToSExpr', WHERE WHAT IT READS IS OF BULK AT MOST 1048576: true; the input reads as it did. -/
def fnExactTypeToSExprUptoRow : OpenClaim := { program := "ytbcfeoobhemdcaa", sum := "16eb0ae214876c7c19a0d53b5de1a711e055e2fa34c7a75367ccee120970507b", func := "loop.example/g00508/laws.FnExactTypeToSExpr", spec := "fnExactTypeToSExpr", unfollowed := true, recurses := true, loops := true, apart := false, narrowed := true }
def FnExactTypeToSExprUptoSaid : Prop := fnExactTypeToSExprUptoRow.holds Try.pinned (OpenSpec.upto fnExactTypeToSExprSpec)

/-- 'laws.FnExactSExprToType', WHERE WHAT IT READS IS OF BULK AT MOST 1048576: true; the input reads as it did. -/
def fnExactSExprToTypeUptoRow : OpenClaim := { program := "ytbcfeoobhemdcaa", sum := "16eb0ae214876c7c19a0d53b5de1a711e055e2fa34c7a75367ccee120970507b", func := "loop.example/g00508/laws.FnExactSExprToType", spec := "fnExactSExprToType", unfollowed := true, recurses := true, loops := true, apart := false, narrowed := true }
def FnExactSExprToTypeUptoSaid : Prop := fnExactSExprToTypeUptoRow.holds Try.pinned (OpenSpec.upto fnExactSExprToTypeSpec)

/-- 'laws.FnExactFormatType', WHERE WHAT IT READS IS OF BULK AT MOST 1048576: true; the input reads as it did. -/
def fnExactFormatTypeUptoRow : OpenClaim := { program := "ytbcfeoobhemdcaa", sum := "16eb0ae214876c7c19a0d53b5de1a711e055e2fa34c7a75367ccee120970507b", func := "loop.example/g00508/laws.FnExactFormatType", spec := "fnExactFormatType", inPlace := ["internal/abi.NoEscape", "internal/bytealg.MakeNoZero"], unfollowed := true, recurses := true, loops := true, apart := false, narrowed := true }
def FnExactFormatTypeUptoSaid : Prop := fnExactFormatTypeUptoRow.holds Try.pinned (OpenSpec.upto fnExactFormatTypeSpec)

/-- 'laws.FnExactParseType', WHERE WHAT IT READS IS OF BULK AT MOST 1048576: true; the input reads as it did. -/
def fnExactParseTypeUptoRow : OpenClaim := { program := "ytbcfeoobhemdcaa", sum := "16eb0ae214876c7c19a0d53b5de1a711e055e2fa34c7a75367ccee120970507b", func := "loop.example/g00508/laws.FnExactParseType", spec := "fnExactParseType", unfollowed := true, recurses := true, apart := false, narrowed := true }
def FnExactParseTypeUptoSaid : Prop := fnExactParseTypeUptoRow.holds Try.pinned (OpenSpec.upto fnExactParseTypeSpec)

end Rows
end Go.Proofs.Ytbcfeoobhemdcaa
