/-
  NARROWER THAN 'FOR EVERY INPUT', by the rows' own cells (each row's printed sentence says how): FnExactIsValidSExpr: loops · FnExactSExprSize: loops · FnExactSExprDepth: loops · FnExactFormatSExpr: loops · FnExactEqualSExpr: loops.
  DERIVED. THE GIVEN ROWS OF THIS SEAT. 10 by the template 'for every input the law returns true; each argument reads behind the call as it read before'; 0 by the template 'total and deterministic' (their statements: YtbnfdjhcakimhaaTotals.lean).
  GIVEN WITH THE SEED: the statements are not yours to turn. If you find one false, say at which input.
  Laid BY PROGRAM, IN A SANDBOX (cutbox-rows.mjs): the forced cells as the released guide's own fill.sh prints them over the translation 2c877cd1120c0f5a… (all of the seat's roots in one cut). By AI agents, Wed Nov 11 2026. No macro, syntax, notation, axiom, sorry.
-/
import Derived.Test.YtbnfdjhcakimhaaChecked
import GoSem.Claim
import GoSem.ClaimJoined
import GoSem.ClaimMapViews
import Derived.JoinedTies
import Derived.KernelRfl
namespace Go.Proofs.Ytbnfdjhcakimhaa
/- THE CELL 'sum', in the pinned program and in every row, IS THE sha256 OF THE DUMP (.gsa) THAT YtbnfdjhcakimhaaProg.lean LOADS. Nothing in Lean hashes anything: it is a label: what it is worth is what the hold of that sum in a sandbox is worth. -/
noncomputable def Try.pinned : Pinned := { name := "ytbnfdjhcakimhaa", sum := "2c877cd1120c0f5a687b1f71039f5a37465e0ee35fd000d2884a863951a56523", checked := Try.checked }
namespace Rows
def none {H : Type} : Left H := { results := [], args := [] }

/-- 'laws.FnSx': WHATEVER THE INPUT: true; the input reads as it did. -/
def fnSxSpec : ChangeSpec := { name := "fnSx", fn := fun _ => fun
  | [d] => { results := [.lit (.bool true)], args := [d] }
  | _ => none }
def fnSxRow : OpenClaim := { program := "ytbnfdjhcakimhaa", sum := "2c877cd1120c0f5a687b1f71039f5a37465e0ee35fd000d2884a863951a56523", func := "loop.example/g00508/laws.FnSx", spec := "fnSx", inPlace := ["internal/abi.NoEscape", "internal/bytealg.MakeNoZero"], unfollowed := true, recurses := true, apart := false }
def FnSxSaid : Prop := fnSxRow.holds Try.pinned (OpenSpec.ofChange fnSxSpec)

/-- ITS FALSE NEIGHBOUR: 'it returns false'. Refute it at one input. -/
def fnSxWrong : ChangeSpec := { name := "fnSx", fn := fun _ => fun
  | [d] => { results := [.lit (.bool false)], args := [d] }
  | _ => none }
def FnSxWrongFalsely : Prop := fnSxRow.holds Try.pinned (OpenSpec.ofChange fnSxWrong)

/-- 'laws.FnSxBlanks': WHATEVER THE INPUT: true; the input reads as it did. -/
def fnSxBlanksSpec : ChangeSpec := { name := "fnSxBlanks", fn := fun _ => fun
  | [d] => { results := [.lit (.bool true)], args := [d] }
  | _ => none }
def fnSxBlanksRow : OpenClaim := { program := "ytbnfdjhcakimhaa", sum := "2c877cd1120c0f5a687b1f71039f5a37465e0ee35fd000d2884a863951a56523", func := "loop.example/g00508/laws.FnSxBlanks", spec := "fnSxBlanks", unfollowed := true, recurses := true, apart := false }
def FnSxBlanksSaid : Prop := fnSxBlanksRow.holds Try.pinned (OpenSpec.ofChange fnSxBlanksSpec)

/-- ITS FALSE NEIGHBOUR: 'it returns false'. Refute it at one input. -/
def fnSxBlanksWrong : ChangeSpec := { name := "fnSxBlanks", fn := fun _ => fun
  | [d] => { results := [.lit (.bool false)], args := [d] }
  | _ => none }
def FnSxBlanksWrongFalsely : Prop := fnSxBlanksRow.holds Try.pinned (OpenSpec.ofChange fnSxBlanksWrong)

/-- 'laws.FnSxSize': WHATEVER THE INPUT: true; the input reads as it did. -/
def fnSxSizeSpec : ChangeSpec := { name := "fnSxSize", fn := fun _ => fun
  | [d] => { results := [.lit (.bool true)], args := [d] }
  | _ => none }
def fnSxSizeRow : OpenClaim := { program := "ytbnfdjhcakimhaa", sum := "2c877cd1120c0f5a687b1f71039f5a37465e0ee35fd000d2884a863951a56523", func := "loop.example/g00508/laws.FnSxSize", spec := "fnSxSize", unfollowed := true, recurses := true, apart := false }
def FnSxSizeSaid : Prop := fnSxSizeRow.holds Try.pinned (OpenSpec.ofChange fnSxSizeSpec)

/-- ITS FALSE NEIGHBOUR: 'it returns false'. Refute it at one input. -/
def fnSxSizeWrong : ChangeSpec := { name := "fnSxSize", fn := fun _ => fun
  | [d] => { results := [.lit (.bool false)], args := [d] }
  | _ => none }
def FnSxSizeWrongFalsely : Prop := fnSxSizeRow.holds Try.pinned (OpenSpec.ofChange fnSxSizeWrong)

/-- 'laws.FnExactIsValidAtom': WHATEVER THE INPUT: true; the input reads as it did. -/
def fnExactIsValidAtomSpec : ChangeSpec := { name := "fnExactIsValidAtom", fn := fun _ => fun
  | [d] => { results := [.lit (.bool true)], args := [d] }
  | _ => none }
def fnExactIsValidAtomRow : OpenClaim := { program := "ytbnfdjhcakimhaa", sum := "2c877cd1120c0f5a687b1f71039f5a37465e0ee35fd000d2884a863951a56523", func := "loop.example/g00508/laws.FnExactIsValidAtom", spec := "fnExactIsValidAtom", apart := false }
def FnExactIsValidAtomSaid : Prop := fnExactIsValidAtomRow.holds Try.pinned (OpenSpec.ofChange fnExactIsValidAtomSpec)

/-- ITS FALSE NEIGHBOUR: 'it returns false'. Refute it at one input. -/
def fnExactIsValidAtomWrong : ChangeSpec := { name := "fnExactIsValidAtom", fn := fun _ => fun
  | [d] => { results := [.lit (.bool false)], args := [d] }
  | _ => none }
def FnExactIsValidAtomWrongFalsely : Prop := fnExactIsValidAtomRow.holds Try.pinned (OpenSpec.ofChange fnExactIsValidAtomWrong)

/-- 'laws.FnExactIsValidSExpr': WHATEVER THE INPUT: true; the input reads as it did. -/
def fnExactIsValidSExprSpec : ChangeSpec := { name := "fnExactIsValidSExpr", fn := fun _ => fun
  | [d] => { results := [.lit (.bool true)], args := [d] }
  | _ => none }
def fnExactIsValidSExprRow : OpenClaim := { program := "ytbnfdjhcakimhaa", sum := "2c877cd1120c0f5a687b1f71039f5a37465e0ee35fd000d2884a863951a56523", func := "loop.example/g00508/laws.FnExactIsValidSExpr", spec := "fnExactIsValidSExpr", recurses := true, loops := true, apart := false }
def FnExactIsValidSExprSaid : Prop := fnExactIsValidSExprRow.holds Try.pinned (OpenSpec.ofChange fnExactIsValidSExprSpec)

/-- ITS FALSE NEIGHBOUR: 'it returns false'. Refute it at one input. -/
def fnExactIsValidSExprWrong : ChangeSpec := { name := "fnExactIsValidSExpr", fn := fun _ => fun
  | [d] => { results := [.lit (.bool false)], args := [d] }
  | _ => none }
def FnExactIsValidSExprWrongFalsely : Prop := fnExactIsValidSExprRow.holds Try.pinned (OpenSpec.ofChange fnExactIsValidSExprWrong)

/-- 'laws.FnExactSExprSize': WHATEVER THE INPUT: true; the input reads as it did. -/
def fnExactSExprSizeSpec : ChangeSpec := { name := "fnExactSExprSize", fn := fun _ => fun
  | [d] => { results := [.lit (.bool true)], args := [d] }
  | _ => none }
def fnExactSExprSizeRow : OpenClaim := { program := "ytbnfdjhcakimhaa", sum := "2c877cd1120c0f5a687b1f71039f5a37465e0ee35fd000d2884a863951a56523", func := "loop.example/g00508/laws.FnExactSExprSize", spec := "fnExactSExprSize", unfollowed := true, recurses := true, loops := true, apart := false }
def FnExactSExprSizeSaid : Prop := fnExactSExprSizeRow.holds Try.pinned (OpenSpec.ofChange fnExactSExprSizeSpec)

/-- ITS FALSE NEIGHBOUR: 'it returns false'. Refute it at one input. -/
def fnExactSExprSizeWrong : ChangeSpec := { name := "fnExactSExprSize", fn := fun _ => fun
  | [d] => { results := [.lit (.bool false)], args := [d] }
  | _ => none }
def FnExactSExprSizeWrongFalsely : Prop := fnExactSExprSizeRow.holds Try.pinned (OpenSpec.ofChange fnExactSExprSizeWrong)

/-- 'laws.FnExactSExprDepth': WHATEVER THE INPUT: true; the input reads as it did. -/
def fnExactSExprDepthSpec : ChangeSpec := { name := "fnExactSExprDepth", fn := fun _ => fun
  | [d] => { results := [.lit (.bool true)], args := [d] }
  | _ => none }
def fnExactSExprDepthRow : OpenClaim := { program := "ytbnfdjhcakimhaa", sum := "2c877cd1120c0f5a687b1f71039f5a37465e0ee35fd000d2884a863951a56523", func := "loop.example/g00508/laws.FnExactSExprDepth", spec := "fnExactSExprDepth", unfollowed := true, recurses := true, loops := true, apart := false }
def FnExactSExprDepthSaid : Prop := fnExactSExprDepthRow.holds Try.pinned (OpenSpec.ofChange fnExactSExprDepthSpec)

/-- ITS FALSE NEIGHBOUR: 'it returns false'. Refute it at one input. -/
def fnExactSExprDepthWrong : ChangeSpec := { name := "fnExactSExprDepth", fn := fun _ => fun
  | [d] => { results := [.lit (.bool false)], args := [d] }
  | _ => none }
def FnExactSExprDepthWrongFalsely : Prop := fnExactSExprDepthRow.holds Try.pinned (OpenSpec.ofChange fnExactSExprDepthWrong)

/-- 'laws.FnExactParseSExpr': WHATEVER THE INPUT: true; the input reads as it did. -/
def fnExactParseSExprSpec : ChangeSpec := { name := "fnExactParseSExpr", fn := fun _ => fun
  | [d] => { results := [.lit (.bool true)], args := [d] }
  | _ => none }
def fnExactParseSExprRow : OpenClaim := { program := "ytbnfdjhcakimhaa", sum := "2c877cd1120c0f5a687b1f71039f5a37465e0ee35fd000d2884a863951a56523", func := "loop.example/g00508/laws.FnExactParseSExpr", spec := "fnExactParseSExpr", recurses := true, apart := false }
def FnExactParseSExprSaid : Prop := fnExactParseSExprRow.holds Try.pinned (OpenSpec.ofChange fnExactParseSExprSpec)

/-- ITS FALSE NEIGHBOUR: 'it returns false'. Refute it at one input. -/
def fnExactParseSExprWrong : ChangeSpec := { name := "fnExactParseSExpr", fn := fun _ => fun
  | [d] => { results := [.lit (.bool false)], args := [d] }
  | _ => none }
def FnExactParseSExprWrongFalsely : Prop := fnExactParseSExprRow.holds Try.pinned (OpenSpec.ofChange fnExactParseSExprWrong)

/-- 'laws.FnExactFormatSExpr': WHATEVER THE INPUT: true; the input reads as it did. -/
def fnExactFormatSExprSpec : ChangeSpec := { name := "fnExactFormatSExpr", fn := fun _ => fun
  | [d] => { results := [.lit (.bool true)], args := [d] }
  | _ => none }
def fnExactFormatSExprRow : OpenClaim := { program := "ytbnfdjhcakimhaa", sum := "2c877cd1120c0f5a687b1f71039f5a37465e0ee35fd000d2884a863951a56523", func := "loop.example/g00508/laws.FnExactFormatSExpr", spec := "fnExactFormatSExpr", inPlace := ["internal/abi.NoEscape", "internal/bytealg.MakeNoZero"], recurses := true, loops := true, apart := false }
def FnExactFormatSExprSaid : Prop := fnExactFormatSExprRow.holds Try.pinned (OpenSpec.ofChange fnExactFormatSExprSpec)

/-- ITS FALSE NEIGHBOUR: 'it returns false'. Refute it at one input. -/
def fnExactFormatSExprWrong : ChangeSpec := { name := "fnExactFormatSExpr", fn := fun _ => fun
  | [d] => { results := [.lit (.bool false)], args := [d] }
  | _ => none }
def FnExactFormatSExprWrongFalsely : Prop := fnExactFormatSExprRow.holds Try.pinned (OpenSpec.ofChange fnExactFormatSExprWrong)

/-- 'laws.FnExactEqualSExpr': WHATEVER THE INPUT: true; the input reads as it did. -/
def fnExactEqualSExprSpec : ChangeSpec := { name := "fnExactEqualSExpr", fn := fun _ => fun
  | [d1, d2] => { results := [.lit (.bool true)], args := [d1, d2] }
  | _ => none }
def fnExactEqualSExprRow : OpenClaim := { program := "ytbnfdjhcakimhaa", sum := "2c877cd1120c0f5a687b1f71039f5a37465e0ee35fd000d2884a863951a56523", func := "loop.example/g00508/laws.FnExactEqualSExpr", spec := "fnExactEqualSExpr", unfollowed := true, recurses := true, loops := true, apart := false }
def FnExactEqualSExprSaid : Prop := fnExactEqualSExprRow.holds Try.pinned (OpenSpec.ofChange fnExactEqualSExprSpec)

/-- ITS FALSE NEIGHBOUR: 'it returns false'. Refute it at one input. -/
def fnExactEqualSExprWrong : ChangeSpec := { name := "fnExactEqualSExpr", fn := fun _ => fun
  | [d1, d2] => { results := [.lit (.bool false)], args := [d1, d2] }
  | _ => none }
def FnExactEqualSExprWrongFalsely : Prop := fnExactEqualSExprRow.holds Try.pinned (OpenSpec.ofChange fnExactEqualSExprWrong)

/- THE SECOND FORM. 'bulk': how many values and letters a reading holds, each counted each time it is reached (what is shared counts as often as it is met; a slice's spare places count too). A statement '..UptoSaid' is the law's where the arguments, and the package variables that the reading takes, are together of bulk at most 1048576: NARROWER than '..Said'. Prove '..Said' where nothing that the law and all that it calls make is longer than what came in: it says more and counts as full. Else prove '..UptoSaid'. A law counts once. -/
mutual
def uptoBulk {H : Type} : DataW H → Nat
  | .lit (.string bytes) => bytes.length + 1
  | .lit _ => 1
  | .nil => 1
  | .ptr d => uptoBulk d + 1
  | .slice elems spare => uptoBulkAll elems + uptoBulkAll spare + 1
  | .agg parts => uptoBulkAll parts + 1
  | .iface _ d => uptoBulk d + 1
  | .map entries => uptoBulkEntries entries + 1
  | .held _ => 1
def uptoBulkAll {H : Type} : List (DataW H) → Nat
  | [] => 0
  | d :: r => uptoBulk d + uptoBulkAll r
def uptoBulkEntries {H : Type} : List (Lit × DataW H) → Nat
  | [] => 0
  | x :: r => uptoBulkEntry x + uptoBulkEntries r
def uptoBulkEntry {H : Type} : Lit × DataW H → Nat
  | (.string bytes, d) => bytes.length + uptoBulk d + 1
  | (_, d) => uptoBulk d + 1
 end
def uptoSmall : (H : Type) → List (DataW H) → Bool := fun _ ds => decide (uptoBulkAll ds ≤ 1048576)
def OpenSpec.upto (s : _root_.Go.ChangeSpec) : _root_.Go.OpenSpec := { _root_.Go.OpenSpec.ofChange s with cond := some uptoSmall }

/-- 'laws.FnSx', WHERE WHAT IT READS IS OF BULK AT MOST 1048576: true; the input reads as it did. -/
def fnSxUptoRow : OpenClaim := { program := "ytbnfdjhcakimhaa", sum := "2c877cd1120c0f5a687b1f71039f5a37465e0ee35fd000d2884a863951a56523", func := "loop.example/g00508/laws.FnSx", spec := "fnSx", inPlace := ["internal/abi.NoEscape", "internal/bytealg.MakeNoZero"], unfollowed := true, recurses := true, apart := false, narrowed := true }
def FnSxUptoSaid : Prop := fnSxUptoRow.holds Try.pinned (OpenSpec.upto fnSxSpec)

/-- 'laws.FnSxBlanks', WHERE WHAT IT READS IS OF BULK AT MOST 1048576: true; the input reads as it did. -/
def fnSxBlanksUptoRow : OpenClaim := { program := "ytbnfdjhcakimhaa", sum := "2c877cd1120c0f5a687b1f71039f5a37465e0ee35fd000d2884a863951a56523", func := "loop.example/g00508/laws.FnSxBlanks", spec := "fnSxBlanks", unfollowed := true, recurses := true, apart := false, narrowed := true }
def FnSxBlanksUptoSaid : Prop := fnSxBlanksUptoRow.holds Try.pinned (OpenSpec.upto fnSxBlanksSpec)

/-- 'laws.FnSxSize', WHERE WHAT IT READS IS OF BULK AT MOST 1048576: true; the input reads as it did. -/
def fnSxSizeUptoRow : OpenClaim := { program := "ytbnfdjhcakimhaa", sum := "2c877cd1120c0f5a687b1f71039f5a37465e0ee35fd000d2884a863951a56523", func := "loop.example/g00508/laws.FnSxSize", spec := "fnSxSize", unfollowed := true, recurses := true, apart := false, narrowed := true }
def FnSxSizeUptoSaid : Prop := fnSxSizeUptoRow.holds Try.pinned (OpenSpec.upto fnSxSizeSpec)

/-- 'laws.FnExactIsValidAtom', WHERE WHAT IT READS IS OF BULK AT MOST 1048576: true; the input reads as it did. -/
def fnExactIsValidAtomUptoRow : OpenClaim := { program := "ytbnfdjhcakimhaa", sum := "2c877cd1120c0f5a687b1f71039f5a37465e0ee35fd000d2884a863951a56523", func := "loop.example/g00508/laws.FnExactIsValidAtom", spec := "fnExactIsValidAtom", apart := false, narrowed := true }
def FnExactIsValidAtomUptoSaid : Prop := fnExactIsValidAtomUptoRow.holds Try.pinned (OpenSpec.upto fnExactIsValidAtomSpec)

/-- 'laws.FnExactIsValidSExpr', WHERE WHAT IT READS IS OF BULK AT MOST 1048576: true; the input reads as it did. -/
def fnExactIsValidSExprUptoRow : OpenClaim := { program := "ytbnfdjhcakimhaa", sum := "2c877cd1120c0f5a687b1f71039f5a37465e0ee35fd000d2884a863951a56523", func := "loop.example/g00508/laws.FnExactIsValidSExpr", spec := "fnExactIsValidSExpr", recurses := true, loops := true, apart := false, narrowed := true }
def FnExactIsValidSExprUptoSaid : Prop := fnExactIsValidSExprUptoRow.holds Try.pinned (OpenSpec.upto fnExactIsValidSExprSpec)

/-- 'laws.FnExactSExprSize', WHERE WHAT IT READS IS OF BULK AT MOST 1048576: true; the input reads as it did. -/
def fnExactSExprSizeUptoRow : OpenClaim := { program := "ytbnfdjhcakimhaa", sum := "2c877cd1120c0f5a687b1f71039f5a37465e0ee35fd000d2884a863951a56523", func := "loop.example/g00508/laws.FnExactSExprSize", spec := "fnExactSExprSize", unfollowed := true, recurses := true, loops := true, apart := false, narrowed := true }
def FnExactSExprSizeUptoSaid : Prop := fnExactSExprSizeUptoRow.holds Try.pinned (OpenSpec.upto fnExactSExprSizeSpec)

/-- 'laws.FnExactSExprDepth', WHERE WHAT IT READS IS OF BULK AT MOST 1048576: true; the input reads as it did. -/
def fnExactSExprDepthUptoRow : OpenClaim := { program := "ytbnfdjhcakimhaa", sum := "2c877cd1120c0f5a687b1f71039f5a37465e0ee35fd000d2884a863951a56523", func := "loop.example/g00508/laws.FnExactSExprDepth", spec := "fnExactSExprDepth", unfollowed := true, recurses := true, loops := true, apart := false, narrowed := true }
def FnExactSExprDepthUptoSaid : Prop := fnExactSExprDepthUptoRow.holds Try.pinned (OpenSpec.upto fnExactSExprDepthSpec)

/-- 'laws.FnExactParseSExpr', WHERE WHAT IT READS IS OF BULK AT MOST 1048576: true; the input reads as it did. -/
def fnExactParseSExprUptoRow : OpenClaim := { program := "ytbnfdjhcakimhaa", sum := "2c877cd1120c0f5a687b1f71039f5a37465e0ee35fd000d2884a863951a56523", func := "loop.example/g00508/laws.FnExactParseSExpr", spec := "fnExactParseSExpr", recurses := true, apart := false, narrowed := true }
def FnExactParseSExprUptoSaid : Prop := fnExactParseSExprUptoRow.holds Try.pinned (OpenSpec.upto fnExactParseSExprSpec)

/-- 'laws.FnExactFormatSExpr', WHERE WHAT IT READS IS OF BULK AT MOST 1048576: true; the input reads as it did. -/
def fnExactFormatSExprUptoRow : OpenClaim := { program := "ytbnfdjhcakimhaa", sum := "2c877cd1120c0f5a687b1f71039f5a37465e0ee35fd000d2884a863951a56523", func := "loop.example/g00508/laws.FnExactFormatSExpr", spec := "fnExactFormatSExpr", inPlace := ["internal/abi.NoEscape", "internal/bytealg.MakeNoZero"], recurses := true, loops := true, apart := false, narrowed := true }
def FnExactFormatSExprUptoSaid : Prop := fnExactFormatSExprUptoRow.holds Try.pinned (OpenSpec.upto fnExactFormatSExprSpec)

/-- 'laws.FnExactEqualSExpr', WHERE WHAT IT READS IS OF BULK AT MOST 1048576: true; the input reads as it did. -/
def fnExactEqualSExprUptoRow : OpenClaim := { program := "ytbnfdjhcakimhaa", sum := "2c877cd1120c0f5a687b1f71039f5a37465e0ee35fd000d2884a863951a56523", func := "loop.example/g00508/laws.FnExactEqualSExpr", spec := "fnExactEqualSExpr", unfollowed := true, recurses := true, loops := true, apart := false, narrowed := true }
def FnExactEqualSExprUptoSaid : Prop := fnExactEqualSExprUptoRow.holds Try.pinned (OpenSpec.upto fnExactEqualSExprSpec)

end Rows
end Go.Proofs.Ytbnfdjhcakimhaa
