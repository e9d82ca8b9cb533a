/-
  NARROWER THAN 'FOR EVERY INPUT', by the rows' own cells (each row's printed sentence says how): FnExactMatch: loops · FnExactMatchAll: loops · FnExactMatches: loops · FnExactApply: loops · FnExactApplyAll: loops · FnExactLookup: loops · FnExactRestrictTo: loops · FnExactEqualType: loops · FnExactTypeVariables: loops.
  DERIVED. THE GIVEN ROWS OF THIS SEAT. 12 by the template 'for every input the law returns true; each argument reads behind the call as it read before'; 0 by the template 'total and deterministic' (their statements: YtkiofeiinecpiaaTotals.lean).
  GIVEN WITH THE SEED: the statements are not yours to turn. If you find one false, say at which input.
  Laid BY PROGRAM, IN A SANDBOX (cutbox-rows.mjs): the forced cells as the released guide's own fill.sh prints them over the translation 618d9a72248819b1… (all of the seat's roots in one cut). By AI agents, Wed Nov 11 2026. No macro, syntax, notation, axiom, sorry.
-/
import Derived.Test.YtkiofeiinecpiaaChecked
import GoSem.Claim
import GoSem.ClaimJoined
import GoSem.ClaimMapViews
import Derived.JoinedTies
import Derived.KernelRfl
namespace Go.Proofs.Ytkiofeiinecpiaa
/- THE CELL 'sum', in the pinned program and in every row, IS THE sha256 OF THE DUMP (.gsa) THAT YtkiofeiinecpiaaProg.lean LOADS. Nothing in Lean hashes anything: it is a label: what it is worth is what the hold of that sum in a sandbox is worth. -/
noncomputable def Try.pinned : Pinned := { name := "ytkiofeiinecpiaa", sum := "618d9a72248819b127382ca95ea4e76619d130e33507d3623ae9e82cd1a2ffcc", checked := Try.checked }
namespace Rows
def none {H : Type} : Left H := { results := [], args := [] }

/-- 'laws.FnMatch': WHATEVER THE INPUT: true; the input reads as it did. -/
def fnMatchSpec : ChangeSpec := { name := "fnMatch", fn := fun _ => fun
  | [d] => { results := [.lit (.bool true)], args := [d] }
  | _ => none }
def fnMatchRow : OpenClaim := { program := "ytkiofeiinecpiaa", sum := "618d9a72248819b127382ca95ea4e76619d130e33507d3623ae9e82cd1a2ffcc", func := "loop.example/g00508/laws.FnMatch", spec := "fnMatch", unfollowed := true, recurses := true, apart := false }
def FnMatchSaid : Prop := fnMatchRow.holds Try.pinned (OpenSpec.ofChange fnMatchSpec)

/-- ITS FALSE NEIGHBOUR: 'it returns false'. Refute it at one input. -/
def fnMatchWrong : ChangeSpec := { name := "fnMatch", fn := fun _ => fun
  | [d] => { results := [.lit (.bool false)], args := [d] }
  | _ => none }
def FnMatchWrongFalsely : Prop := fnMatchRow.holds Try.pinned (OpenSpec.ofChange fnMatchWrong)

/-- 'laws.FnMatchAll': WHATEVER THE INPUT: true; the input reads as it did. -/
def fnMatchAllSpec : ChangeSpec := { name := "fnMatchAll", fn := fun _ => fun
  | [d] => { results := [.lit (.bool true)], args := [d] }
  | _ => none }
def fnMatchAllRow : OpenClaim := { program := "ytkiofeiinecpiaa", sum := "618d9a72248819b127382ca95ea4e76619d130e33507d3623ae9e82cd1a2ffcc", func := "loop.example/g00508/laws.FnMatchAll", spec := "fnMatchAll", unfollowed := true, recurses := true, apart := false }
def FnMatchAllSaid : Prop := fnMatchAllRow.holds Try.pinned (OpenSpec.ofChange fnMatchAllSpec)

/-- ITS FALSE NEIGHBOUR: 'it returns false'. Refute it at one input. -/
def fnMatchAllWrong : ChangeSpec := { name := "fnMatchAll", fn := fun _ => fun
  | [d] => { results := [.lit (.bool false)], args := [d] }
  | _ => none }
def FnMatchAllWrongFalsely : Prop := fnMatchAllRow.holds Try.pinned (OpenSpec.ofChange fnMatchAllWrong)

/-- 'laws.FnExactMatch': WHATEVER THE INPUT: true; the input reads as it did. -/
def fnExactMatchSpec : ChangeSpec := { name := "fnExactMatch", fn := fun _ => fun
  | [d1, d2] => { results := [.lit (.bool true)], args := [d1, d2] }
  | _ => none }
def fnExactMatchRow : OpenClaim := { program := "ytkiofeiinecpiaa", sum := "618d9a72248819b127382ca95ea4e76619d130e33507d3623ae9e82cd1a2ffcc", func := "loop.example/g00508/laws.FnExactMatch", spec := "fnExactMatch", unfollowed := true, recurses := true, loops := true, apart := false }
def FnExactMatchSaid : Prop := fnExactMatchRow.holds Try.pinned (OpenSpec.ofChange fnExactMatchSpec)

/-- ITS FALSE NEIGHBOUR: 'it returns false'. Refute it at one input. -/
def fnExactMatchWrong : ChangeSpec := { name := "fnExactMatch", fn := fun _ => fun
  | [d1, d2] => { results := [.lit (.bool false)], args := [d1, d2] }
  | _ => none }
def FnExactMatchWrongFalsely : Prop := fnExactMatchRow.holds Try.pinned (OpenSpec.ofChange fnExactMatchWrong)

/-- 'laws.FnExactMatchAll': WHATEVER THE INPUT: true; the input reads as it did. -/
def fnExactMatchAllSpec : ChangeSpec := { name := "fnExactMatchAll", fn := fun _ => fun
  | [d1, d2] => { results := [.lit (.bool true)], args := [d1, d2] }
  | _ => none }
def fnExactMatchAllRow : OpenClaim := { program := "ytkiofeiinecpiaa", sum := "618d9a72248819b127382ca95ea4e76619d130e33507d3623ae9e82cd1a2ffcc", func := "loop.example/g00508/laws.FnExactMatchAll", spec := "fnExactMatchAll", unfollowed := true, recurses := true, loops := true, apart := false }
def FnExactMatchAllSaid : Prop := fnExactMatchAllRow.holds Try.pinned (OpenSpec.ofChange fnExactMatchAllSpec)

/-- ITS FALSE NEIGHBOUR: 'it returns false'. Refute it at one input. -/
def fnExactMatchAllWrong : ChangeSpec := { name := "fnExactMatchAll", fn := fun _ => fun
  | [d1, d2] => { results := [.lit (.bool false)], args := [d1, d2] }
  | _ => none }
def FnExactMatchAllWrongFalsely : Prop := fnExactMatchAllRow.holds Try.pinned (OpenSpec.ofChange fnExactMatchAllWrong)

/-- 'laws.FnExactMatches': WHATEVER THE INPUT: true; the input reads as it did. -/
def fnExactMatchesSpec : ChangeSpec := { name := "fnExactMatches", fn := fun _ => fun
  | [d1, d2] => { results := [.lit (.bool true)], args := [d1, d2] }
  | _ => none }
def fnExactMatchesRow : OpenClaim := { program := "ytkiofeiinecpiaa", sum := "618d9a72248819b127382ca95ea4e76619d130e33507d3623ae9e82cd1a2ffcc", func := "loop.example/g00508/laws.FnExactMatches", spec := "fnExactMatches", unfollowed := true, recurses := true, loops := true, apart := false }
def FnExactMatchesSaid : Prop := fnExactMatchesRow.holds Try.pinned (OpenSpec.ofChange fnExactMatchesSpec)

/-- ITS FALSE NEIGHBOUR: 'it returns false'. Refute it at one input. -/
def fnExactMatchesWrong : ChangeSpec := { name := "fnExactMatches", fn := fun _ => fun
  | [d1, d2] => { results := [.lit (.bool false)], args := [d1, d2] }
  | _ => none }
def FnExactMatchesWrongFalsely : Prop := fnExactMatchesRow.holds Try.pinned (OpenSpec.ofChange fnExactMatchesWrong)

/-- 'laws.FnApplied': WHATEVER THE INPUT: true; the input reads as it did. -/
def fnAppliedSpec : ChangeSpec := { name := "fnApplied", fn := fun _ => fun
  | [d] => { results := [.lit (.bool true)], args := [d] }
  | _ => none }
def fnAppliedRow : OpenClaim := { program := "ytkiofeiinecpiaa", sum := "618d9a72248819b127382ca95ea4e76619d130e33507d3623ae9e82cd1a2ffcc", func := "loop.example/g00508/laws.FnApplied", spec := "fnApplied", unfollowed := true, recurses := true, apart := false }
def FnAppliedSaid : Prop := fnAppliedRow.holds Try.pinned (OpenSpec.ofChange fnAppliedSpec)

/-- ITS FALSE NEIGHBOUR: 'it returns false'. Refute it at one input. -/
def fnAppliedWrong : ChangeSpec := { name := "fnApplied", fn := fun _ => fun
  | [d] => { results := [.lit (.bool false)], args := [d] }
  | _ => none }
def FnAppliedWrongFalsely : Prop := fnAppliedRow.holds Try.pinned (OpenSpec.ofChange fnAppliedWrong)

/-- 'laws.FnExactApply': WHATEVER THE INPUT: true; the input reads as it did. -/
def fnExactApplySpec : ChangeSpec := { name := "fnExactApply", fn := fun _ => fun
  | [d1, d2] => { results := [.lit (.bool true)], args := [d1, d2] }
  | _ => none }
def fnExactApplyRow : OpenClaim := { program := "ytkiofeiinecpiaa", sum := "618d9a72248819b127382ca95ea4e76619d130e33507d3623ae9e82cd1a2ffcc", func := "loop.example/g00508/laws.FnExactApply", spec := "fnExactApply", unfollowed := true, recurses := true, loops := true, apart := false }
def FnExactApplySaid : Prop := fnExactApplyRow.holds Try.pinned (OpenSpec.ofChange fnExactApplySpec)

/-- ITS FALSE NEIGHBOUR: 'it returns false'. Refute it at one input. -/
def fnExactApplyWrong : ChangeSpec := { name := "fnExactApply", fn := fun _ => fun
  | [d1, d2] => { results := [.lit (.bool false)], args := [d1, d2] }
  | _ => none }
def FnExactApplyWrongFalsely : Prop := fnExactApplyRow.holds Try.pinned (OpenSpec.ofChange fnExactApplyWrong)

/-- 'laws.FnExactApplyAll': WHATEVER THE INPUT: true; the input reads as it did. -/
def fnExactApplyAllSpec : ChangeSpec := { name := "fnExactApplyAll", fn := fun _ => fun
  | [d1, d2] => { results := [.lit (.bool true)], args := [d1, d2] }
  | _ => none }
def fnExactApplyAllRow : OpenClaim := { program := "ytkiofeiinecpiaa", sum := "618d9a72248819b127382ca95ea4e76619d130e33507d3623ae9e82cd1a2ffcc", func := "loop.example/g00508/laws.FnExactApplyAll", spec := "fnExactApplyAll", unfollowed := true, recurses := true, loops := true, apart := false }
def FnExactApplyAllSaid : Prop := fnExactApplyAllRow.holds Try.pinned (OpenSpec.ofChange fnExactApplyAllSpec)

/-- ITS FALSE NEIGHBOUR: 'it returns false'. Refute it at one input. -/
def fnExactApplyAllWrong : ChangeSpec := { name := "fnExactApplyAll", fn := fun _ => fun
  | [d1, d2] => { results := [.lit (.bool false)], args := [d1, d2] }
  | _ => none }
def FnExactApplyAllWrongFalsely : Prop := fnExactApplyAllRow.holds Try.pinned (OpenSpec.ofChange fnExactApplyAllWrong)

/-- 'laws.FnExactLookup': WHATEVER THE INPUT: true; the input reads as it did. -/
def fnExactLookupSpec : ChangeSpec := { name := "fnExactLookup", fn := fun _ => fun
  | [d1, d2] => { results := [.lit (.bool true)], args := [d1, d2] }
  | _ => none }
def fnExactLookupRow : OpenClaim := { program := "ytkiofeiinecpiaa", sum := "618d9a72248819b127382ca95ea4e76619d130e33507d3623ae9e82cd1a2ffcc", func := "loop.example/g00508/laws.FnExactLookup", spec := "fnExactLookup", unfollowed := true, recurses := true, loops := true, apart := false }
def FnExactLookupSaid : Prop := fnExactLookupRow.holds Try.pinned (OpenSpec.ofChange fnExactLookupSpec)

/-- ITS FALSE NEIGHBOUR: 'it returns false'. Refute it at one input. -/
def fnExactLookupWrong : ChangeSpec := { name := "fnExactLookup", fn := fun _ => fun
  | [d1, d2] => { results := [.lit (.bool false)], args := [d1, d2] }
  | _ => none }
def FnExactLookupWrongFalsely : Prop := fnExactLookupRow.holds Try.pinned (OpenSpec.ofChange fnExactLookupWrong)

/-- 'laws.FnExactRestrictTo': WHATEVER THE INPUT: true; the input reads as it did. -/
def fnExactRestrictToSpec : ChangeSpec := { name := "fnExactRestrictTo", fn := fun _ => fun
  | [d1, d2] => { results := [.lit (.bool true)], args := [d1, d2] }
  | _ => none }
def fnExactRestrictToRow : OpenClaim := { program := "ytkiofeiinecpiaa", sum := "618d9a72248819b127382ca95ea4e76619d130e33507d3623ae9e82cd1a2ffcc", func := "loop.example/g00508/laws.FnExactRestrictTo", spec := "fnExactRestrictTo", unfollowed := true, recurses := true, loops := true, apart := false }
def FnExactRestrictToSaid : Prop := fnExactRestrictToRow.holds Try.pinned (OpenSpec.ofChange fnExactRestrictToSpec)

/-- ITS FALSE NEIGHBOUR: 'it returns false'. Refute it at one input. -/
def fnExactRestrictToWrong : ChangeSpec := { name := "fnExactRestrictTo", fn := fun _ => fun
  | [d1, d2] => { results := [.lit (.bool false)], args := [d1, d2] }
  | _ => none }
def FnExactRestrictToWrongFalsely : Prop := fnExactRestrictToRow.holds Try.pinned (OpenSpec.ofChange fnExactRestrictToWrong)

/-- 'laws.FnExactEqualType': WHATEVER THE INPUT: true; the input reads as it did. -/
def fnExactEqualTypeSpec : ChangeSpec := { name := "fnExactEqualType", fn := fun _ => fun
  | [d1, d2] => { results := [.lit (.bool true)], args := [d1, d2] }
  | _ => none }
def fnExactEqualTypeRow : OpenClaim := { program := "ytkiofeiinecpiaa", sum := "618d9a72248819b127382ca95ea4e76619d130e33507d3623ae9e82cd1a2ffcc", func := "loop.example/g00508/laws.FnExactEqualType", spec := "fnExactEqualType", unfollowed := true, recurses := true, loops := true, apart := false }
def FnExactEqualTypeSaid : Prop := fnExactEqualTypeRow.holds Try.pinned (OpenSpec.ofChange fnExactEqualTypeSpec)

/-- ITS FALSE NEIGHBOUR: 'it returns false'. Refute it at one input. -/
def fnExactEqualTypeWrong : ChangeSpec := { name := "fnExactEqualType", fn := fun _ => fun
  | [d1, d2] => { results := [.lit (.bool false)], args := [d1, d2] }
  | _ => none }
def FnExactEqualTypeWrongFalsely : Prop := fnExactEqualTypeRow.holds Try.pinned (OpenSpec.ofChange fnExactEqualTypeWrong)

/-- 'laws.FnExactTypeVariables': WHATEVER THE INPUT: true; the input reads as it did. -/
def fnExactTypeVariablesSpec : ChangeSpec := { name := "fnExactTypeVariables", fn := fun _ => fun
  | [d] => { results := [.lit (.bool true)], args := [d] }
  | _ => none }
def fnExactTypeVariablesRow : OpenClaim := { program := "ytkiofeiinecpiaa", sum := "618d9a72248819b127382ca95ea4e76619d130e33507d3623ae9e82cd1a2ffcc", func := "loop.example/g00508/laws.FnExactTypeVariables", spec := "fnExactTypeVariables", unfollowed := true, recurses := true, loops := true, apart := false }
def FnExactTypeVariablesSaid : Prop := fnExactTypeVariablesRow.holds Try.pinned (OpenSpec.ofChange fnExactTypeVariablesSpec)

/-- ITS FALSE NEIGHBOUR: 'it returns false'. Refute it at one input. -/
def fnExactTypeVariablesWrong : ChangeSpec := { name := "fnExactTypeVariables", fn := fun _ => fun
  | [d] => { results := [.lit (.bool false)], args := [d] }
  | _ => none }
def FnExactTypeVariablesWrongFalsely : Prop := fnExactTypeVariablesRow.holds Try.pinned (OpenSpec.ofChange fnExactTypeVariablesWrong)

/- THE SECOND FORM. 'bulk': how many values and letters a reading holds, each counted each time it is reached (what is shared counts as often as it is met; a slice's spare places count too). A statement '..UptoSaid' is the law's where the arguments, and the package variables that the reading takes, are together of bulk at most 1048576: NARROWER than '..Said'. Prove '..Said' where nothing that the law and all that it calls make is longer than what came in: it says more and counts as full. Else prove '..UptoSaid'. A law counts once. -/
mutual
def uptoBulk {H : Type} : DataW H → Nat
  | .lit (.string bytes) => bytes.length + 1
  | .lit _ => 1
  | .nil => 1
  | .ptr d => uptoBulk d + 1
  | .slice elems spare => uptoBulkAll elems + uptoBulkAll spare + 1
  | .agg parts => uptoBulkAll parts + 1
  | .iface _ d => uptoBulk d + 1
  | .map entries => uptoBulkEntries entries + 1
  | .held _ => 1
def uptoBulkAll {H : Type} : List (DataW H) → Nat
  | [] => 0
  | d :: r => uptoBulk d + uptoBulkAll r
def uptoBulkEntries {H : Type} : List (Lit × DataW H) → Nat
  | [] => 0
  | x :: r => uptoBulkEntry x + uptoBulkEntries r
def uptoBulkEntry {H : Type} : Lit × DataW H → Nat
  | (.string bytes, d) => bytes.length + uptoBulk d + 1
  | (_, d) => uptoBulk d + 1
 end
def uptoSmall : (H : Type) → List (DataW H) → Bool := fun _ ds => decide (uptoBulkAll ds ≤ 1048576)
def OpenSpec.upto (s : _root_.Go.ChangeSpec) : _root_.Go.OpenSpec := { _root_.Go.OpenSpec.ofChange s with cond := some uptoSmall }

/-- 'laws.FnMatch', WHERE WHAT IT READS IS OF BULK AT MOST 1048576: true; the input reads as it did. -/
def fnMatchUptoRow : OpenClaim := { program := "ytkiofeiinecpiaa", sum := "618d9a72248819b127382ca95ea4e76619d130e33507d3623ae9e82cd1a2ffcc", func := "loop.example/g00508/laws.FnMatch", spec := "fnMatch", unfollowed := true, recurses := true, apart := false, narrowed := true }
def FnMatchUptoSaid : Prop := fnMatchUptoRow.holds Try.pinned (OpenSpec.upto fnMatchSpec)

/-- 'laws.FnMatchAll', WHERE WHAT IT READS IS OF BULK AT MOST 1048576: true; the input reads as it did. -/
def fnMatchAllUptoRow : OpenClaim := { program := "ytkiofeiinecpiaa", sum := "618d9a72248819b127382ca95ea4e76619d130e33507d3623ae9e82cd1a2ffcc", func := "loop.example/g00508/laws.FnMatchAll", spec := "fnMatchAll", unfollowed := true, recurses := true, apart := false, narrowed := true }
def FnMatchAllUptoSaid : Prop := fnMatchAllUptoRow.holds Try.pinned (OpenSpec.upto fnMatchAllSpec)

/-- 'laws.FnExactMatch', WHERE WHAT IT READS IS OF BULK AT MOST 1048576: true; the input reads as it did. -/
def fnExactMatchUptoRow : OpenClaim := { program := "ytkiofeiinecpiaa", sum := "618d9a72248819b127382ca95ea4e76619d130e33507d3623ae9e82cd1a2ffcc", func := "loop.example/g00508/laws.FnExactMatch", spec := "fnExactMatch", unfollowed := true, recurses := true, loops := true, apart := false, narrowed := true }
def FnExactMatchUptoSaid : Prop := fnExactMatchUptoRow.holds Try.pinned (OpenSpec.upto fnExactMatchSpec)

/-- 'laws.FnExactMatchAll', WHERE WHAT IT READS IS OF BULK AT MOST 1048576: true; the input reads as it did. -/
def fnExactMatchAllUptoRow : OpenClaim := { program := "ytkiofeiinecpiaa", sum := "618d9a72248819b127382ca95ea4e76619d130e33507d3623ae9e82cd1a2ffcc", func := "loop.example/g00508/laws.FnExactMatchAll", spec := "fnExactMatchAll", unfollowed := true, recurses := true, loops := true, apart := false, narrowed := true }
def FnExactMatchAllUptoSaid : Prop := fnExactMatchAllUptoRow.holds Try.pinned (OpenSpec.upto fnExactMatchAllSpec)

/-- 'laws.FnExactMatches', WHERE WHAT IT READS IS OF BULK AT MOST 1048576: true; the input reads as it did. -/
def fnExactMatchesUptoRow : OpenClaim := { program := "ytkiofeiinecpiaa", sum := "618d9a72248819b127382ca95ea4e76619d130e33507d3623ae9e82cd1a2ffcc", func := "loop.example/g00508/laws.FnExactMatches", spec := "fnExactMatches", unfollowed := true, recurses := true, loops := true, apart := false, narrowed := true }
def FnExactMatchesUptoSaid : Prop := fnExactMatchesUptoRow.holds Try.pinned (OpenSpec.upto fnExactMatchesSpec)

/-- 'laws.FnApplied', WHERE WHAT IT READS IS OF BULK AT MOST 1048576: true; the input reads as it did. -/
def fnAppliedUptoRow : OpenClaim := { program := "ytkiofeiinecpiaa", sum := "618d9a72248819b127382ca95ea4e76619d130e33507d3623ae9e82cd1a2ffcc", func := "loop.example/g00508/laws.FnApplied", spec := "fnApplied", unfollowed := true, recurses := true, apart := false, narrowed := true }
def FnAppliedUptoSaid : Prop := fnAppliedUptoRow.holds Try.pinned (OpenSpec.upto fnAppliedSpec)

/-- 'laws.FnExactApply', WHERE WHAT IT READS IS OF BULK AT MOST 1048576: true; the input reads as it did. -/
def fnExactApplyUptoRow : OpenClaim := { program := "ytkiofeiinecpiaa", sum := "618d9a72248819b127382ca95ea4e76619d130e33507d3623ae9e82cd1a2ffcc", func := "loop.example/g00508/laws.FnExactApply", spec := "fnExactApply", unfollowed := true, recurses := true, loops := true, apart := false, narrowed := true }
def FnExactApplyUptoSaid : Prop := fnExactApplyUptoRow.holds Try.pinned (OpenSpec.upto fnExactApplySpec)

/-- 'laws.FnExactApplyAll', WHERE WHAT IT READS IS OF BULK AT MOST 1048576: true; the input reads as it did. -/
def fnExactApplyAllUptoRow : OpenClaim := { program := "ytkiofeiinecpiaa", sum := "618d9a72248819b127382ca95ea4e76619d130e33507d3623ae9e82cd1a2ffcc", func := "loop.example/g00508/laws.FnExactApplyAll", spec := "fnExactApplyAll", unfollowed := true, recurses := true, loops := true, apart := false, narrowed := true }
def FnExactApplyAllUptoSaid : Prop := fnExactApplyAllUptoRow.holds Try.pinned (OpenSpec.upto fnExactApplyAllSpec)

/-- 'laws.FnExactLookup', WHERE WHAT IT READS IS OF BULK AT MOST 1048576: true; the input reads as it did. -/
def fnExactLookupUptoRow : OpenClaim := { program := "ytkiofeiinecpiaa", sum := "618d9a72248819b127382ca95ea4e76619d130e33507d3623ae9e82cd1a2ffcc", func := "loop.example/g00508/laws.FnExactLookup", spec := "fnExactLookup", unfollowed := true, recurses := true, loops := true, apart := false, narrowed := true }
def FnExactLookupUptoSaid : Prop := fnExactLookupUptoRow.holds Try.pinned (OpenSpec.upto fnExactLookupSpec)

/-- 'laws.FnExactRestrictTo', WHERE WHAT IT READS IS OF BULK AT MOST 1048576: true; the input reads as it did. -/
def fnExactRestrictToUptoRow : OpenClaim := { program := "ytkiofeiinecpiaa", sum := "618d9a72248819b127382ca95ea4e76619d130e33507d3623ae9e82cd1a2ffcc", func := "loop.example/g00508/laws.FnExactRestrictTo", spec := "fnExactRestrictTo", unfollowed := true, recurses := true, loops := true, apart := false, narrowed := true }
def FnExactRestrictToUptoSaid : Prop := fnExactRestrictToUptoRow.holds Try.pinned (OpenSpec.upto fnExactRestrictToSpec)

/-- 'laws.FnExactEqualType', WHERE WHAT IT READS IS OF BULK AT MOST 1048576: true; the input reads as it did. -/
def fnExactEqualTypeUptoRow : OpenClaim := { program := "ytkiofeiinecpiaa", sum := "618d9a72248819b127382ca95ea4e76619d130e33507d3623ae9e82cd1a2ffcc", func := "loop.example/g00508/laws.FnExactEqualType", spec := "fnExactEqualType", unfollowed := true, recurses := true, loops := true, apart := false, narrowed := true }
def FnExactEqualTypeUptoSaid : Prop := fnExactEqualTypeUptoRow.holds Try.pinned (OpenSpec.upto fnExactEqualTypeSpec)

/-- 'laws.FnExactTypeVariables', WHERE WHAT IT READS IS OF BULK AT MOST 1048576: true; the input reads as it did. -/
def fnExactTypeVariablesUptoRow : OpenClaim := { program := "ytkiofeiinecpiaa", sum := "618d9a72248819b127382ca95ea4e76619d130e33507d3623ae9e82cd1a2ffcc", func := "loop.example/g00508/laws.FnExactTypeVariables", spec := "fnExactTypeVariables", unfollowed := true, recurses := true, loops := true, apart := false, narrowed := true }
def FnExactTypeVariablesUptoSaid : Prop := fnExactTypeVariablesUptoRow.holds Try.pinned (OpenSpec.upto fnExactTypeVariablesSpec)

end Rows
end Go.Proofs.Ytkiofeiinecpiaa
