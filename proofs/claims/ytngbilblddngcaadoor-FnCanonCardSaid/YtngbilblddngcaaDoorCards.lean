/-
  DERIVED. GIVEN WITH THE SEED: THE CARDS: each row of YtngbilblddngcaaDoorRows.lean that lists a variable, with what it lists TIED to the program's text (the seventh form; the later family's looks); each row that meets fmt, with fmt's text TOLD by the authors' own Lean function (tested against real Go, not proved from fmt's source: count such statements apart). THE CARD IS WHAT COUNTS. Prove the row's statement (the work); the ties are given (YtngbilblddngcaaDoorTie.lean); close each card by the builder's one call (the guide's Derived/Test/ToyasCard.lean, 'card_holds'). Laid BY PROGRAM, IN A SANDBOX (cutbox-door.mjs). By AI agents, Wed Nov 11 2026. No macro, syntax, notation, axiom, sorry.
-/
import Derived.Test.YtngbilblddngcaaDoorRows
import GoSem.ClaimSeven
namespace Go.Proofs.YtngbilblddngcaaDoor
namespace Rows

/-- THE TIED CARD OF 'laws.FnCanon'. -/
def fnCanonCard : Claim7 := { stood := { row := fnCanonRow, standIns := [], harness := (true, "d9c852c650dfd9e66565d234fd0f0eaaa6e2aa30c44245270aee4734ff9ee0fa"), looks := true }, kinds := [], alts := [], laidByText := true, laidKinds := [.data, .data, .data], laidTests := true, laidLooks := .later }
def FnCanonCardSaid : Prop := Claim7.holds Tryd.pinned (.plain (OpenSpec.ofChange fnCanonSpec)) fnCanonCard

/-- THE TIED CARD OF 'laws.FnExactCanonicalRenaming'. -/
def fnExactCanonicalRenamingCard : Claim7 := { stood := { row := fnExactCanonicalRenamingRow, standIns := [], harness := (true, "d9c852c650dfd9e66565d234fd0f0eaaa6e2aa30c44245270aee4734ff9ee0fa"), looks := true }, kinds := [], alts := [], laidByText := true, laidKinds := [.data, .data, .data], laidTests := true, laidLooks := .later }
def FnExactCanonicalRenamingCardSaid : Prop := Claim7.holds Tryd.pinned (.plain (OpenSpec.ofChange fnExactCanonicalRenamingSpec)) fnExactCanonicalRenamingCard

/-- THE TIED CARD OF 'laws.FnExactCanonicalize'. -/
def fnExactCanonicalizeCard : Claim7 := { stood := { row := fnExactCanonicalizeRow, standIns := [], harness := (true, "d9c852c650dfd9e66565d234fd0f0eaaa6e2aa30c44245270aee4734ff9ee0fa"), looks := true }, kinds := [], alts := [], laidByText := true, laidKinds := [.data, .data, .data], laidTests := true, laidLooks := .later }
def FnExactCanonicalizeCardSaid : Prop := Claim7.holds Tryd.pinned (.plain (OpenSpec.ofChange fnExactCanonicalizeSpec)) fnExactCanonicalizeCard

/-- THE TIED CARD OF 'laws.FnExactCanonicalizeAll'. -/
def fnExactCanonicalizeAllCard : Claim7 := { stood := { row := fnExactCanonicalizeAllRow, standIns := [], harness := (true, "d9c852c650dfd9e66565d234fd0f0eaaa6e2aa30c44245270aee4734ff9ee0fa"), looks := true }, kinds := [], alts := [], laidByText := true, laidKinds := [.data, .data, .data], laidTests := true, laidLooks := .later }
def FnExactCanonicalizeAllCardSaid : Prop := Claim7.holds Tryd.pinned (.plain (OpenSpec.ofChange fnExactCanonicalizeAllSpec)) fnExactCanonicalizeAllCard

/-- THE TIED CARD OF 'laws.FnExactAlphaEquivalent'. -/
def fnExactAlphaEquivalentCard : Claim7 := { stood := { row := fnExactAlphaEquivalentRow, standIns := [], harness := (true, "d9c852c650dfd9e66565d234fd0f0eaaa6e2aa30c44245270aee4734ff9ee0fa"), looks := true }, kinds := [], alts := [], laidByText := true, laidKinds := [.data, .data, .data], laidTests := true, laidLooks := .later }
def FnExactAlphaEquivalentCardSaid : Prop := Claim7.holds Tryd.pinned (.plain (OpenSpec.ofChange fnExactAlphaEquivalentSpec)) fnExactAlphaEquivalentCard

/-- THE TIED CARD OF 'laws.FnExactFormatInt'. -/
def fnExactFormatIntCard : Claim7 := { stood := { row := fnExactFormatIntRow, standIns := [], harness := (true, "d9c852c650dfd9e66565d234fd0f0eaaa6e2aa30c44245270aee4734ff9ee0fa"), looks := true }, kinds := [], alts := [], laidByText := true, laidKinds := [.data, .data, .data], laidTests := true, laidLooks := .later }
def FnExactFormatIntCardSaid : Prop := Claim7.holds Tryd.pinned (.plain (OpenSpec.ofChange fnExactFormatIntSpec)) fnExactFormatIntCard

/-- THE SECOND FORM's CARD OF 'laws.FnCanon'. -/
def fnCanonUptoCard : Claim7 := { stood := { row := fnCanonUptoRow, standIns := [], harness := (true, "d9c852c650dfd9e66565d234fd0f0eaaa6e2aa30c44245270aee4734ff9ee0fa"), looks := true }, kinds := [], alts := [], laidByText := true, laidKinds := [.data, .data, .data], laidTests := true, laidLooks := .later }
def FnCanonUptoCardSaid : Prop := Claim7.holds Tryd.pinned (.plain (OpenSpec.upto fnCanonSpec)) fnCanonUptoCard

/-- THE SECOND FORM's CARD OF 'laws.FnExactCanonicalRenaming'. -/
def fnExactCanonicalRenamingUptoCard : Claim7 := { stood := { row := fnExactCanonicalRenamingUptoRow, standIns := [], harness := (true, "d9c852c650dfd9e66565d234fd0f0eaaa6e2aa30c44245270aee4734ff9ee0fa"), looks := true }, kinds := [], alts := [], laidByText := true, laidKinds := [.data, .data, .data], laidTests := true, laidLooks := .later }
def FnExactCanonicalRenamingUptoCardSaid : Prop := Claim7.holds Tryd.pinned (.plain (OpenSpec.upto fnExactCanonicalRenamingSpec)) fnExactCanonicalRenamingUptoCard

/-- THE SECOND FORM's CARD OF 'laws.FnExactCanonicalize'. -/
def fnExactCanonicalizeUptoCard : Claim7 := { stood := { row := fnExactCanonicalizeUptoRow, standIns := [], harness := (true, "d9c852c650dfd9e66565d234fd0f0eaaa6e2aa30c44245270aee4734ff9ee0fa"), looks := true }, kinds := [], alts := [], laidByText := true, laidKinds := [.data, .data, .data], laidTests := true, laidLooks := .later }
def FnExactCanonicalizeUptoCardSaid : Prop := Claim7.holds Tryd.pinned (.plain (OpenSpec.upto fnExactCanonicalizeSpec)) fnExactCanonicalizeUptoCard

/-- THE SECOND FORM's CARD OF 'laws.FnExactCanonicalizeAll'. -/
def fnExactCanonicalizeAllUptoCard : Claim7 := { stood := { row := fnExactCanonicalizeAllUptoRow, standIns := [], harness := (true, "d9c852c650dfd9e66565d234fd0f0eaaa6e2aa30c44245270aee4734ff9ee0fa"), looks := true }, kinds := [], alts := [], laidByText := true, laidKinds := [.data, .data, .data], laidTests := true, laidLooks := .later }
def FnExactCanonicalizeAllUptoCardSaid : Prop := Claim7.holds Tryd.pinned (.plain (OpenSpec.upto fnExactCanonicalizeAllSpec)) fnExactCanonicalizeAllUptoCard

/-- THE SECOND FORM's CARD OF 'laws.FnExactAlphaEquivalent'. -/
def fnExactAlphaEquivalentUptoCard : Claim7 := { stood := { row := fnExactAlphaEquivalentUptoRow, standIns := [], harness := (true, "d9c852c650dfd9e66565d234fd0f0eaaa6e2aa30c44245270aee4734ff9ee0fa"), looks := true }, kinds := [], alts := [], laidByText := true, laidKinds := [.data, .data, .data], laidTests := true, laidLooks := .later }
def FnExactAlphaEquivalentUptoCardSaid : Prop := Claim7.holds Tryd.pinned (.plain (OpenSpec.upto fnExactAlphaEquivalentSpec)) fnExactAlphaEquivalentUptoCard

/-- THE SECOND FORM's CARD OF 'laws.FnExactFormatInt'. -/
def fnExactFormatIntUptoCard : Claim7 := { stood := { row := fnExactFormatIntUptoRow, standIns := [], harness := (true, "d9c852c650dfd9e66565d234fd0f0eaaa6e2aa30c44245270aee4734ff9ee0fa"), looks := true }, kinds := [], alts := [], laidByText := true, laidKinds := [.data, .data, .data], laidTests := true, laidLooks := .later }
def FnExactFormatIntUptoCardSaid : Prop := Claim7.holds Tryd.pinned (.plain (OpenSpec.upto fnExactFormatIntSpec)) fnExactFormatIntUptoCard
end Rows
end Go.Proofs.YtngbilblddngcaaDoor
