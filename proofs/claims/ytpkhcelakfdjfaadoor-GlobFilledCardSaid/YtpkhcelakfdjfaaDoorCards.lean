/-
  DERIVED. GIVEN WITH THE SEED: THE CARDS: each row of YtpkhcelakfdjfaaDoorRows.lean that lists a variable, with what it lists TIED to the program's text (the seventh form; the later family's looks); each row that meets fmt, with fmt's text TOLD by the authors' own Lean function (tested against real Go, not proved from fmt's source: count such statements apart). THE CARD IS WHAT COUNTS. Prove the row's statement (the work); the ties are given (YtpkhcelakfdjfaaDoorTie.lean); close each card by the builder's one call (the guide's Derived/Test/ToyasCard.lean, 'card_holds'). Laid BY PROGRAM, IN A SANDBOX (cutbox-door.mjs). By AI agents, Wed Nov 11 2026. No macro, syntax, notation, axiom, sorry.
-/
import Derived.Test.YtpkhcelakfdjfaaDoorRows
import GoSem.ClaimSeven
namespace Go.Proofs.YtpkhcelakfdjfaaDoor
namespace Rows

/-- THE TIED CARD OF 'haversacklaw06.GlobParts'. -/
def globPartsCard : Claim7 := { stood := { row := globPartsRow, standIns := [], harness := (true, "8bf70bd2c3b0212c4d2adb14527faecdd1681a83e7ed33f96383dea937e90ebd"), looks := false }, kinds := [], alts := [], laidByText := true, laidKinds := [.data, .pinned], laidTests := true, laidLooks := .later }
def GlobPartsCardSaid : Prop := Claim7.holds Tryd.pinned (.plain (OpenSpec.ofChange globPartsSpec)) globPartsCard

/-- THE TIED CARD OF 'haversacklaw06.GlobFilled'. -/
def globFilledCard : Claim7 := { stood := { row := globFilledRow, standIns := [], harness := (true, "8bf70bd2c3b0212c4d2adb14527faecdd1681a83e7ed33f96383dea937e90ebd"), looks := false }, kinds := [], alts := [], laidByText := true, laidKinds := [.data, .pinned], laidTests := true, laidLooks := .later }
def GlobFilledCardSaid : Prop := Claim7.holds Tryd.pinned (.plain (OpenSpec.ofChange globFilledSpec)) globFilledCard

/-- THE SECOND FORM's CARD OF 'haversacklaw06.GlobParts'. -/
def globPartsUptoCard : Claim7 := { stood := { row := globPartsUptoRow, standIns := [], harness := (true, "8bf70bd2c3b0212c4d2adb14527faecdd1681a83e7ed33f96383dea937e90ebd"), looks := false }, kinds := [], alts := [], laidByText := true, laidKinds := [.data, .pinned], laidTests := true, laidLooks := .later }
def GlobPartsUptoCardSaid : Prop := Claim7.holds Tryd.pinned (.plain (OpenSpec.upto globPartsSpec)) globPartsUptoCard

/-- THE SECOND FORM's CARD OF 'haversacklaw06.GlobFilled'. -/
def globFilledUptoCard : Claim7 := { stood := { row := globFilledUptoRow, standIns := [], harness := (true, "8bf70bd2c3b0212c4d2adb14527faecdd1681a83e7ed33f96383dea937e90ebd"), looks := false }, kinds := [], alts := [], laidByText := true, laidKinds := [.data, .pinned], laidTests := true, laidLooks := .later }
def GlobFilledUptoCardSaid : Prop := Claim7.holds Tryd.pinned (.plain (OpenSpec.upto globFilledSpec)) globFilledUptoCard
end Rows
end Go.Proofs.YtpkhcelakfdjfaaDoor
