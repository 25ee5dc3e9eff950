/-
  DERIVED. GIVEN WITH THE SEED: THE CARDS: each row of YtecgjbddcmpggaaDoorRows.lean that lists a variable, with what it lists TIED to the program's text (the seventh form; the later family's looks); each row that meets fmt, with fmt's text TOLD by the authors' own Lean function (tested against real Go, not proved from fmt's source: count such statements apart). THE CARD IS WHAT COUNTS. Prove the row's statement (the work); the ties are given (YtecgjbddcmpggaaDoorTie.lean); close each card by the builder's one call (the guide's Derived/Test/ToyasCard.lean, 'card_holds'). Laid BY PROGRAM, IN A SANDBOX (cutbox-door.mjs). By AI agents, Wed Nov 11 2026. No macro, syntax, notation, axiom, sorry.
-/
import Derived.Test.YtecgjbddcmpggaaDoorRows
import GoSem.ClaimSeven
namespace Go.Proofs.YtecgjbddcmpggaaDoor
namespace Rows

/-- THE TIED CARD OF 'haversacklaw07.VersionTexts'. -/
def versionTextsCard : Claim7 := { stood := { row := versionTextsRow, standIns := [], harness := (true, "4e774307821f632b4b06b700b9af38bea1c350001d5daab011dc32c081f68b5e"), looks := false }, kinds := [], alts := [], laidByText := true, laidKinds := [.data, .sentinel, .pinned], laidTests := true, laidLooks := .later }
def VersionTextsCardSaid : Prop := Claim7.holds Tryd.pinned (.plain (OpenSpec.ofChange versionTextsSpec)) versionTextsCard

/-- THE TIED CARD OF 'haversacklaw07.VersionNewest'. -/
def versionNewestCard : Claim7 := { stood := { row := versionNewestRow, standIns := [], harness := (true, "4e774307821f632b4b06b700b9af38bea1c350001d5daab011dc32c081f68b5e"), looks := false }, kinds := [], alts := [], laidByText := true, laidKinds := [.data, .sentinel, .pinned], laidTests := true, laidLooks := .later }
def VersionNewestCardSaid : Prop := Claim7.holds Tryd.pinned (.plain (OpenSpec.ofChange versionNewestSpec)) versionNewestCard

/-- THE TIED CARD OF 'haversacklaw07.VersionOrder'. -/
def versionOrderCard : Claim7 := { stood := { row := versionOrderRow, standIns := [], harness := (true, "4e774307821f632b4b06b700b9af38bea1c350001d5daab011dc32c081f68b5e"), looks := false }, kinds := [], alts := [], laidByText := true, laidKinds := [.data, .sentinel, .pinned], laidTests := true, laidLooks := .later }
def VersionOrderCardSaid : Prop := Claim7.holds Tryd.pinned (.plain (OpenSpec.ofChange versionOrderSpec)) versionOrderCard

/-- THE TIED CARD OF 'haversacklaw07.VersionNoughts'. -/
def versionNoughtsCard : Claim7 := { stood := { row := versionNoughtsRow, standIns := [], harness := (true, "4e774307821f632b4b06b700b9af38bea1c350001d5daab011dc32c081f68b5e"), looks := false }, kinds := [], alts := [], laidByText := true, laidKinds := [.data, .sentinel, .pinned], laidTests := true, laidLooks := .later }
def VersionNoughtsCardSaid : Prop := Claim7.holds Tryd.pinned (.plain (OpenSpec.ofChange versionNoughtsSpec)) versionNoughtsCard

/-- THE SECOND FORM's CARD OF 'haversacklaw07.VersionTexts'. -/
def versionTextsUptoCard : Claim7 := { stood := { row := versionTextsUptoRow, standIns := [], harness := (true, "4e774307821f632b4b06b700b9af38bea1c350001d5daab011dc32c081f68b5e"), looks := false }, kinds := [], alts := [], laidByText := true, laidKinds := [.data, .sentinel, .pinned], laidTests := true, laidLooks := .later }
def VersionTextsUptoCardSaid : Prop := Claim7.holds Tryd.pinned (.plain (OpenSpec.upto versionTextsSpec)) versionTextsUptoCard

/-- THE SECOND FORM's CARD OF 'haversacklaw07.VersionNewest'. -/
def versionNewestUptoCard : Claim7 := { stood := { row := versionNewestUptoRow, standIns := [], harness := (true, "4e774307821f632b4b06b700b9af38bea1c350001d5daab011dc32c081f68b5e"), looks := false }, kinds := [], alts := [], laidByText := true, laidKinds := [.data, .sentinel, .pinned], laidTests := true, laidLooks := .later }
def VersionNewestUptoCardSaid : Prop := Claim7.holds Tryd.pinned (.plain (OpenSpec.upto versionNewestSpec)) versionNewestUptoCard

/-- THE SECOND FORM's CARD OF 'haversacklaw07.VersionOrder'. -/
def versionOrderUptoCard : Claim7 := { stood := { row := versionOrderUptoRow, standIns := [], harness := (true, "4e774307821f632b4b06b700b9af38bea1c350001d5daab011dc32c081f68b5e"), looks := false }, kinds := [], alts := [], laidByText := true, laidKinds := [.data, .sentinel, .pinned], laidTests := true, laidLooks := .later }
def VersionOrderUptoCardSaid : Prop := Claim7.holds Tryd.pinned (.plain (OpenSpec.upto versionOrderSpec)) versionOrderUptoCard

/-- THE SECOND FORM's CARD OF 'haversacklaw07.VersionNoughts'. -/
def versionNoughtsUptoCard : Claim7 := { stood := { row := versionNoughtsUptoRow, standIns := [], harness := (true, "4e774307821f632b4b06b700b9af38bea1c350001d5daab011dc32c081f68b5e"), looks := false }, kinds := [], alts := [], laidByText := true, laidKinds := [.data, .sentinel, .pinned], laidTests := true, laidLooks := .later }
def VersionNoughtsUptoCardSaid : Prop := Claim7.holds Tryd.pinned (.plain (OpenSpec.upto versionNoughtsSpec)) versionNoughtsUptoCard
end Rows
end Go.Proofs.YtecgjbddcmpggaaDoor
