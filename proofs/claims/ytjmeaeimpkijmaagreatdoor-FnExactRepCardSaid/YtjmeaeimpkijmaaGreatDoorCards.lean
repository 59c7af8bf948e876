/-
  DERIVED. GIVEN WITH THE SEED: THE CARDS: each row of YtjmeaeimpkijmaaGreatDoorRows.lean that lists a variable, with what it lists TIED to the program's text (the seventh form; the later family's looks); each row that meets fmt, with fmt's text TOLD by the authors' own Lean function (tested against real Go, not proved from fmt's source: count such statements apart). THE CARD IS WHAT COUNTS. Prove the row's statement (the work); the ties are given (YtjmeaeimpkijmaaGreatDoorTie.lean); close each card by the builder's one call (the guide's Derived/Test/ToyasCard.lean, 'card_holds'). Laid BY PROGRAM, IN A SANDBOX (cutbox-door.mjs). By AI agents, Wed Nov 11 2026. No macro, syntax, notation, axiom, sorry.
-/
import Derived.Test.YtjmeaeimpkijmaaGreatDoorRows
import GoSem.ClaimSeven
namespace Go.Proofs.YtjmeaeimpkijmaaGreatDoor
namespace Rows

/-- THE TIED CARD OF 'laws.FnExactSniff'. -/
def fnExactSniffCard : Claim7 := { stood := { row := fnExactSniffRow, standIns := [], harness := (true, "a91da1772ccb8c678ed91e0b5545972294932219e6ae7e271b510f1803f2db03"), looks := true }, kinds := [], alts := [], laidByText := true, laidKinds := [.data, .data, .data, .sentinel, .sentinel], laidTests := true, laidLooks := .later }
def FnExactSniffCardSaid : Prop := Claim7.holds Tryz.pinned (.plain (OpenSpec.ofChange fnExactSniffSpec)) fnExactSniffCard

/-- THE TIED CARD OF 'laws.FnExactWays'. -/
def fnExactWaysCard : Claim7 := { stood := { row := fnExactWaysRow, standIns := [], harness := (true, "a91da1772ccb8c678ed91e0b5545972294932219e6ae7e271b510f1803f2db03"), looks := true }, kinds := [], alts := [], laidByText := true, laidKinds := [.data, .data, .data, .sentinel, .sentinel], laidTests := true, laidLooks := .later }
def FnExactWaysCardSaid : Prop := Claim7.holds Tryz.pinned (.plain (OpenSpec.ofChange fnExactWaysSpec)) fnExactWaysCard

/-- THE TIED CARD OF 'laws.FnExactRep'. -/
def fnExactRepCard : Claim7 := { stood := { row := fnExactRepRow, standIns := [], harness := (true, "a91da1772ccb8c678ed91e0b5545972294932219e6ae7e271b510f1803f2db03"), looks := true }, kinds := [], alts := [], laidByText := true, laidKinds := [.data, .data, .data, .sentinel, .sentinel], laidTests := true, laidLooks := .later }
def FnExactRepCardSaid : Prop := Claim7.holds Tryz.pinned (.plain (OpenSpec.ofChange fnExactRepSpec)) fnExactRepCard

/-- THE SECOND FORM's CARD OF 'laws.FnExactSniff'. -/
def fnExactSniffUptoCard : Claim7 := { stood := { row := fnExactSniffUptoRow, standIns := [], harness := (true, "a91da1772ccb8c678ed91e0b5545972294932219e6ae7e271b510f1803f2db03"), looks := true }, kinds := [], alts := [], laidByText := true, laidKinds := [.data, .data, .data, .sentinel, .sentinel], laidTests := true, laidLooks := .later }
def FnExactSniffUptoCardSaid : Prop := Claim7.holds Tryz.pinned (.plain (OpenSpec.upto fnExactSniffSpec)) fnExactSniffUptoCard

/-- THE SECOND FORM's CARD OF 'laws.FnExactWays'. -/
def fnExactWaysUptoCard : Claim7 := { stood := { row := fnExactWaysUptoRow, standIns := [], harness := (true, "a91da1772ccb8c678ed91e0b5545972294932219e6ae7e271b510f1803f2db03"), looks := true }, kinds := [], alts := [], laidByText := true, laidKinds := [.data, .data, .data, .sentinel, .sentinel], laidTests := true, laidLooks := .later }
def FnExactWaysUptoCardSaid : Prop := Claim7.holds Tryz.pinned (.plain (OpenSpec.upto fnExactWaysSpec)) fnExactWaysUptoCard

/-- THE SECOND FORM's CARD OF 'laws.FnExactRep'. -/
def fnExactRepUptoCard : Claim7 := { stood := { row := fnExactRepUptoRow, standIns := [], harness := (true, "a91da1772ccb8c678ed91e0b5545972294932219e6ae7e271b510f1803f2db03"), looks := true }, kinds := [], alts := [], laidByText := true, laidKinds := [.data, .data, .data, .sentinel, .sentinel], laidTests := true, laidLooks := .later }
def FnExactRepUptoCardSaid : Prop := Claim7.holds Tryz.pinned (.plain (OpenSpec.upto fnExactRepSpec)) fnExactRepUptoCard
end Rows
end Go.Proofs.YtjmeaeimpkijmaaGreatDoor
