/-
  DERIVED. GIVEN WITH THE SEED: THE CARDS: each row of YtgfknlnpnnjkoaaDoorRows.lean that lists a variable, with what it lists TIED to the program's text (the seventh form; the later family's looks); each row that meets fmt, with fmt's text TOLD by the authors' own Lean function (tested against real Go, not proved from fmt's source: count such statements apart). THE CARD IS WHAT COUNTS. Prove the row's statement (the work); the ties are given (YtgfknlnpnnjkoaaDoorTie.lean); close each card by the builder's one call (the guide's Derived/Test/ToyasCard.lean, 'card_holds'). Laid BY PROGRAM, IN A SANDBOX (cutbox-door.mjs). By AI agents, Wed Nov 11 2026. No macro, syntax, notation, axiom, sorry.
-/
import Derived.Test.YtgfknlnpnnjkoaaDoorRows
import GoSem.ClaimSeven
namespace Go.Proofs.YtgfknlnpnnjkoaaDoor
namespace Rows

/-- THE TIED CARD OF 'laws.FnExactPnmPut'. -/
def fnExactPnmPutCard : Claim7 := { stood := { row := fnExactPnmPutRow, standIns := [], harness := (true, "42c7ca3a274431fcf38043d74f92fa9b2491808522ee9690ba34e8a1bec476b4"), looks := true }, kinds := [], alts := [], laidByText := true, laidKinds := [.data, .data, .data], laidTests := true, laidLooks := .later }
def FnExactPnmPutCardSaid : Prop := Claim7.holds Tryd.pinned (.plain (OpenSpec.ofChange fnExactPnmPutSpec)) fnExactPnmPutCard

/-- THE TIED CARD OF 'laws.FnExactPnmGet'. -/
def fnExactPnmGetCard : Claim7 := { stood := { row := fnExactPnmGetRow, standIns := [], harness := (true, "42c7ca3a274431fcf38043d74f92fa9b2491808522ee9690ba34e8a1bec476b4"), looks := true }, kinds := [], alts := [], laidByText := true, laidKinds := [.sentinel], laidTests := true, laidLooks := .later }
def FnExactPnmGetCardSaid : Prop := Claim7.holds Tryd.pinned (.plain (OpenSpec.ofChange fnExactPnmGetSpec)) fnExactPnmGetCard

/-- THE TIED CARD OF 'laws.FnExactImageWrite'. -/
def fnExactImageWriteCard : Claim7 := { stood := { row := fnExactImageWriteRow, standIns := [], harness := (true, "42c7ca3a274431fcf38043d74f92fa9b2491808522ee9690ba34e8a1bec476b4"), looks := true }, kinds := [], alts := [], laidByText := true, laidKinds := [.data, .data, .data], laidTests := true, laidLooks := .later }
def FnExactImageWriteCardSaid : Prop := Claim7.holds Tryd.pinned (.plain (OpenSpec.ofChange fnExactImageWriteSpec)) fnExactImageWriteCard

/-- THE SECOND FORM's CARD OF 'laws.FnExactPnmPut'. -/
def fnExactPnmPutUptoCard : Claim7 := { stood := { row := fnExactPnmPutUptoRow, standIns := [], harness := (true, "42c7ca3a274431fcf38043d74f92fa9b2491808522ee9690ba34e8a1bec476b4"), looks := true }, kinds := [], alts := [], laidByText := true, laidKinds := [.data, .data, .data], laidTests := true, laidLooks := .later }
def FnExactPnmPutUptoCardSaid : Prop := Claim7.holds Tryd.pinned (.plain (OpenSpec.upto fnExactPnmPutSpec)) fnExactPnmPutUptoCard

/-- THE SECOND FORM's CARD OF 'laws.FnExactPnmGet'. -/
def fnExactPnmGetUptoCard : Claim7 := { stood := { row := fnExactPnmGetUptoRow, standIns := [], harness := (true, "42c7ca3a274431fcf38043d74f92fa9b2491808522ee9690ba34e8a1bec476b4"), looks := true }, kinds := [], alts := [], laidByText := true, laidKinds := [.sentinel], laidTests := true, laidLooks := .later }
def FnExactPnmGetUptoCardSaid : Prop := Claim7.holds Tryd.pinned (.plain (OpenSpec.upto fnExactPnmGetSpec)) fnExactPnmGetUptoCard

/-- THE SECOND FORM's CARD OF 'laws.FnExactImageWrite'. -/
def fnExactImageWriteUptoCard : Claim7 := { stood := { row := fnExactImageWriteUptoRow, standIns := [], harness := (true, "42c7ca3a274431fcf38043d74f92fa9b2491808522ee9690ba34e8a1bec476b4"), looks := true }, kinds := [], alts := [], laidByText := true, laidKinds := [.data, .data, .data], laidTests := true, laidLooks := .later }
def FnExactImageWriteUptoCardSaid : Prop := Claim7.holds Tryd.pinned (.plain (OpenSpec.upto fnExactImageWriteSpec)) fnExactImageWriteUptoCard
end Rows
end Go.Proofs.YtgfknlnpnnjkoaaDoor
