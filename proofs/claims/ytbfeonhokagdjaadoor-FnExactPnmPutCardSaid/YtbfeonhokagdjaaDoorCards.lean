/-
  DERIVED. GIVEN WITH THE SEED: THE CARDS: each row of YtbfeonhokagdjaaDoorRows.lean that lists a variable, with what it lists TIED to the program's text (the seventh form; the later family's looks); each row that meets fmt, with fmt's text TOLD by the authors' own Lean function (tested against real Go, not proved from fmt's source: count such statements apart). THE CARD IS WHAT COUNTS. Prove the row's statement (the work); the ties are given (YtbfeonhokagdjaaDoorTie.lean); close each card by the builder's one call (the guide's Derived/Test/ToyasCard.lean, 'card_holds'). Laid BY PROGRAM, IN A SANDBOX (cutbox-door.mjs). By AI agents, Wed Nov 11 2026. No macro, syntax, notation, axiom, sorry.
-/
import Derived.Test.YtbfeonhokagdjaaDoorRows
import GoSem.ClaimSeven
namespace Go.Proofs.YtbfeonhokagdjaaDoor
namespace Rows

/-- THE TIED CARD OF 'laws.FnExactPnmPut'. -/
def fnExactPnmPutCard : Claim7 := { stood := { row := fnExactPnmPutRow, standIns := [], harness := (true, "f5b537f4de09d71289be7508916f2b944ebe7af8518f81217f5db75367b8629e"), looks := false }, kinds := [], alts := [], laidByText := true, laidKinds := [.data, .data, .data], laidTests := true, laidLooks := .later }
def FnExactPnmPutCardSaid : Prop := Claim7.holds Tryd.pinned (.plain (OpenSpec.ofChange fnExactPnmPutSpec)) fnExactPnmPutCard

/-- THE SECOND FORM's CARD OF 'laws.FnExactPnmPut'. -/
def fnExactPnmPutUptoCard : Claim7 := { stood := { row := fnExactPnmPutUptoRow, standIns := [], harness := (true, "f5b537f4de09d71289be7508916f2b944ebe7af8518f81217f5db75367b8629e"), looks := false }, kinds := [], alts := [], laidByText := true, laidKinds := [.data, .data, .data], laidTests := true, laidLooks := .later }
def FnExactPnmPutUptoCardSaid : Prop := Claim7.holds Tryd.pinned (.plain (OpenSpec.upto fnExactPnmPutSpec)) fnExactPnmPutUptoCard
end Rows
end Go.Proofs.YtbfeonhokagdjaaDoor
