/-
  DERIVED. GIVEN WITH THE SEED: THE CARDS: each row of YteldjmocbbbinaaGreatDoorRows.lean that lists a variable, with what it lists TIED to the program's text (the seventh form; the later family's looks); each row that meets fmt, with fmt's text TOLD by the authors' own Lean function (tested against real Go, not proved from fmt's source: count such statements apart). THE CARD IS WHAT COUNTS. Prove the row's statement (the work); the ties are given (YteldjmocbbbinaaGreatDoorTie.lean); close each card by the builder's one call (the guide's Derived/Test/ToyasCard.lean, 'card_holds'). Laid BY PROGRAM, IN A SANDBOX (cutbox-door.mjs). By AI agents, Wed Nov 11 2026. No macro, syntax, notation, axiom, sorry.
-/
import Derived.Test.YteldjmocbbbinaaGreatDoorRows
import GoSem.ClaimSeven
namespace Go.Proofs.YteldjmocbbbinaaGreatDoor
namespace Rows

/-- THE TIED CARD OF 'laws.FnRep'. -/
def fnRepCard : Claim7 := { stood := { row := fnRepRow, standIns := [], harness := (true, "a65cfe869e91110d9f80ca49ce8280602cc4928040fa8f44446758d9a8a9976c"), looks := true }, kinds := [], alts := [], laidByText := true, laidKinds := [.data, .data, .data, .sentinel, .sentinel], laidTests := true, laidLooks := .later }
def FnRepCardSaid : Prop := Claim7.holds Tryz.pinned (.plain (OpenSpec.ofChange fnRepSpec)) fnRepCard

/-- THE SECOND FORM's CARD OF 'laws.FnRep'. -/
def fnRepUptoCard : Claim7 := { stood := { row := fnRepUptoRow, standIns := [], harness := (true, "a65cfe869e91110d9f80ca49ce8280602cc4928040fa8f44446758d9a8a9976c"), looks := true }, kinds := [], alts := [], laidByText := true, laidKinds := [.data, .data, .data, .sentinel, .sentinel], laidTests := true, laidLooks := .later }
def FnRepUptoCardSaid : Prop := Claim7.holds Tryz.pinned (.plain (OpenSpec.upto fnRepSpec)) fnRepUptoCard
end Rows
end Go.Proofs.YteldjmocbbbinaaGreatDoor
