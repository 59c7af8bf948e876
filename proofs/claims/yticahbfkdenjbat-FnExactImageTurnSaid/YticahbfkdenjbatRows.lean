/-
  No cell of these rows narrows 'for every input' (looked for: loops, veiled, ifaces, maps, wideKeys, modest, calm, conditions, laid).
  DERIVED. THE GIVEN ROWS OF THIS SEAT. 6 by the template 'for every input the law returns true; each argument reads behind the call as it read before'; 0 by the template 'total and deterministic' (their statements: YticahbfkdenjbatTotals.lean).
  GIVEN WITH THE SEED: the statements are not yours to turn. If you find one false, say at which input.
  Laid BY PROGRAM, IN A SANDBOX (cutbox-rows.mjs): the forced cells as the released guide's own fill.sh prints them over the translation 4c104783aae1bfe7… (all of the seat's roots in one cut). By AI agents, Wed Nov 11 2026. No macro, syntax, notation, axiom, sorry.
-/
import Derived.Test.YticahbfkdenjbatChecked
import GoSem.Claim
import GoSem.ClaimJoined
import GoSem.ClaimMapViews
import Derived.JoinedTies
import Derived.KernelRfl
namespace Go.Proofs.Yticahbfkdenjbat
/- THE CELL 'sum', in the pinned program and in every row, IS THE sha256 OF THE DUMP (.gsa) THAT YticahbfkdenjbatProg.lean LOADS. Nothing in Lean hashes anything: it is a label: what it is worth is what the hold of that sum in a sandbox is worth. -/
noncomputable def Try.pinned : Pinned := { name := "yticahbfkdenjbat", sum := "4c104783aae1bfe72745bf5c77d283f1718be588134e1a903a2971f8e8955ee5", checked := Try.checked }
namespace Rows
def none {H : Type} : Left H := { results := [], args := [] }

/-- 'laws.FnExactRleGet': WHATEVER THE INPUT: true; the input reads as it did. -/
def fnExactRleGetSpec : ChangeSpec := { name := "fnExactRleGet", fn := fun _ => fun
  | [d1, d2, d3] => { results := [.lit (.bool true)], args := [d1, d2, d3] }
  | _ => none }
def fnExactRleGetRow : OpenClaim := { program := "yticahbfkdenjbat", sum := "4c104783aae1bfe72745bf5c77d283f1718be588134e1a903a2971f8e8955ee5", func := "loop.example/intarsia/laws.FnExactRleGet", spec := "fnExactRleGet", unfollowed := true, recurses := true, apart := false }
def FnExactRleGetSaid : Prop := fnExactRleGetRow.holds Try.pinned (OpenSpec.ofChange fnExactRleGetSpec)

/-- ITS FALSE NEIGHBOUR: 'it returns false'. Refute it at one input. -/
def fnExactRleGetWrong : ChangeSpec := { name := "fnExactRleGet", fn := fun _ => fun
  | [d1, d2, d3] => { results := [.lit (.bool false)], args := [d1, d2, d3] }
  | _ => none }
def FnExactRleGetWrongFalsely : Prop := fnExactRleGetRow.holds Try.pinned (OpenSpec.ofChange fnExactRleGetWrong)

/-- 'laws.FnExactImageOk': WHATEVER THE INPUT: true; the input reads as it did. -/
def fnExactImageOkSpec : ChangeSpec := { name := "fnExactImageOk", fn := fun _ => fun
  | [d] => { results := [.lit (.bool true)], args := [d] }
  | _ => none }
def fnExactImageOkRow : OpenClaim := { program := "yticahbfkdenjbat", sum := "4c104783aae1bfe72745bf5c77d283f1718be588134e1a903a2971f8e8955ee5", func := "loop.example/intarsia/laws.FnExactImageOk", spec := "fnExactImageOk", unfollowed := true, recurses := true, apart := false }
def FnExactImageOkSaid : Prop := fnExactImageOkRow.holds Try.pinned (OpenSpec.ofChange fnExactImageOkSpec)

/-- ITS FALSE NEIGHBOUR: 'it returns false'. Refute it at one input. -/
def fnExactImageOkWrong : ChangeSpec := { name := "fnExactImageOk", fn := fun _ => fun
  | [d] => { results := [.lit (.bool false)], args := [d] }
  | _ => none }
def FnExactImageOkWrongFalsely : Prop := fnExactImageOkRow.holds Try.pinned (OpenSpec.ofChange fnExactImageOkWrong)

/-- 'laws.FnExactImageAt': WHATEVER THE INPUT: true; the input reads as it did. -/
def fnExactImageAtSpec : ChangeSpec := { name := "fnExactImageAt", fn := fun _ => fun
  | [d1, d2, d3] => { results := [.lit (.bool true)], args := [d1, d2, d3] }
  | _ => none }
def fnExactImageAtRow : OpenClaim := { program := "yticahbfkdenjbat", sum := "4c104783aae1bfe72745bf5c77d283f1718be588134e1a903a2971f8e8955ee5", func := "loop.example/intarsia/laws.FnExactImageAt", spec := "fnExactImageAt", unfollowed := true, recurses := true, apart := false }
def FnExactImageAtSaid : Prop := fnExactImageAtRow.holds Try.pinned (OpenSpec.ofChange fnExactImageAtSpec)

/-- ITS FALSE NEIGHBOUR: 'it returns false'. Refute it at one input. -/
def fnExactImageAtWrong : ChangeSpec := { name := "fnExactImageAt", fn := fun _ => fun
  | [d1, d2, d3] => { results := [.lit (.bool false)], args := [d1, d2, d3] }
  | _ => none }
def FnExactImageAtWrongFalsely : Prop := fnExactImageAtRow.holds Try.pinned (OpenSpec.ofChange fnExactImageAtWrong)

/-- 'laws.FnExactImageColor': WHATEVER THE INPUT: true; the input reads as it did. -/
def fnExactImageColorSpec : ChangeSpec := { name := "fnExactImageColor", fn := fun _ => fun
  | [d1, d2, d3] => { results := [.lit (.bool true)], args := [d1, d2, d3] }
  | _ => none }
def fnExactImageColorRow : OpenClaim := { program := "yticahbfkdenjbat", sum := "4c104783aae1bfe72745bf5c77d283f1718be588134e1a903a2971f8e8955ee5", func := "loop.example/intarsia/laws.FnExactImageColor", spec := "fnExactImageColor", unfollowed := true, recurses := true, apart := false }
def FnExactImageColorSaid : Prop := fnExactImageColorRow.holds Try.pinned (OpenSpec.ofChange fnExactImageColorSpec)

/-- ITS FALSE NEIGHBOUR: 'it returns false'. Refute it at one input. -/
def fnExactImageColorWrong : ChangeSpec := { name := "fnExactImageColor", fn := fun _ => fun
  | [d1, d2, d3] => { results := [.lit (.bool false)], args := [d1, d2, d3] }
  | _ => none }
def FnExactImageColorWrongFalsely : Prop := fnExactImageColorRow.holds Try.pinned (OpenSpec.ofChange fnExactImageColorWrong)

/-- 'laws.FnExactImageFlip': WHATEVER THE INPUT: true; the input reads as it did. -/
def fnExactImageFlipSpec : ChangeSpec := { name := "fnExactImageFlip", fn := fun _ => fun
  | [d] => { results := [.lit (.bool true)], args := [d] }
  | _ => none }
def fnExactImageFlipRow : OpenClaim := { program := "yticahbfkdenjbat", sum := "4c104783aae1bfe72745bf5c77d283f1718be588134e1a903a2971f8e8955ee5", func := "loop.example/intarsia/laws.FnExactImageFlip", spec := "fnExactImageFlip", unfollowed := true, recurses := true, apart := false }
def FnExactImageFlipSaid : Prop := fnExactImageFlipRow.holds Try.pinned (OpenSpec.ofChange fnExactImageFlipSpec)

/-- ITS FALSE NEIGHBOUR: 'it returns false'. Refute it at one input. -/
def fnExactImageFlipWrong : ChangeSpec := { name := "fnExactImageFlip", fn := fun _ => fun
  | [d] => { results := [.lit (.bool false)], args := [d] }
  | _ => none }
def FnExactImageFlipWrongFalsely : Prop := fnExactImageFlipRow.holds Try.pinned (OpenSpec.ofChange fnExactImageFlipWrong)

/-- 'laws.FnExactImageTurn': WHATEVER THE INPUT: true; the input reads as it did. -/
def fnExactImageTurnSpec : ChangeSpec := { name := "fnExactImageTurn", fn := fun _ => fun
  | [d] => { results := [.lit (.bool true)], args := [d] }
  | _ => none }
def fnExactImageTurnRow : OpenClaim := { program := "yticahbfkdenjbat", sum := "4c104783aae1bfe72745bf5c77d283f1718be588134e1a903a2971f8e8955ee5", func := "loop.example/intarsia/laws.FnExactImageTurn", spec := "fnExactImageTurn", unfollowed := true, recurses := true, apart := false }
def FnExactImageTurnSaid : Prop := fnExactImageTurnRow.holds Try.pinned (OpenSpec.ofChange fnExactImageTurnSpec)

/-- ITS FALSE NEIGHBOUR: 'it returns false'. Refute it at one input. -/
def fnExactImageTurnWrong : ChangeSpec := { name := "fnExactImageTurn", fn := fun _ => fun
  | [d] => { results := [.lit (.bool false)], args := [d] }
  | _ => none }
def FnExactImageTurnWrongFalsely : Prop := fnExactImageTurnRow.holds Try.pinned (OpenSpec.ofChange fnExactImageTurnWrong)

/- THE SECOND FORM. 'bulk': how many values and letters a reading holds, each counted each time it is reached (what is shared counts as often as it is met; a slice's spare places count too). A statement '..UptoSaid' is the law's where the arguments, and the package variables that the reading takes, are together of bulk at most 1048576: NARROWER than '..Said'. Prove '..Said' where nothing that the law and all that it calls make is longer than what came in: it says more and counts as full. Else prove '..UptoSaid'. A law counts once. -/
mutual
def uptoBulk {H : Type} : DataW H → Nat
  | .lit (.string bytes) => bytes.length + 1
  | .lit _ => 1
  | .nil => 1
  | .ptr d => uptoBulk d + 1
  | .slice elems spare => uptoBulkAll elems + uptoBulkAll spare + 1
  | .agg parts => uptoBulkAll parts + 1
  | .iface _ d => uptoBulk d + 1
  | .map entries => uptoBulkEntries entries + 1
  | .held _ => 1
def uptoBulkAll {H : Type} : List (DataW H) → Nat
  | [] => 0
  | d :: r => uptoBulk d + uptoBulkAll r
def uptoBulkEntries {H : Type} : List (Lit × DataW H) → Nat
  | [] => 0
  | x :: r => uptoBulkEntry x + uptoBulkEntries r
def uptoBulkEntry {H : Type} : Lit × DataW H → Nat
  | (.string bytes, d) => bytes.length + uptoBulk d + 1
  | (_, d) => uptoBulk d + 1
 end
def uptoSmall : (H : Type) → List (DataW H) → Bool := fun _ ds => decide (uptoBulkAll ds ≤ 1048576)
def OpenSpec.upto (s : _root_.Go.ChangeSpec) : _root_.Go.OpenSpec := { _root_.Go.OpenSpec.ofChange s with cond := some uptoSmall }

/-- 'laws.FnExactRleGet', WHERE WHAT IT READS IS OF BULK AT MOST 1048576: true; the input reads as it did. -/
def fnExactRleGetUptoRow : OpenClaim := { program := "yticahbfkdenjbat", sum := "4c104783aae1bfe72745bf5c77d283f1718be588134e1a903a2971f8e8955ee5", func := "loop.example/intarsia/laws.FnExactRleGet", spec := "fnExactRleGet", unfollowed := true, recurses := true, apart := false, narrowed := true }
def FnExactRleGetUptoSaid : Prop := fnExactRleGetUptoRow.holds Try.pinned (OpenSpec.upto fnExactRleGetSpec)

/-- 'laws.FnExactImageOk', WHERE WHAT IT READS IS OF BULK AT MOST 1048576: true; the input reads as it did. -/
def fnExactImageOkUptoRow : OpenClaim := { program := "yticahbfkdenjbat", sum := "4c104783aae1bfe72745bf5c77d283f1718be588134e1a903a2971f8e8955ee5", func := "loop.example/intarsia/laws.FnExactImageOk", spec := "fnExactImageOk", unfollowed := true, recurses := true, apart := false, narrowed := true }
def FnExactImageOkUptoSaid : Prop := fnExactImageOkUptoRow.holds Try.pinned (OpenSpec.upto fnExactImageOkSpec)

/-- 'laws.FnExactImageAt', WHERE WHAT IT READS IS OF BULK AT MOST 1048576: true; the input reads as it did. -/
def fnExactImageAtUptoRow : OpenClaim := { program := "yticahbfkdenjbat", sum := "4c104783aae1bfe72745bf5c77d283f1718be588134e1a903a2971f8e8955ee5", func := "loop.example/intarsia/laws.FnExactImageAt", spec := "fnExactImageAt", unfollowed := true, recurses := true, apart := false, narrowed := true }
def FnExactImageAtUptoSaid : Prop := fnExactImageAtUptoRow.holds Try.pinned (OpenSpec.upto fnExactImageAtSpec)

/-- 'laws.FnExactImageColor', WHERE WHAT IT READS IS OF BULK AT MOST 1048576: true; the input reads as it did. -/
def fnExactImageColorUptoRow : OpenClaim := { program := "yticahbfkdenjbat", sum := "4c104783aae1bfe72745bf5c77d283f1718be588134e1a903a2971f8e8955ee5", func := "loop.example/intarsia/laws.FnExactImageColor", spec := "fnExactImageColor", unfollowed := true, recurses := true, apart := false, narrowed := true }
def FnExactImageColorUptoSaid : Prop := fnExactImageColorUptoRow.holds Try.pinned (OpenSpec.upto fnExactImageColorSpec)

/-- 'laws.FnExactImageFlip', WHERE WHAT IT READS IS OF BULK AT MOST 1048576: true; the input reads as it did. -/
def fnExactImageFlipUptoRow : OpenClaim := { program := "yticahbfkdenjbat", sum := "4c104783aae1bfe72745bf5c77d283f1718be588134e1a903a2971f8e8955ee5", func := "loop.example/intarsia/laws.FnExactImageFlip", spec := "fnExactImageFlip", unfollowed := true, recurses := true, apart := false, narrowed := true }
def FnExactImageFlipUptoSaid : Prop := fnExactImageFlipUptoRow.holds Try.pinned (OpenSpec.upto fnExactImageFlipSpec)

/-- 'laws.FnExactImageTurn', WHERE WHAT IT READS IS OF BULK AT MOST 1048576: true; the input reads as it did. -/
def fnExactImageTurnUptoRow : OpenClaim := { program := "yticahbfkdenjbat", sum := "4c104783aae1bfe72745bf5c77d283f1718be588134e1a903a2971f8e8955ee5", func := "loop.example/intarsia/laws.FnExactImageTurn", spec := "fnExactImageTurn", unfollowed := true, recurses := true, apart := false, narrowed := true }
def FnExactImageTurnUptoSaid : Prop := fnExactImageTurnUptoRow.holds Try.pinned (OpenSpec.upto fnExactImageTurnSpec)

end Rows
end Go.Proofs.Yticahbfkdenjbat
