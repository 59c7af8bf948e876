/-
  No cell of these rows narrows 'for every input' (looked for: loops, veiled, ifaces, maps, wideKeys, modest, calm, conditions, laid).
  DERIVED. THE GIVEN ROWS OF THIS SEAT. 6 by the template 'for every input the law returns true; each argument reads behind the call as it read before'; 0 by the template 'total and deterministic' (their statements: YtkghijlooefbhaaTotals.lean).
  GIVEN WITH THE SEED: the statements are not yours to turn. If you find one false, say at which input.
  Laid BY PROGRAM, IN A SANDBOX (cutbox-rows.mjs): the forced cells as the released guide's own fill.sh prints them over the translation 8abda6d7131d91b9… (all of the seat's roots in one cut). By AI agents, Wed Nov 11 2026. No macro, syntax, notation, axiom, sorry.
-/
import Derived.Test.YtkghijlooefbhaaChecked
import GoSem.Claim
import GoSem.ClaimJoined
import GoSem.ClaimMapViews
import Derived.JoinedTies
import Derived.KernelRfl
namespace Go.Proofs.Ytkghijlooefbhaa
/- THE CELL 'sum', in the pinned program and in every row, IS THE sha256 OF THE DUMP (.gsa) THAT YtkghijlooefbhaaProg.lean LOADS. Nothing in Lean hashes anything: it is a label: what it is worth is what the hold of that sum in a sandbox is worth. -/
noncomputable def Try.pinned : Pinned := { name := "ytkghijlooefbhaa", sum := "8abda6d7131d91b9c729675f0bc6c371f0575f8c5b4b7b94e3826c9b44a59943", checked := Try.checked }
namespace Rows
def none {H : Type} : Left H := { results := [], args := [] }

/-- 'laws.FnPasses': WHATEVER THE INPUT: true; the input reads as it did. -/
def fnPassesSpec : ChangeSpec := { name := "fnPasses", fn := fun _ => fun
  | [d] => { results := [.lit (.bool true)], args := [d] }
  | _ => none }
def fnPassesRow : OpenClaim := { program := "ytkghijlooefbhaa", sum := "8abda6d7131d91b9c729675f0bc6c371f0575f8c5b4b7b94e3826c9b44a59943", func := "loop.example/intarsia/laws.FnPasses", spec := "fnPasses", apart := false }
def FnPassesSaid : Prop := fnPassesRow.holds Try.pinned (OpenSpec.ofChange fnPassesSpec)

/-- ITS FALSE NEIGHBOUR: 'it returns false'. Refute it at one input. -/
def fnPassesWrong : ChangeSpec := { name := "fnPasses", fn := fun _ => fun
  | [d] => { results := [.lit (.bool false)], args := [d] }
  | _ => none }
def FnPassesWrongFalsely : Prop := fnPassesRow.holds Try.pinned (OpenSpec.ofChange fnPassesWrong)

/-- 'laws.FnExactPackPut': WHATEVER THE INPUT: true; the input reads as it did. -/
def fnExactPackPutSpec : ChangeSpec := { name := "fnExactPackPut", fn := fun _ => fun
  | [d] => { results := [.lit (.bool true)], args := [d] }
  | _ => none }
def fnExactPackPutRow : OpenClaim := { program := "ytkghijlooefbhaa", sum := "8abda6d7131d91b9c729675f0bc6c371f0575f8c5b4b7b94e3826c9b44a59943", func := "loop.example/intarsia/laws.FnExactPackPut", spec := "fnExactPackPut", unfollowed := true, recurses := true, apart := false }
def FnExactPackPutSaid : Prop := fnExactPackPutRow.holds Try.pinned (OpenSpec.ofChange fnExactPackPutSpec)

/-- ITS FALSE NEIGHBOUR: 'it returns false'. Refute it at one input. -/
def fnExactPackPutWrong : ChangeSpec := { name := "fnExactPackPut", fn := fun _ => fun
  | [d] => { results := [.lit (.bool false)], args := [d] }
  | _ => none }
def FnExactPackPutWrongFalsely : Prop := fnExactPackPutRow.holds Try.pinned (OpenSpec.ofChange fnExactPackPutWrong)

/-- 'laws.FnExactRunPut': WHATEVER THE INPUT: true; the input reads as it did. -/
def fnExactRunPutSpec : ChangeSpec := { name := "fnExactRunPut", fn := fun _ => fun
  | [d1, d2] => { results := [.lit (.bool true)], args := [d1, d2] }
  | _ => none }
def fnExactRunPutRow : OpenClaim := { program := "ytkghijlooefbhaa", sum := "8abda6d7131d91b9c729675f0bc6c371f0575f8c5b4b7b94e3826c9b44a59943", func := "loop.example/intarsia/laws.FnExactRunPut", spec := "fnExactRunPut", unfollowed := true, recurses := true, apart := false }
def FnExactRunPutSaid : Prop := fnExactRunPutRow.holds Try.pinned (OpenSpec.ofChange fnExactRunPutSpec)

/-- ITS FALSE NEIGHBOUR: 'it returns false'. Refute it at one input. -/
def fnExactRunPutWrong : ChangeSpec := { name := "fnExactRunPut", fn := fun _ => fun
  | [d1, d2] => { results := [.lit (.bool false)], args := [d1, d2] }
  | _ => none }
def FnExactRunPutWrongFalsely : Prop := fnExactRunPutRow.holds Try.pinned (OpenSpec.ofChange fnExactRunPutWrong)

/-- 'laws.FnExactRlePut': WHATEVER THE INPUT: true; the input reads as it did. -/
def fnExactRlePutSpec : ChangeSpec := { name := "fnExactRlePut", fn := fun _ => fun
  | [d] => { results := [.lit (.bool true)], args := [d] }
  | _ => none }
def fnExactRlePutRow : OpenClaim := { program := "ytkghijlooefbhaa", sum := "8abda6d7131d91b9c729675f0bc6c371f0575f8c5b4b7b94e3826c9b44a59943", func := "loop.example/intarsia/laws.FnExactRlePut", spec := "fnExactRlePut", unfollowed := true, recurses := true, apart := false }
def FnExactRlePutSaid : Prop := fnExactRlePutRow.holds Try.pinned (OpenSpec.ofChange fnExactRlePutSpec)

/-- ITS FALSE NEIGHBOUR: 'it returns false'. Refute it at one input. -/
def fnExactRlePutWrong : ChangeSpec := { name := "fnExactRlePut", fn := fun _ => fun
  | [d] => { results := [.lit (.bool false)], args := [d] }
  | _ => none }
def FnExactRlePutWrongFalsely : Prop := fnExactRlePutRow.holds Try.pinned (OpenSpec.ofChange fnExactRlePutWrong)

/-- 'laws.FnExactChunksPut': WHATEVER THE INPUT: true; the input reads as it did. -/
def fnExactChunksPutSpec : ChangeSpec := { name := "fnExactChunksPut", fn := fun _ => fun
  | [d] => { results := [.lit (.bool true)], args := [d] }
  | _ => none }
def fnExactChunksPutRow : OpenClaim := { program := "ytkghijlooefbhaa", sum := "8abda6d7131d91b9c729675f0bc6c371f0575f8c5b4b7b94e3826c9b44a59943", func := "loop.example/intarsia/laws.FnExactChunksPut", spec := "fnExactChunksPut", unfollowed := true, recurses := true, apart := false }
def FnExactChunksPutSaid : Prop := fnExactChunksPutRow.holds Try.pinned (OpenSpec.ofChange fnExactChunksPutSpec)

/-- ITS FALSE NEIGHBOUR: 'it returns false'. Refute it at one input. -/
def fnExactChunksPutWrong : ChangeSpec := { name := "fnExactChunksPut", fn := fun _ => fun
  | [d] => { results := [.lit (.bool false)], args := [d] }
  | _ => none }
def FnExactChunksPutWrongFalsely : Prop := fnExactChunksPutRow.holds Try.pinned (OpenSpec.ofChange fnExactChunksPutWrong)

/-- 'laws.FnImageFlip': WHATEVER THE INPUT: true; the input reads as it did. -/
def fnImageFlipSpec : ChangeSpec := { name := "fnImageFlip", fn := fun _ => fun
  | [d] => { results := [.lit (.bool true)], args := [d] }
  | _ => none }
def fnImageFlipRow : OpenClaim := { program := "ytkghijlooefbhaa", sum := "8abda6d7131d91b9c729675f0bc6c371f0575f8c5b4b7b94e3826c9b44a59943", func := "loop.example/intarsia/laws.FnImageFlip", spec := "fnImageFlip", unfollowed := true, recurses := true, apart := false }
def FnImageFlipSaid : Prop := fnImageFlipRow.holds Try.pinned (OpenSpec.ofChange fnImageFlipSpec)

/-- ITS FALSE NEIGHBOUR: 'it returns false'. Refute it at one input. -/
def fnImageFlipWrong : ChangeSpec := { name := "fnImageFlip", fn := fun _ => fun
  | [d] => { results := [.lit (.bool false)], args := [d] }
  | _ => none }
def FnImageFlipWrongFalsely : Prop := fnImageFlipRow.holds Try.pinned (OpenSpec.ofChange fnImageFlipWrong)

/- THE SECOND FORM. 'bulk': how many values and letters a reading holds, each counted each time it is reached (what is shared counts as often as it is met; a slice's spare places count too). A statement '..UptoSaid' is the law's where the arguments, and the package variables that the reading takes, are together of bulk at most 1048576: NARROWER than '..Said'. Prove '..Said' where nothing that the law and all that it calls make is longer than what came in: it says more and counts as full. Else prove '..UptoSaid'. A law counts once. -/
mutual
def uptoBulk {H : Type} : DataW H → Nat
  | .lit (.string bytes) => bytes.length + 1
  | .lit _ => 1
  | .nil => 1
  | .ptr d => uptoBulk d + 1
  | .slice elems spare => uptoBulkAll elems + uptoBulkAll spare + 1
  | .agg parts => uptoBulkAll parts + 1
  | .iface _ d => uptoBulk d + 1
  | .map entries => uptoBulkEntries entries + 1
  | .held _ => 1
def uptoBulkAll {H : Type} : List (DataW H) → Nat
  | [] => 0
  | d :: r => uptoBulk d + uptoBulkAll r
def uptoBulkEntries {H : Type} : List (Lit × DataW H) → Nat
  | [] => 0
  | x :: r => uptoBulkEntry x + uptoBulkEntries r
def uptoBulkEntry {H : Type} : Lit × DataW H → Nat
  | (.string bytes, d) => bytes.length + uptoBulk d + 1
  | (_, d) => uptoBulk d + 1
 end
def uptoSmall : (H : Type) → List (DataW H) → Bool := fun _ ds => decide (uptoBulkAll ds ≤ 1048576)
def OpenSpec.upto (s : _root_.Go.ChangeSpec) : _root_.Go.OpenSpec := { _root_.Go.OpenSpec.ofChange s with cond := some uptoSmall }

/-- 'laws.FnPasses', WHERE WHAT IT READS IS OF BULK AT MOST 1048576: true; the input reads as it did. -/
def fnPassesUptoRow : OpenClaim := { program := "ytkghijlooefbhaa", sum := "8abda6d7131d91b9c729675f0bc6c371f0575f8c5b4b7b94e3826c9b44a59943", func := "loop.example/intarsia/laws.FnPasses", spec := "fnPasses", apart := false, narrowed := true }
def FnPassesUptoSaid : Prop := fnPassesUptoRow.holds Try.pinned (OpenSpec.upto fnPassesSpec)

/-- 'laws.FnExactPackPut', WHERE WHAT IT READS IS OF BULK AT MOST 1048576: true; the input reads as it did. -/
def fnExactPackPutUptoRow : OpenClaim := { program := "ytkghijlooefbhaa", sum := "8abda6d7131d91b9c729675f0bc6c371f0575f8c5b4b7b94e3826c9b44a59943", func := "loop.example/intarsia/laws.FnExactPackPut", spec := "fnExactPackPut", unfollowed := true, recurses := true, apart := false, narrowed := true }
def FnExactPackPutUptoSaid : Prop := fnExactPackPutUptoRow.holds Try.pinned (OpenSpec.upto fnExactPackPutSpec)

/-- 'laws.FnExactRunPut', WHERE WHAT IT READS IS OF BULK AT MOST 1048576: true; the input reads as it did. -/
def fnExactRunPutUptoRow : OpenClaim := { program := "ytkghijlooefbhaa", sum := "8abda6d7131d91b9c729675f0bc6c371f0575f8c5b4b7b94e3826c9b44a59943", func := "loop.example/intarsia/laws.FnExactRunPut", spec := "fnExactRunPut", unfollowed := true, recurses := true, apart := false, narrowed := true }
def FnExactRunPutUptoSaid : Prop := fnExactRunPutUptoRow.holds Try.pinned (OpenSpec.upto fnExactRunPutSpec)

/-- 'laws.FnExactRlePut', WHERE WHAT IT READS IS OF BULK AT MOST 1048576: true; the input reads as it did. -/
def fnExactRlePutUptoRow : OpenClaim := { program := "ytkghijlooefbhaa", sum := "8abda6d7131d91b9c729675f0bc6c371f0575f8c5b4b7b94e3826c9b44a59943", func := "loop.example/intarsia/laws.FnExactRlePut", spec := "fnExactRlePut", unfollowed := true, recurses := true, apart := false, narrowed := true }
def FnExactRlePutUptoSaid : Prop := fnExactRlePutUptoRow.holds Try.pinned (OpenSpec.upto fnExactRlePutSpec)

/-- 'laws.FnExactChunksPut', WHERE WHAT IT READS IS OF BULK AT MOST 1048576: true; the input reads as it did. -/
def fnExactChunksPutUptoRow : OpenClaim := { program := "ytkghijlooefbhaa", sum := "8abda6d7131d91b9c729675f0bc6c371f0575f8c5b4b7b94e3826c9b44a59943", func := "loop.example/intarsia/laws.FnExactChunksPut", spec := "fnExactChunksPut", unfollowed := true, recurses := true, apart := false, narrowed := true }
def FnExactChunksPutUptoSaid : Prop := fnExactChunksPutUptoRow.holds Try.pinned (OpenSpec.upto fnExactChunksPutSpec)

/-- 'laws.FnImageFlip', WHERE WHAT IT READS IS OF BULK AT MOST 1048576: true; the input reads as it did. -/
def fnImageFlipUptoRow : OpenClaim := { program := "ytkghijlooefbhaa", sum := "8abda6d7131d91b9c729675f0bc6c371f0575f8c5b4b7b94e3826c9b44a59943", func := "loop.example/intarsia/laws.FnImageFlip", spec := "fnImageFlip", unfollowed := true, recurses := true, apart := false, narrowed := true }
def FnImageFlipUptoSaid : Prop := fnImageFlipUptoRow.holds Try.pinned (OpenSpec.upto fnImageFlipSpec)

end Rows
end Go.Proofs.Ytkghijlooefbhaa
