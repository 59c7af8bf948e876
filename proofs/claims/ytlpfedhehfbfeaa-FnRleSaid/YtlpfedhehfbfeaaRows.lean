/-
  No cell of these rows narrows 'for every input' (looked for: loops, veiled, ifaces, maps, wideKeys, modest, calm, conditions, laid).
  DERIVED. THE GIVEN ROWS OF THIS SEAT. 4 by the template 'for every input the law returns true; each argument reads behind the call as it read before'; 0 by the template 'total and deterministic' (their statements: YtlpfedhehfbfeaaTotals.lean).
  GIVEN WITH THE SEED: the statements are not yours to turn. If you find one false, say at which input.
  Laid BY PROGRAM, IN A SANDBOX (cutbox-rows.mjs): the forced cells as the released guide's own fill.sh prints them over the translation d3b10af393d3ec75… (all of the seat's roots in one cut). By AI agents, Wed Nov 11 2026. No macro, syntax, notation, axiom, sorry.
-/
import Derived.Test.YtlpfedhehfbfeaaChecked
import GoSem.Claim
import GoSem.ClaimJoined
import GoSem.ClaimMapViews
import Derived.JoinedTies
import Derived.KernelRfl
namespace Go.Proofs.Ytlpfedhehfbfeaa
/- THE CELL 'sum', in the pinned program and in every row, IS THE sha256 OF THE DUMP (.gsa) THAT YtlpfedhehfbfeaaProg.lean LOADS. Nothing in Lean hashes anything: it is a label: what it is worth is what the hold of that sum in a sandbox is worth. -/
noncomputable def Try.pinned : Pinned := { name := "ytlpfedhehfbfeaa", sum := "d3b10af393d3ec759de51cb8b06bb79b48c4f4dc965ac239262fefcff6811c85", checked := Try.checked }
namespace Rows
def none {H : Type} : Left H := { results := [], args := [] }

/-- 'laws.FnRle': WHATEVER THE INPUT: true; the input reads as it did. -/
def fnRleSpec : ChangeSpec := { name := "fnRle", fn := fun _ => fun
  | [d] => { results := [.lit (.bool true)], args := [d] }
  | _ => none }
def fnRleRow : OpenClaim := { program := "ytlpfedhehfbfeaa", sum := "d3b10af393d3ec759de51cb8b06bb79b48c4f4dc965ac239262fefcff6811c85", func := "loop.example/intarsia/laws.FnRle", spec := "fnRle", unfollowed := true, recurses := true, apart := false }
def FnRleSaid : Prop := fnRleRow.holds Try.pinned (OpenSpec.ofChange fnRleSpec)

/-- ITS FALSE NEIGHBOUR: 'it returns false'. Refute it at one input. -/
def fnRleWrong : ChangeSpec := { name := "fnRle", fn := fun _ => fun
  | [d] => { results := [.lit (.bool false)], args := [d] }
  | _ => none }
def FnRleWrongFalsely : Prop := fnRleRow.holds Try.pinned (OpenSpec.ofChange fnRleWrong)

/-- 'laws.FnRleGet': WHATEVER THE INPUT: true; the input reads as it did. -/
def fnRleGetSpec : ChangeSpec := { name := "fnRleGet", fn := fun _ => fun
  | [d] => { results := [.lit (.bool true)], args := [d] }
  | _ => none }
def fnRleGetRow : OpenClaim := { program := "ytlpfedhehfbfeaa", sum := "d3b10af393d3ec759de51cb8b06bb79b48c4f4dc965ac239262fefcff6811c85", func := "loop.example/intarsia/laws.FnRleGet", spec := "fnRleGet", unfollowed := true, recurses := true, apart := false }
def FnRleGetSaid : Prop := fnRleGetRow.holds Try.pinned (OpenSpec.ofChange fnRleGetSpec)

/-- ITS FALSE NEIGHBOUR: 'it returns false'. Refute it at one input. -/
def fnRleGetWrong : ChangeSpec := { name := "fnRleGet", fn := fun _ => fun
  | [d] => { results := [.lit (.bool false)], args := [d] }
  | _ => none }
def FnRleGetWrongFalsely : Prop := fnRleGetRow.holds Try.pinned (OpenSpec.ofChange fnRleGetWrong)

/-- 'laws.FnExactRlePut': WHATEVER THE INPUT: true; the input reads as it did. -/
def fnExactRlePutSpec : ChangeSpec := { name := "fnExactRlePut", fn := fun _ => fun
  | [d] => { results := [.lit (.bool true)], args := [d] }
  | _ => none }
def fnExactRlePutRow : OpenClaim := { program := "ytlpfedhehfbfeaa", sum := "d3b10af393d3ec759de51cb8b06bb79b48c4f4dc965ac239262fefcff6811c85", func := "loop.example/intarsia/laws.FnExactRlePut", spec := "fnExactRlePut", unfollowed := true, recurses := true, apart := false }
def FnExactRlePutSaid : Prop := fnExactRlePutRow.holds Try.pinned (OpenSpec.ofChange fnExactRlePutSpec)

/-- ITS FALSE NEIGHBOUR: 'it returns false'. Refute it at one input. -/
def fnExactRlePutWrong : ChangeSpec := { name := "fnExactRlePut", fn := fun _ => fun
  | [d] => { results := [.lit (.bool false)], args := [d] }
  | _ => none }
def FnExactRlePutWrongFalsely : Prop := fnExactRlePutRow.holds Try.pinned (OpenSpec.ofChange fnExactRlePutWrong)

/-- 'laws.FnExactRleGet': WHATEVER THE INPUT: true; the input reads as it did. -/
def fnExactRleGetSpec : ChangeSpec := { name := "fnExactRleGet", fn := fun _ => fun
  | [d1, d2, d3] => { results := [.lit (.bool true)], args := [d1, d2, d3] }
  | _ => none }
def fnExactRleGetRow : OpenClaim := { program := "ytlpfedhehfbfeaa", sum := "d3b10af393d3ec759de51cb8b06bb79b48c4f4dc965ac239262fefcff6811c85", func := "loop.example/intarsia/laws.FnExactRleGet", spec := "fnExactRleGet", unfollowed := true, recurses := true, apart := false }
def FnExactRleGetSaid : Prop := fnExactRleGetRow.holds Try.pinned (OpenSpec.ofChange fnExactRleGetSpec)

/-- ITS FALSE NEIGHBOUR: 'it returns false'. Refute it at one input. -/
def fnExactRleGetWrong : ChangeSpec := { name := "fnExactRleGet", fn := fun _ => fun
  | [d1, d2, d3] => { results := [.lit (.bool false)], args := [d1, d2, d3] }
  | _ => none }
def FnExactRleGetWrongFalsely : Prop := fnExactRleGetRow.holds Try.pinned (OpenSpec.ofChange fnExactRleGetWrong)

/- THE SECOND FORM. 'bulk': how many values and letters a reading holds, each counted each time it is reached (what is shared counts as often as it is met; a slice's spare places count too). A statement '..UptoSaid' is the law's where the arguments, and the package variables that the reading takes, are together of bulk at most 1048576: NARROWER than '..Said'. Prove '..Said' where nothing that the law and all that it calls make is longer than what came in: it says more and counts as full. Else prove '..UptoSaid'. A law counts once. -/
mutual
def uptoBulk {H : Type} : DataW H → Nat
  | .lit (.string bytes) => bytes.length + 1
  | .lit _ => 1
  | .nil => 1
  | .ptr d => uptoBulk d + 1
  | .slice elems spare => uptoBulkAll elems + uptoBulkAll spare + 1
  | .agg parts => uptoBulkAll parts + 1
  | .iface _ d => uptoBulk d + 1
  | .map entries => uptoBulkEntries entries + 1
  | .held _ => 1
def uptoBulkAll {H : Type} : List (DataW H) → Nat
  | [] => 0
  | d :: r => uptoBulk d + uptoBulkAll r
def uptoBulkEntries {H : Type} : List (Lit × DataW H) → Nat
  | [] => 0
  | x :: r => uptoBulkEntry x + uptoBulkEntries r
def uptoBulkEntry {H : Type} : Lit × DataW H → Nat
  | (.string bytes, d) => bytes.length + uptoBulk d + 1
  | (_, d) => uptoBulk d + 1
 end
def uptoSmall : (H : Type) → List (DataW H) → Bool := fun _ ds => decide (uptoBulkAll ds ≤ 1048576)
def OpenSpec.upto (s : _root_.Go.ChangeSpec) : _root_.Go.OpenSpec := { _root_.Go.OpenSpec.ofChange s with cond := some uptoSmall }

/-- 'laws.FnRle', WHERE WHAT IT READS IS OF BULK AT MOST 1048576: true; the input reads as it did. -/
def fnRleUptoRow : OpenClaim := { program := "ytlpfedhehfbfeaa", sum := "d3b10af393d3ec759de51cb8b06bb79b48c4f4dc965ac239262fefcff6811c85", func := "loop.example/intarsia/laws.FnRle", spec := "fnRle", unfollowed := true, recurses := true, apart := false, narrowed := true }
def FnRleUptoSaid : Prop := fnRleUptoRow.holds Try.pinned (OpenSpec.upto fnRleSpec)

/-- 'laws.FnRleGet', WHERE WHAT IT READS IS OF BULK AT MOST 1048576: true; the input reads as it did. -/
def fnRleGetUptoRow : OpenClaim := { program := "ytlpfedhehfbfeaa", sum := "d3b10af393d3ec759de51cb8b06bb79b48c4f4dc965ac239262fefcff6811c85", func := "loop.example/intarsia/laws.FnRleGet", spec := "fnRleGet", unfollowed := true, recurses := true, apart := false, narrowed := true }
def FnRleGetUptoSaid : Prop := fnRleGetUptoRow.holds Try.pinned (OpenSpec.upto fnRleGetSpec)

/-- 'laws.FnExactRlePut', WHERE WHAT IT READS IS OF BULK AT MOST 1048576: true; the input reads as it did. -/
def fnExactRlePutUptoRow : OpenClaim := { program := "ytlpfedhehfbfeaa", sum := "d3b10af393d3ec759de51cb8b06bb79b48c4f4dc965ac239262fefcff6811c85", func := "loop.example/intarsia/laws.FnExactRlePut", spec := "fnExactRlePut", unfollowed := true, recurses := true, apart := false, narrowed := true }
def FnExactRlePutUptoSaid : Prop := fnExactRlePutUptoRow.holds Try.pinned (OpenSpec.upto fnExactRlePutSpec)

/-- 'laws.FnExactRleGet', WHERE WHAT IT READS IS OF BULK AT MOST 1048576: true; the input reads as it did. -/
def fnExactRleGetUptoRow : OpenClaim := { program := "ytlpfedhehfbfeaa", sum := "d3b10af393d3ec759de51cb8b06bb79b48c4f4dc965ac239262fefcff6811c85", func := "loop.example/intarsia/laws.FnExactRleGet", spec := "fnExactRleGet", unfollowed := true, recurses := true, apart := false, narrowed := true }
def FnExactRleGetUptoSaid : Prop := fnExactRleGetUptoRow.holds Try.pinned (OpenSpec.upto fnExactRleGetSpec)

end Rows
end Go.Proofs.Ytlpfedhehfbfeaa
