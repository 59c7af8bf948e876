/-
  No cell of these rows narrows 'for every input' (looked for: loops, veiled, ifaces, maps, wideKeys, modest, calm, conditions, laid).
  DERIVED. THE GIVEN ROWS OF THIS SEAT. 5 by the template 'for every input the law returns true; each argument reads behind the call as it read before'; 0 by the template 'total and deterministic' (their statements: YtjdilanmkgodnaaTotals.lean).
  GIVEN WITH THE SEED: the statements are not yours to turn. If you find one false, say at which input.
  Laid BY PROGRAM, IN A SANDBOX (cutbox-rows.mjs): the forced cells as the released guide's own fill.sh prints them over the translation 0fa84851e7a7e5d0… (all of the seat's roots in one cut). By AI agents, Wed Nov 11 2026. No macro, syntax, notation, axiom, sorry.
-/
import Derived.Test.YtjdilanmkgodnaaChecked
import GoSem.Claim
import GoSem.ClaimJoined
import GoSem.ClaimMapViews
import Derived.JoinedTies
import Derived.KernelRfl
namespace Go.Proofs.Ytjdilanmkgodnaa
/- THE CELL 'sum', in the pinned program and in every row, IS THE sha256 OF THE DUMP (.gsa) THAT YtjdilanmkgodnaaProg.lean LOADS. Nothing in Lean hashes anything: it is a label: what it is worth is what the hold of that sum in a sandbox is worth. -/
noncomputable def Try.pinned : Pinned := { name := "ytjdilanmkgodnaa", sum := "0fa84851e7a7e5d05e4115ad663f482c4678764d179fe64270e98754a057776d", checked := Try.checked }
namespace Rows
def none {H : Type} : Left H := { results := [], args := [] }

/-- 'laws.FnCodeMake': WHATEVER THE INPUT: true; the input reads as it did. -/
def fnCodeMakeSpec : ChangeSpec := { name := "fnCodeMake", fn := fun _ => fun
  | [d] => { results := [.lit (.bool true)], args := [d] }
  | _ => none }
def fnCodeMakeRow : OpenClaim := { program := "ytjdilanmkgodnaa", sum := "0fa84851e7a7e5d05e4115ad663f482c4678764d179fe64270e98754a057776d", func := "loop.example/intarsia/laws.FnCodeMake", spec := "fnCodeMake", apart := false }
def FnCodeMakeSaid : Prop := fnCodeMakeRow.holds Try.pinned (OpenSpec.ofChange fnCodeMakeSpec)

/-- ITS FALSE NEIGHBOUR: 'it returns false'. Refute it at one input. -/
def fnCodeMakeWrong : ChangeSpec := { name := "fnCodeMake", fn := fun _ => fun
  | [d] => { results := [.lit (.bool false)], args := [d] }
  | _ => none }
def FnCodeMakeWrongFalsely : Prop := fnCodeMakeRow.holds Try.pinned (OpenSpec.ofChange fnCodeMakeWrong)

/-- 'laws.FnCodeGet': WHATEVER THE INPUT: true; the input reads as it did. -/
def fnCodeGetSpec : ChangeSpec := { name := "fnCodeGet", fn := fun _ => fun
  | [d] => { results := [.lit (.bool true)], args := [d] }
  | _ => none }
def fnCodeGetRow : OpenClaim := { program := "ytjdilanmkgodnaa", sum := "0fa84851e7a7e5d05e4115ad663f482c4678764d179fe64270e98754a057776d", func := "loop.example/intarsia/laws.FnCodeGet", spec := "fnCodeGet", unfollowed := true, recurses := true, apart := false }
def FnCodeGetSaid : Prop := fnCodeGetRow.holds Try.pinned (OpenSpec.ofChange fnCodeGetSpec)

/-- ITS FALSE NEIGHBOUR: 'it returns false'. Refute it at one input. -/
def fnCodeGetWrong : ChangeSpec := { name := "fnCodeGet", fn := fun _ => fun
  | [d] => { results := [.lit (.bool false)], args := [d] }
  | _ => none }
def FnCodeGetWrongFalsely : Prop := fnCodeGetRow.holds Try.pinned (OpenSpec.ofChange fnCodeGetWrong)

/-- 'laws.FnCodePut': WHATEVER THE INPUT: true; the input reads as it did. -/
def fnCodePutSpec : ChangeSpec := { name := "fnCodePut", fn := fun _ => fun
  | [d] => { results := [.lit (.bool true)], args := [d] }
  | _ => none }
def fnCodePutRow : OpenClaim := { program := "ytjdilanmkgodnaa", sum := "0fa84851e7a7e5d05e4115ad663f482c4678764d179fe64270e98754a057776d", func := "loop.example/intarsia/laws.FnCodePut", spec := "fnCodePut", unfollowed := true, recurses := true, apart := false }
def FnCodePutSaid : Prop := fnCodePutRow.holds Try.pinned (OpenSpec.ofChange fnCodePutSpec)

/-- ITS FALSE NEIGHBOUR: 'it returns false'. Refute it at one input. -/
def fnCodePutWrong : ChangeSpec := { name := "fnCodePut", fn := fun _ => fun
  | [d] => { results := [.lit (.bool false)], args := [d] }
  | _ => none }
def FnCodePutWrongFalsely : Prop := fnCodePutRow.holds Try.pinned (OpenSpec.ofChange fnCodePutWrong)

/-- 'laws.FnCodeFull': WHATEVER THE INPUT: true; the input reads as it did. -/
def fnCodeFullSpec : ChangeSpec := { name := "fnCodeFull", fn := fun _ => fun
  | [d1, d2] => { results := [.lit (.bool true)], args := [d1, d2] }
  | _ => none }
def fnCodeFullRow : OpenClaim := { program := "ytjdilanmkgodnaa", sum := "0fa84851e7a7e5d05e4115ad663f482c4678764d179fe64270e98754a057776d", func := "loop.example/intarsia/laws.FnCodeFull", spec := "fnCodeFull", unfollowed := true, recurses := true, apart := false }
def FnCodeFullSaid : Prop := fnCodeFullRow.holds Try.pinned (OpenSpec.ofChange fnCodeFullSpec)

/-- ITS FALSE NEIGHBOUR: 'it returns false'. Refute it at one input. -/
def fnCodeFullWrong : ChangeSpec := { name := "fnCodeFull", fn := fun _ => fun
  | [d1, d2] => { results := [.lit (.bool false)], args := [d1, d2] }
  | _ => none }
def FnCodeFullWrongFalsely : Prop := fnCodeFullRow.holds Try.pinned (OpenSpec.ofChange fnCodeFullWrong)

/-- 'laws.FnExactCodeGet': WHATEVER THE INPUT: true; the input reads as it did. -/
def fnExactCodeGetSpec : ChangeSpec := { name := "fnExactCodeGet", fn := fun _ => fun
  | [d1, d2, d3] => { results := [.lit (.bool true)], args := [d1, d2, d3] }
  | _ => none }
def fnExactCodeGetRow : OpenClaim := { program := "ytjdilanmkgodnaa", sum := "0fa84851e7a7e5d05e4115ad663f482c4678764d179fe64270e98754a057776d", func := "loop.example/intarsia/laws.FnExactCodeGet", spec := "fnExactCodeGet", unfollowed := true, recurses := true, apart := false }
def FnExactCodeGetSaid : Prop := fnExactCodeGetRow.holds Try.pinned (OpenSpec.ofChange fnExactCodeGetSpec)

/-- ITS FALSE NEIGHBOUR: 'it returns false'. Refute it at one input. -/
def fnExactCodeGetWrong : ChangeSpec := { name := "fnExactCodeGet", fn := fun _ => fun
  | [d1, d2, d3] => { results := [.lit (.bool false)], args := [d1, d2, d3] }
  | _ => none }
def FnExactCodeGetWrongFalsely : Prop := fnExactCodeGetRow.holds Try.pinned (OpenSpec.ofChange fnExactCodeGetWrong)

/- THE SECOND FORM. 'bulk': how many values and letters a reading holds, each counted each time it is reached (what is shared counts as often as it is met; a slice's spare places count too). A statement '..UptoSaid' is the law's where the arguments, and the package variables that the reading takes, are together of bulk at most 1048576: NARROWER than '..Said'. Prove '..Said' where nothing that the law and all that it calls make is longer than what came in: it says more and counts as full. Else prove '..UptoSaid'. A law counts once. -/
mutual
def uptoBulk {H : Type} : DataW H → Nat
  | .lit (.string bytes) => bytes.length + 1
  | .lit _ => 1
  | .nil => 1
  | .ptr d => uptoBulk d + 1
  | .slice elems spare => uptoBulkAll elems + uptoBulkAll spare + 1
  | .agg parts => uptoBulkAll parts + 1
  | .iface _ d => uptoBulk d + 1
  | .map entries => uptoBulkEntries entries + 1
  | .held _ => 1
def uptoBulkAll {H : Type} : List (DataW H) → Nat
  | [] => 0
  | d :: r => uptoBulk d + uptoBulkAll r
def uptoBulkEntries {H : Type} : List (Lit × DataW H) → Nat
  | [] => 0
  | x :: r => uptoBulkEntry x + uptoBulkEntries r
def uptoBulkEntry {H : Type} : Lit × DataW H → Nat
  | (.string bytes, d) => bytes.length + uptoBulk d + 1
  | (_, d) => uptoBulk d + 1
 end
def uptoSmall : (H : Type) → List (DataW H) → Bool := fun _ ds => decide (uptoBulkAll ds ≤ 1048576)
def OpenSpec.upto (s : _root_.Go.ChangeSpec) : _root_.Go.OpenSpec := { _root_.Go.OpenSpec.ofChange s with cond := some uptoSmall }

/-- 'laws.FnCodeMake', WHERE WHAT IT READS IS OF BULK AT MOST 1048576: true; the input reads as it did. -/
def fnCodeMakeUptoRow : OpenClaim := { program := "ytjdilanmkgodnaa", sum := "0fa84851e7a7e5d05e4115ad663f482c4678764d179fe64270e98754a057776d", func := "loop.example/intarsia/laws.FnCodeMake", spec := "fnCodeMake", apart := false, narrowed := true }
def FnCodeMakeUptoSaid : Prop := fnCodeMakeUptoRow.holds Try.pinned (OpenSpec.upto fnCodeMakeSpec)

/-- 'laws.FnCodeGet', WHERE WHAT IT READS IS OF BULK AT MOST 1048576: true; the input reads as it did. -/
def fnCodeGetUptoRow : OpenClaim := { program := "ytjdilanmkgodnaa", sum := "0fa84851e7a7e5d05e4115ad663f482c4678764d179fe64270e98754a057776d", func := "loop.example/intarsia/laws.FnCodeGet", spec := "fnCodeGet", unfollowed := true, recurses := true, apart := false, narrowed := true }
def FnCodeGetUptoSaid : Prop := fnCodeGetUptoRow.holds Try.pinned (OpenSpec.upto fnCodeGetSpec)

/-- 'laws.FnCodePut', WHERE WHAT IT READS IS OF BULK AT MOST 1048576: true; the input reads as it did. -/
def fnCodePutUptoRow : OpenClaim := { program := "ytjdilanmkgodnaa", sum := "0fa84851e7a7e5d05e4115ad663f482c4678764d179fe64270e98754a057776d", func := "loop.example/intarsia/laws.FnCodePut", spec := "fnCodePut", unfollowed := true, recurses := true, apart := false, narrowed := true }
def FnCodePutUptoSaid : Prop := fnCodePutUptoRow.holds Try.pinned (OpenSpec.upto fnCodePutSpec)

/-- 'laws.FnCodeFull', WHERE WHAT IT READS IS OF BULK AT MOST 1048576: true; the input reads as it did. -/
def fnCodeFullUptoRow : OpenClaim := { program := "ytjdilanmkgodnaa", sum := "0fa84851e7a7e5d05e4115ad663f482c4678764d179fe64270e98754a057776d", func := "loop.example/intarsia/laws.FnCodeFull", spec := "fnCodeFull", unfollowed := true, recurses := true, apart := false, narrowed := true }
def FnCodeFullUptoSaid : Prop := fnCodeFullUptoRow.holds Try.pinned (OpenSpec.upto fnCodeFullSpec)

/-- 'laws.FnExactCodeGet', WHERE WHAT IT READS IS OF BULK AT MOST 1048576: true; the input reads as it did. -/
def fnExactCodeGetUptoRow : OpenClaim := { program := "ytjdilanmkgodnaa", sum := "0fa84851e7a7e5d05e4115ad663f482c4678764d179fe64270e98754a057776d", func := "loop.example/intarsia/laws.FnExactCodeGet", spec := "fnExactCodeGet", unfollowed := true, recurses := true, apart := false, narrowed := true }
def FnExactCodeGetUptoSaid : Prop := fnExactCodeGetUptoRow.holds Try.pinned (OpenSpec.upto fnExactCodeGetSpec)

end Rows
end Go.Proofs.Ytjdilanmkgodnaa
