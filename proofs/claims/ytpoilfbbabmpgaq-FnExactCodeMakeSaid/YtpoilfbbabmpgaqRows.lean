/-
  No cell of these rows narrows 'for every input' (looked for: loops, veiled, ifaces, maps, wideKeys, modest, calm, conditions, laid).
  DERIVED. THE GIVEN ROWS OF THIS SEAT. 6 by the template 'for every input the law returns true; each argument reads behind the call as it read before'; 0 by the template 'total and deterministic' (their statements: YtpoilfbbabmpgaqTotals.lean).
  GIVEN WITH THE SEED: the statements are not yours to turn. If you find one false, say at which input.
  Laid BY PROGRAM, IN A SANDBOX (cutbox-rows.mjs): the forced cells as the released guide's own fill.sh prints them over the translation 18c0c8854083670b… (all of the seat's roots in one cut). By AI agents, Wed Nov 11 2026. No macro, syntax, notation, axiom, sorry.
-/
import Derived.Test.YtpoilfbbabmpgaqChecked
import GoSem.Claim
import GoSem.ClaimJoined
import GoSem.ClaimMapViews
import Derived.JoinedTies
import Derived.KernelRfl
namespace Go.Proofs.Ytpoilfbbabmpgaq
/- THE CELL 'sum', in the pinned program and in every row, IS THE sha256 OF THE DUMP (.gsa) THAT YtpoilfbbabmpgaqProg.lean LOADS. Nothing in Lean hashes anything: it is a label: what it is worth is what the hold of that sum in a sandbox is worth. -/
noncomputable def Try.pinned : Pinned := { name := "ytpoilfbbabmpgaq", sum := "18c0c8854083670b6f640563a4e6f5bb398b3e9db2ef7e48060884f18726e3e7", checked := Try.checked }
namespace Rows
def none {H : Type} : Left H := { results := [], args := [] }

/-- 'laws.FnExactCodeFull': WHATEVER THE INPUT: true; the input reads as it did. -/
def fnExactCodeFullSpec : ChangeSpec := { name := "fnExactCodeFull", fn := fun _ => fun
  | [d] => { results := [.lit (.bool true)], args := [d] }
  | _ => none }
def fnExactCodeFullRow : OpenClaim := { program := "ytpoilfbbabmpgaq", sum := "18c0c8854083670b6f640563a4e6f5bb398b3e9db2ef7e48060884f18726e3e7", func := "loop.example/intarsia/laws.FnExactCodeFull", spec := "fnExactCodeFull", apart := false }
def FnExactCodeFullSaid : Prop := fnExactCodeFullRow.holds Try.pinned (OpenSpec.ofChange fnExactCodeFullSpec)

/-- ITS FALSE NEIGHBOUR: 'it returns false'. Refute it at one input. -/
def fnExactCodeFullWrong : ChangeSpec := { name := "fnExactCodeFull", fn := fun _ => fun
  | [d] => { results := [.lit (.bool false)], args := [d] }
  | _ => none }
def FnExactCodeFullWrongFalsely : Prop := fnExactCodeFullRow.holds Try.pinned (OpenSpec.ofChange fnExactCodeFullWrong)

/-- 'laws.FnExactCodeMake': WHATEVER THE INPUT: true; the input reads as it did. -/
def fnExactCodeMakeSpec : ChangeSpec := { name := "fnExactCodeMake", fn := fun _ => fun
  | [d] => { results := [.lit (.bool true)], args := [d] }
  | _ => none }
def fnExactCodeMakeRow : OpenClaim := { program := "ytpoilfbbabmpgaq", sum := "18c0c8854083670b6f640563a4e6f5bb398b3e9db2ef7e48060884f18726e3e7", func := "loop.example/intarsia/laws.FnExactCodeMake", spec := "fnExactCodeMake", apart := false }
def FnExactCodeMakeSaid : Prop := fnExactCodeMakeRow.holds Try.pinned (OpenSpec.ofChange fnExactCodeMakeSpec)

/-- ITS FALSE NEIGHBOUR: 'it returns false'. Refute it at one input. -/
def fnExactCodeMakeWrong : ChangeSpec := { name := "fnExactCodeMake", fn := fun _ => fun
  | [d] => { results := [.lit (.bool false)], args := [d] }
  | _ => none }
def FnExactCodeMakeWrongFalsely : Prop := fnExactCodeMakeRow.holds Try.pinned (OpenSpec.ofChange fnExactCodeMakeWrong)

/-- 'laws.FnExactCodeFit': WHATEVER THE INPUT: true; the input reads as it did. -/
def fnExactCodeFitSpec : ChangeSpec := { name := "fnExactCodeFit", fn := fun _ => fun
  | [d1, d2] => { results := [.lit (.bool true)], args := [d1, d2] }
  | _ => none }
def fnExactCodeFitRow : OpenClaim := { program := "ytpoilfbbabmpgaq", sum := "18c0c8854083670b6f640563a4e6f5bb398b3e9db2ef7e48060884f18726e3e7", func := "loop.example/intarsia/laws.FnExactCodeFit", spec := "fnExactCodeFit", unfollowed := true, recurses := true, apart := false }
def FnExactCodeFitSaid : Prop := fnExactCodeFitRow.holds Try.pinned (OpenSpec.ofChange fnExactCodeFitSpec)

/-- ITS FALSE NEIGHBOUR: 'it returns false'. Refute it at one input. -/
def fnExactCodeFitWrong : ChangeSpec := { name := "fnExactCodeFit", fn := fun _ => fun
  | [d1, d2] => { results := [.lit (.bool false)], args := [d1, d2] }
  | _ => none }
def FnExactCodeFitWrongFalsely : Prop := fnExactCodeFitRow.holds Try.pinned (OpenSpec.ofChange fnExactCodeFitWrong)

/-- 'laws.FnExactCodePut': WHATEVER THE INPUT: true; the input reads as it did. -/
def fnExactCodePutSpec : ChangeSpec := { name := "fnExactCodePut", fn := fun _ => fun
  | [d1, d2] => { results := [.lit (.bool true)], args := [d1, d2] }
  | _ => none }
def fnExactCodePutRow : OpenClaim := { program := "ytpoilfbbabmpgaq", sum := "18c0c8854083670b6f640563a4e6f5bb398b3e9db2ef7e48060884f18726e3e7", func := "loop.example/intarsia/laws.FnExactCodePut", spec := "fnExactCodePut", apart := false }
def FnExactCodePutSaid : Prop := fnExactCodePutRow.holds Try.pinned (OpenSpec.ofChange fnExactCodePutSpec)

/-- ITS FALSE NEIGHBOUR: 'it returns false'. Refute it at one input. -/
def fnExactCodePutWrong : ChangeSpec := { name := "fnExactCodePut", fn := fun _ => fun
  | [d1, d2] => { results := [.lit (.bool false)], args := [d1, d2] }
  | _ => none }
def FnExactCodePutWrongFalsely : Prop := fnExactCodePutRow.holds Try.pinned (OpenSpec.ofChange fnExactCodePutWrong)

/-- 'laws.FnExactCodeGet': WHATEVER THE INPUT: true; the input reads as it did. -/
def fnExactCodeGetSpec : ChangeSpec := { name := "fnExactCodeGet", fn := fun _ => fun
  | [d1, d2, d3] => { results := [.lit (.bool true)], args := [d1, d2, d3] }
  | _ => none }
def fnExactCodeGetRow : OpenClaim := { program := "ytpoilfbbabmpgaq", sum := "18c0c8854083670b6f640563a4e6f5bb398b3e9db2ef7e48060884f18726e3e7", func := "loop.example/intarsia/laws.FnExactCodeGet", spec := "fnExactCodeGet", unfollowed := true, recurses := true, apart := false }
def FnExactCodeGetSaid : Prop := fnExactCodeGetRow.holds Try.pinned (OpenSpec.ofChange fnExactCodeGetSpec)

/-- ITS FALSE NEIGHBOUR: 'it returns false'. Refute it at one input. -/
def fnExactCodeGetWrong : ChangeSpec := { name := "fnExactCodeGet", fn := fun _ => fun
  | [d1, d2, d3] => { results := [.lit (.bool false)], args := [d1, d2, d3] }
  | _ => none }
def FnExactCodeGetWrongFalsely : Prop := fnExactCodeGetRow.holds Try.pinned (OpenSpec.ofChange fnExactCodeGetWrong)

/-- 'laws.FnExactCodeCost': WHATEVER THE INPUT: true; the input reads as it did. -/
def fnExactCodeCostSpec : ChangeSpec := { name := "fnExactCodeCost", fn := fun _ => fun
  | [d1, d2] => { results := [.lit (.bool true)], args := [d1, d2] }
  | _ => none }
def fnExactCodeCostRow : OpenClaim := { program := "ytpoilfbbabmpgaq", sum := "18c0c8854083670b6f640563a4e6f5bb398b3e9db2ef7e48060884f18726e3e7", func := "loop.example/intarsia/laws.FnExactCodeCost", spec := "fnExactCodeCost", apart := false }
def FnExactCodeCostSaid : Prop := fnExactCodeCostRow.holds Try.pinned (OpenSpec.ofChange fnExactCodeCostSpec)

/-- ITS FALSE NEIGHBOUR: 'it returns false'. Refute it at one input. -/
def fnExactCodeCostWrong : ChangeSpec := { name := "fnExactCodeCost", fn := fun _ => fun
  | [d1, d2] => { results := [.lit (.bool false)], args := [d1, d2] }
  | _ => none }
def FnExactCodeCostWrongFalsely : Prop := fnExactCodeCostRow.holds Try.pinned (OpenSpec.ofChange fnExactCodeCostWrong)

/- THE SECOND FORM. 'bulk': how many values and letters a reading holds, each counted each time it is reached (what is shared counts as often as it is met; a slice's spare places count too). A statement '..UptoSaid' is the law's where the arguments, and the package variables that the reading takes, are together of bulk at most 1048576: NARROWER than '..Said'. Prove '..Said' where nothing that the law and all that it calls make is longer than what came in: it says more and counts as full. Else prove '..UptoSaid'. A law counts once. -/
mutual
def uptoBulk {H : Type} : DataW H → Nat
  | .lit (.string bytes) => bytes.length + 1
  | .lit _ => 1
  | .nil => 1
  | .ptr d => uptoBulk d + 1
  | .slice elems spare => uptoBulkAll elems + uptoBulkAll spare + 1
  | .agg parts => uptoBulkAll parts + 1
  | .iface _ d => uptoBulk d + 1
  | .map entries => uptoBulkEntries entries + 1
  | .held _ => 1
def uptoBulkAll {H : Type} : List (DataW H) → Nat
  | [] => 0
  | d :: r => uptoBulk d + uptoBulkAll r
def uptoBulkEntries {H : Type} : List (Lit × DataW H) → Nat
  | [] => 0
  | x :: r => uptoBulkEntry x + uptoBulkEntries r
def uptoBulkEntry {H : Type} : Lit × DataW H → Nat
  | (.string bytes, d) => bytes.length + uptoBulk d + 1
  | (_, d) => uptoBulk d + 1
 end
def uptoSmall : (H : Type) → List (DataW H) → Bool := fun _ ds => decide (uptoBulkAll ds ≤ 1048576)
def OpenSpec.upto (s : _root_.Go.ChangeSpec) : _root_.Go.OpenSpec := { _root_.Go.OpenSpec.ofChange s with cond := some uptoSmall }

/-- 'laws.FnExactCodeFull', WHERE WHAT IT READS IS OF BULK AT MOST 1048576: true; the input reads as it did. -/
def fnExactCodeFullUptoRow : OpenClaim := { program := "ytpoilfbbabmpgaq", sum := "18c0c8854083670b6f640563a4e6f5bb398b3e9db2ef7e48060884f18726e3e7", func := "loop.example/intarsia/laws.FnExactCodeFull", spec := "fnExactCodeFull", apart := false, narrowed := true }
def FnExactCodeFullUptoSaid : Prop := fnExactCodeFullUptoRow.holds Try.pinned (OpenSpec.upto fnExactCodeFullSpec)

/-- 'laws.FnExactCodeMake', WHERE WHAT IT READS IS OF BULK AT MOST 1048576: true; the input reads as it did. -/
def fnExactCodeMakeUptoRow : OpenClaim := { program := "ytpoilfbbabmpgaq", sum := "18c0c8854083670b6f640563a4e6f5bb398b3e9db2ef7e48060884f18726e3e7", func := "loop.example/intarsia/laws.FnExactCodeMake", spec := "fnExactCodeMake", apart := false, narrowed := true }
def FnExactCodeMakeUptoSaid : Prop := fnExactCodeMakeUptoRow.holds Try.pinned (OpenSpec.upto fnExactCodeMakeSpec)

/-- 'laws.FnExactCodeFit', WHERE WHAT IT READS IS OF BULK AT MOST 1048576: true; the input reads as it did. -/
def fnExactCodeFitUptoRow : OpenClaim := { program := "ytpoilfbbabmpgaq", sum := "18c0c8854083670b6f640563a4e6f5bb398b3e9db2ef7e48060884f18726e3e7", func := "loop.example/intarsia/laws.FnExactCodeFit", spec := "fnExactCodeFit", unfollowed := true, recurses := true, apart := false, narrowed := true }
def FnExactCodeFitUptoSaid : Prop := fnExactCodeFitUptoRow.holds Try.pinned (OpenSpec.upto fnExactCodeFitSpec)

/-- 'laws.FnExactCodePut', WHERE WHAT IT READS IS OF BULK AT MOST 1048576: true; the input reads as it did. -/
def fnExactCodePutUptoRow : OpenClaim := { program := "ytpoilfbbabmpgaq", sum := "18c0c8854083670b6f640563a4e6f5bb398b3e9db2ef7e48060884f18726e3e7", func := "loop.example/intarsia/laws.FnExactCodePut", spec := "fnExactCodePut", apart := false, narrowed := true }
def FnExactCodePutUptoSaid : Prop := fnExactCodePutUptoRow.holds Try.pinned (OpenSpec.upto fnExactCodePutSpec)

/-- 'laws.FnExactCodeGet', WHERE WHAT IT READS IS OF BULK AT MOST 1048576: true; the input reads as it did. -/
def fnExactCodeGetUptoRow : OpenClaim := { program := "ytpoilfbbabmpgaq", sum := "18c0c8854083670b6f640563a4e6f5bb398b3e9db2ef7e48060884f18726e3e7", func := "loop.example/intarsia/laws.FnExactCodeGet", spec := "fnExactCodeGet", unfollowed := true, recurses := true, apart := false, narrowed := true }
def FnExactCodeGetUptoSaid : Prop := fnExactCodeGetUptoRow.holds Try.pinned (OpenSpec.upto fnExactCodeGetSpec)

/-- 'laws.FnExactCodeCost', WHERE WHAT IT READS IS OF BULK AT MOST 1048576: true; the input reads as it did. -/
def fnExactCodeCostUptoRow : OpenClaim := { program := "ytpoilfbbabmpgaq", sum := "18c0c8854083670b6f640563a4e6f5bb398b3e9db2ef7e48060884f18726e3e7", func := "loop.example/intarsia/laws.FnExactCodeCost", spec := "fnExactCodeCost", apart := false, narrowed := true }
def FnExactCodeCostUptoSaid : Prop := fnExactCodeCostUptoRow.holds Try.pinned (OpenSpec.upto fnExactCodeCostSpec)

end Rows
end Go.Proofs.Ytpoilfbbabmpgaq
