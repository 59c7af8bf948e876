/-
  No cell of these rows narrows 'for every input' (looked for: loops, veiled, ifaces, maps, wideKeys, modest, calm, conditions, laid).
  DERIVED. THE GIVEN ROWS OF THIS SEAT. 6 by the template 'for every input the law returns true; each argument reads behind the call as it read before'; 0 by the template 'total and deterministic' (their statements: YtpoilfbbabmpgapTotals.lean).
  GIVEN WITH THE SEED: the statements are not yours to turn. If you find one false, say at which input.
  Laid BY PROGRAM, IN A SANDBOX (cutbox-rows.mjs): the forced cells as the released guide's own fill.sh prints them over the translation 2697e72d7e7acdb8… (all of the seat's roots in one cut). By AI agents, Wed Nov 11 2026. No macro, syntax, notation, axiom, sorry.
-/
import Derived.Test.YtpoilfbbabmpgapChecked
import GoSem.Claim
import GoSem.ClaimJoined
import GoSem.ClaimMapViews
import Derived.JoinedTies
import Derived.KernelRfl
namespace Go.Proofs.Ytpoilfbbabmpgap
/- THE CELL 'sum', in the pinned program and in every row, IS THE sha256 OF THE DUMP (.gsa) THAT YtpoilfbbabmpgapProg.lean LOADS. Nothing in Lean hashes anything: it is a label: what it is worth is what the hold of that sum in a sandbox is worth. -/
noncomputable def Try.pinned : Pinned := { name := "ytpoilfbbabmpgap", sum := "2697e72d7e7acdb8f6f007bacdcba369630fecda86b0303902b3107e9448a424", checked := Try.checked }
namespace Rows
def none {H : Type} : Left H := { results := [], args := [] }

/-- 'laws.FnExactNumGet': WHATEVER THE INPUT: true; the input reads as it did. -/
def fnExactNumGetSpec : ChangeSpec := { name := "fnExactNumGet", fn := fun _ => fun
  | [d1, d2, d3, d4] => { results := [.lit (.bool true)], args := [d1, d2, d3, d4] }
  | _ => none }
def fnExactNumGetRow : OpenClaim := { program := "ytpoilfbbabmpgap", sum := "2697e72d7e7acdb8f6f007bacdcba369630fecda86b0303902b3107e9448a424", func := "loop.example/intarsia/laws.FnExactNumGet", spec := "fnExactNumGet", unfollowed := true, recurses := true, apart := false }
def FnExactNumGetSaid : Prop := fnExactNumGetRow.holds Try.pinned (OpenSpec.ofChange fnExactNumGetSpec)

/-- ITS FALSE NEIGHBOUR: 'it returns false'. Refute it at one input. -/
def fnExactNumGetWrong : ChangeSpec := { name := "fnExactNumGet", fn := fun _ => fun
  | [d1, d2, d3, d4] => { results := [.lit (.bool false)], args := [d1, d2, d3, d4] }
  | _ => none }
def FnExactNumGetWrongFalsely : Prop := fnExactNumGetRow.holds Try.pinned (OpenSpec.ofChange fnExactNumGetWrong)

/-- 'laws.FnExactCrc32': WHATEVER THE INPUT: true; the input reads as it did. -/
def fnExactCrc32Spec : ChangeSpec := { name := "fnExactCrc32", fn := fun _ => fun
  | [d] => { results := [.lit (.bool true)], args := [d] }
  | _ => none }
def fnExactCrc32Row : OpenClaim := { program := "ytpoilfbbabmpgap", sum := "2697e72d7e7acdb8f6f007bacdcba369630fecda86b0303902b3107e9448a424", func := "loop.example/intarsia/laws.FnExactCrc32", spec := "fnExactCrc32", apart := false }
def FnExactCrc32Said : Prop := fnExactCrc32Row.holds Try.pinned (OpenSpec.ofChange fnExactCrc32Spec)

/-- ITS FALSE NEIGHBOUR: 'it returns false'. Refute it at one input. -/
def fnExactCrc32Wrong : ChangeSpec := { name := "fnExactCrc32", fn := fun _ => fun
  | [d] => { results := [.lit (.bool false)], args := [d] }
  | _ => none }
def FnExactCrc32WrongFalsely : Prop := fnExactCrc32Row.holds Try.pinned (OpenSpec.ofChange fnExactCrc32Wrong)

/-- 'laws.FnExactCrcMore': WHATEVER THE INPUT: true; the input reads as it did. -/
def fnExactCrcMoreSpec : ChangeSpec := { name := "fnExactCrcMore", fn := fun _ => fun
  | [d1, d2] => { results := [.lit (.bool true)], args := [d1, d2] }
  | _ => none }
def fnExactCrcMoreRow : OpenClaim := { program := "ytpoilfbbabmpgap", sum := "2697e72d7e7acdb8f6f007bacdcba369630fecda86b0303902b3107e9448a424", func := "loop.example/intarsia/laws.FnExactCrcMore", spec := "fnExactCrcMore", apart := false }
def FnExactCrcMoreSaid : Prop := fnExactCrcMoreRow.holds Try.pinned (OpenSpec.ofChange fnExactCrcMoreSpec)

/-- ITS FALSE NEIGHBOUR: 'it returns false'. Refute it at one input. -/
def fnExactCrcMoreWrong : ChangeSpec := { name := "fnExactCrcMore", fn := fun _ => fun
  | [d1, d2] => { results := [.lit (.bool false)], args := [d1, d2] }
  | _ => none }
def FnExactCrcMoreWrongFalsely : Prop := fnExactCrcMoreRow.holds Try.pinned (OpenSpec.ofChange fnExactCrcMoreWrong)

/-- 'laws.FnExactAdler32': WHATEVER THE INPUT: true; the input reads as it did. -/
def fnExactAdler32Spec : ChangeSpec := { name := "fnExactAdler32", fn := fun _ => fun
  | [d] => { results := [.lit (.bool true)], args := [d] }
  | _ => none }
def fnExactAdler32Row : OpenClaim := { program := "ytpoilfbbabmpgap", sum := "2697e72d7e7acdb8f6f007bacdcba369630fecda86b0303902b3107e9448a424", func := "loop.example/intarsia/laws.FnExactAdler32", spec := "fnExactAdler32", apart := false }
def FnExactAdler32Said : Prop := fnExactAdler32Row.holds Try.pinned (OpenSpec.ofChange fnExactAdler32Spec)

/-- ITS FALSE NEIGHBOUR: 'it returns false'. Refute it at one input. -/
def fnExactAdler32Wrong : ChangeSpec := { name := "fnExactAdler32", fn := fun _ => fun
  | [d] => { results := [.lit (.bool false)], args := [d] }
  | _ => none }
def FnExactAdler32WrongFalsely : Prop := fnExactAdler32Row.holds Try.pinned (OpenSpec.ofChange fnExactAdler32Wrong)

/-- 'laws.FnExactAdlerMore': WHATEVER THE INPUT: true; the input reads as it did. -/
def fnExactAdlerMoreSpec : ChangeSpec := { name := "fnExactAdlerMore", fn := fun _ => fun
  | [d1, d2] => { results := [.lit (.bool true)], args := [d1, d2] }
  | _ => none }
def fnExactAdlerMoreRow : OpenClaim := { program := "ytpoilfbbabmpgap", sum := "2697e72d7e7acdb8f6f007bacdcba369630fecda86b0303902b3107e9448a424", func := "loop.example/intarsia/laws.FnExactAdlerMore", spec := "fnExactAdlerMore", apart := false }
def FnExactAdlerMoreSaid : Prop := fnExactAdlerMoreRow.holds Try.pinned (OpenSpec.ofChange fnExactAdlerMoreSpec)

/-- ITS FALSE NEIGHBOUR: 'it returns false'. Refute it at one input. -/
def fnExactAdlerMoreWrong : ChangeSpec := { name := "fnExactAdlerMore", fn := fun _ => fun
  | [d1, d2] => { results := [.lit (.bool false)], args := [d1, d2] }
  | _ => none }
def FnExactAdlerMoreWrongFalsely : Prop := fnExactAdlerMoreRow.holds Try.pinned (OpenSpec.ofChange fnExactAdlerMoreWrong)

/-- 'laws.FnExactCodeOk': WHATEVER THE INPUT: true; the input reads as it did. -/
def fnExactCodeOkSpec : ChangeSpec := { name := "fnExactCodeOk", fn := fun _ => fun
  | [d] => { results := [.lit (.bool true)], args := [d] }
  | _ => none }
def fnExactCodeOkRow : OpenClaim := { program := "ytpoilfbbabmpgap", sum := "2697e72d7e7acdb8f6f007bacdcba369630fecda86b0303902b3107e9448a424", func := "loop.example/intarsia/laws.FnExactCodeOk", spec := "fnExactCodeOk", apart := false }
def FnExactCodeOkSaid : Prop := fnExactCodeOkRow.holds Try.pinned (OpenSpec.ofChange fnExactCodeOkSpec)

/-- ITS FALSE NEIGHBOUR: 'it returns false'. Refute it at one input. -/
def fnExactCodeOkWrong : ChangeSpec := { name := "fnExactCodeOk", fn := fun _ => fun
  | [d] => { results := [.lit (.bool false)], args := [d] }
  | _ => none }
def FnExactCodeOkWrongFalsely : Prop := fnExactCodeOkRow.holds Try.pinned (OpenSpec.ofChange fnExactCodeOkWrong)

/- THE SECOND FORM. 'bulk': how many values and letters a reading holds, each counted each time it is reached (what is shared counts as often as it is met; a slice's spare places count too). A statement '..UptoSaid' is the law's where the arguments, and the package variables that the reading takes, are together of bulk at most 1048576: NARROWER than '..Said'. Prove '..Said' where nothing that the law and all that it calls make is longer than what came in: it says more and counts as full. Else prove '..UptoSaid'. A law counts once. -/
mutual
def uptoBulk {H : Type} : DataW H → Nat
  | .lit (.string bytes) => bytes.length + 1
  | .lit _ => 1
  | .nil => 1
  | .ptr d => uptoBulk d + 1
  | .slice elems spare => uptoBulkAll elems + uptoBulkAll spare + 1
  | .agg parts => uptoBulkAll parts + 1
  | .iface _ d => uptoBulk d + 1
  | .map entries => uptoBulkEntries entries + 1
  | .held _ => 1
def uptoBulkAll {H : Type} : List (DataW H) → Nat
  | [] => 0
  | d :: r => uptoBulk d + uptoBulkAll r
def uptoBulkEntries {H : Type} : List (Lit × DataW H) → Nat
  | [] => 0
  | x :: r => uptoBulkEntry x + uptoBulkEntries r
def uptoBulkEntry {H : Type} : Lit × DataW H → Nat
  | (.string bytes, d) => bytes.length + uptoBulk d + 1
  | (_, d) => uptoBulk d + 1
 end
def uptoSmall : (H : Type) → List (DataW H) → Bool := fun _ ds => decide (uptoBulkAll ds ≤ 1048576)
def OpenSpec.upto (s : _root_.Go.ChangeSpec) : _root_.Go.OpenSpec := { _root_.Go.OpenSpec.ofChange s with cond := some uptoSmall }

/-- 'laws.FnExactNumGet', WHERE WHAT IT READS IS OF BULK AT MOST 1048576: true; the input reads as it did. -/
def fnExactNumGetUptoRow : OpenClaim := { program := "ytpoilfbbabmpgap", sum := "2697e72d7e7acdb8f6f007bacdcba369630fecda86b0303902b3107e9448a424", func := "loop.example/intarsia/laws.FnExactNumGet", spec := "fnExactNumGet", unfollowed := true, recurses := true, apart := false, narrowed := true }
def FnExactNumGetUptoSaid : Prop := fnExactNumGetUptoRow.holds Try.pinned (OpenSpec.upto fnExactNumGetSpec)

/-- 'laws.FnExactCrc32', WHERE WHAT IT READS IS OF BULK AT MOST 1048576: true; the input reads as it did. -/
def fnExactCrc32UptoRow : OpenClaim := { program := "ytpoilfbbabmpgap", sum := "2697e72d7e7acdb8f6f007bacdcba369630fecda86b0303902b3107e9448a424", func := "loop.example/intarsia/laws.FnExactCrc32", spec := "fnExactCrc32", apart := false, narrowed := true }
def FnExactCrc32UptoSaid : Prop := fnExactCrc32UptoRow.holds Try.pinned (OpenSpec.upto fnExactCrc32Spec)

/-- 'laws.FnExactCrcMore', WHERE WHAT IT READS IS OF BULK AT MOST 1048576: true; the input reads as it did. -/
def fnExactCrcMoreUptoRow : OpenClaim := { program := "ytpoilfbbabmpgap", sum := "2697e72d7e7acdb8f6f007bacdcba369630fecda86b0303902b3107e9448a424", func := "loop.example/intarsia/laws.FnExactCrcMore", spec := "fnExactCrcMore", apart := false, narrowed := true }
def FnExactCrcMoreUptoSaid : Prop := fnExactCrcMoreUptoRow.holds Try.pinned (OpenSpec.upto fnExactCrcMoreSpec)

/-- 'laws.FnExactAdler32', WHERE WHAT IT READS IS OF BULK AT MOST 1048576: true; the input reads as it did. -/
def fnExactAdler32UptoRow : OpenClaim := { program := "ytpoilfbbabmpgap", sum := "2697e72d7e7acdb8f6f007bacdcba369630fecda86b0303902b3107e9448a424", func := "loop.example/intarsia/laws.FnExactAdler32", spec := "fnExactAdler32", apart := false, narrowed := true }
def FnExactAdler32UptoSaid : Prop := fnExactAdler32UptoRow.holds Try.pinned (OpenSpec.upto fnExactAdler32Spec)

/-- 'laws.FnExactAdlerMore', WHERE WHAT IT READS IS OF BULK AT MOST 1048576: true; the input reads as it did. -/
def fnExactAdlerMoreUptoRow : OpenClaim := { program := "ytpoilfbbabmpgap", sum := "2697e72d7e7acdb8f6f007bacdcba369630fecda86b0303902b3107e9448a424", func := "loop.example/intarsia/laws.FnExactAdlerMore", spec := "fnExactAdlerMore", apart := false, narrowed := true }
def FnExactAdlerMoreUptoSaid : Prop := fnExactAdlerMoreUptoRow.holds Try.pinned (OpenSpec.upto fnExactAdlerMoreSpec)

/-- 'laws.FnExactCodeOk', WHERE WHAT IT READS IS OF BULK AT MOST 1048576: true; the input reads as it did. -/
def fnExactCodeOkUptoRow : OpenClaim := { program := "ytpoilfbbabmpgap", sum := "2697e72d7e7acdb8f6f007bacdcba369630fecda86b0303902b3107e9448a424", func := "loop.example/intarsia/laws.FnExactCodeOk", spec := "fnExactCodeOk", apart := false, narrowed := true }
def FnExactCodeOkUptoSaid : Prop := fnExactCodeOkUptoRow.holds Try.pinned (OpenSpec.upto fnExactCodeOkSpec)

end Rows
end Go.Proofs.Ytpoilfbbabmpgap
