/-
  No cell of these rows narrows 'for every input' (looked for: loops, veiled, ifaces, maps, wideKeys, modest, calm, conditions, laid).
  DERIVED. THE GIVEN ROWS OF THIS SEAT. 3 by the template 'for every input the law returns true; each argument reads behind the call as it read before'; 0 by the template 'total and deterministic' (their statements: YtoocijfkckjbfaoTotals.lean).
  GIVEN WITH THE SEED: the statements are not yours to turn. If you find one false, say at which input.
  Laid BY PROGRAM, IN A SANDBOX (cutbox-rows.mjs): the forced cells as the released guide's own fill.sh prints them over the translation 7095152cd9009aec… (all of the seat's roots in one cut). By AI agents, Wed Nov 11 2026. No macro, syntax, notation, axiom, sorry.
-/
import Derived.Test.YtoocijfkckjbfaoChecked
import GoSem.Claim
import GoSem.ClaimJoined
import GoSem.ClaimMapViews
import Derived.JoinedTies
import Derived.KernelRfl
namespace Go.Proofs.Ytoocijfkckjbfao
/- THE CELL 'sum', in the pinned program and in every row, IS THE sha256 OF THE DUMP (.gsa) THAT YtoocijfkckjbfaoProg.lean LOADS. Nothing in Lean hashes anything: it is a label: what it is worth is what the hold of that sum in a sandbox is worth. -/
noncomputable def Try.pinned : Pinned := { name := "ytoocijfkckjbfao", sum := "7095152cd9009aec2ceee78fc21df658509276ca41aad33af12fbc793100c0ec", checked := Try.checked }
namespace Rows
def none {H : Type} : Left H := { results := [], args := [] }

/-- 'laws.FnExactBitsPut': WHATEVER THE INPUT: true; the input reads as it did. -/
def fnExactBitsPutSpec : ChangeSpec := { name := "fnExactBitsPut", fn := fun _ => fun
  | [d1, d2] => { results := [.lit (.bool true)], args := [d1, d2] }
  | _ => none }
def fnExactBitsPutRow : OpenClaim := { program := "ytoocijfkckjbfao", sum := "7095152cd9009aec2ceee78fc21df658509276ca41aad33af12fbc793100c0ec", func := "loop.example/intarsia/laws.FnExactBitsPut", spec := "fnExactBitsPut", unfollowed := true, recurses := true, apart := false }
def FnExactBitsPutSaid : Prop := fnExactBitsPutRow.holds Try.pinned (OpenSpec.ofChange fnExactBitsPutSpec)

/-- ITS FALSE NEIGHBOUR: 'it returns false'. Refute it at one input. -/
def fnExactBitsPutWrong : ChangeSpec := { name := "fnExactBitsPut", fn := fun _ => fun
  | [d1, d2] => { results := [.lit (.bool false)], args := [d1, d2] }
  | _ => none }
def FnExactBitsPutWrongFalsely : Prop := fnExactBitsPutRow.holds Try.pinned (OpenSpec.ofChange fnExactBitsPutWrong)

/-- 'laws.FnExactBitsGet': WHATEVER THE INPUT: true; the input reads as it did. -/
def fnExactBitsGetSpec : ChangeSpec := { name := "fnExactBitsGet", fn := fun _ => fun
  | [d1, d2, d3, d4] => { results := [.lit (.bool true)], args := [d1, d2, d3, d4] }
  | _ => none }
def fnExactBitsGetRow : OpenClaim := { program := "ytoocijfkckjbfao", sum := "7095152cd9009aec2ceee78fc21df658509276ca41aad33af12fbc793100c0ec", func := "loop.example/intarsia/laws.FnExactBitsGet", spec := "fnExactBitsGet", unfollowed := true, recurses := true, apart := false }
def FnExactBitsGetSaid : Prop := fnExactBitsGetRow.holds Try.pinned (OpenSpec.ofChange fnExactBitsGetSpec)

/-- ITS FALSE NEIGHBOUR: 'it returns false'. Refute it at one input. -/
def fnExactBitsGetWrong : ChangeSpec := { name := "fnExactBitsGet", fn := fun _ => fun
  | [d1, d2, d3, d4] => { results := [.lit (.bool false)], args := [d1, d2, d3, d4] }
  | _ => none }
def FnExactBitsGetWrongFalsely : Prop := fnExactBitsGetRow.holds Try.pinned (OpenSpec.ofChange fnExactBitsGetWrong)

/-- 'laws.FnExactNumPut': WHATEVER THE INPUT: true; the input reads as it did. -/
def fnExactNumPutSpec : ChangeSpec := { name := "fnExactNumPut", fn := fun _ => fun
  | [d1, d2, d3] => { results := [.lit (.bool true)], args := [d1, d2, d3] }
  | _ => none }
def fnExactNumPutRow : OpenClaim := { program := "ytoocijfkckjbfao", sum := "7095152cd9009aec2ceee78fc21df658509276ca41aad33af12fbc793100c0ec", func := "loop.example/intarsia/laws.FnExactNumPut", spec := "fnExactNumPut", unfollowed := true, recurses := true, apart := false }
def FnExactNumPutSaid : Prop := fnExactNumPutRow.holds Try.pinned (OpenSpec.ofChange fnExactNumPutSpec)

/-- ITS FALSE NEIGHBOUR: 'it returns false'. Refute it at one input. -/
def fnExactNumPutWrong : ChangeSpec := { name := "fnExactNumPut", fn := fun _ => fun
  | [d1, d2, d3] => { results := [.lit (.bool false)], args := [d1, d2, d3] }
  | _ => none }
def FnExactNumPutWrongFalsely : Prop := fnExactNumPutRow.holds Try.pinned (OpenSpec.ofChange fnExactNumPutWrong)

/- THE SECOND FORM. 'bulk': how many values and letters a reading holds, each counted each time it is reached (what is shared counts as often as it is met; a slice's spare places count too). A statement '..UptoSaid' is the law's where the arguments, and the package variables that the reading takes, are together of bulk at most 1048576: NARROWER than '..Said'. Prove '..Said' where nothing that the law and all that it calls make is longer than what came in: it says more and counts as full. Else prove '..UptoSaid'. A law counts once. -/
mutual
def uptoBulk {H : Type} : DataW H → Nat
  | .lit (.string bytes) => bytes.length + 1
  | .lit _ => 1
  | .nil => 1
  | .ptr d => uptoBulk d + 1
  | .slice elems spare => uptoBulkAll elems + uptoBulkAll spare + 1
  | .agg parts => uptoBulkAll parts + 1
  | .iface _ d => uptoBulk d + 1
  | .map entries => uptoBulkEntries entries + 1
  | .held _ => 1
def uptoBulkAll {H : Type} : List (DataW H) → Nat
  | [] => 0
  | d :: r => uptoBulk d + uptoBulkAll r
def uptoBulkEntries {H : Type} : List (Lit × DataW H) → Nat
  | [] => 0
  | x :: r => uptoBulkEntry x + uptoBulkEntries r
def uptoBulkEntry {H : Type} : Lit × DataW H → Nat
  | (.string bytes, d) => bytes.length + uptoBulk d + 1
  | (_, d) => uptoBulk d + 1
 end
def uptoSmall : (H : Type) → List (DataW H) → Bool := fun _ ds => decide (uptoBulkAll ds ≤ 1048576)
def OpenSpec.upto (s : _root_.Go.ChangeSpec) : _root_.Go.OpenSpec := { _root_.Go.OpenSpec.ofChange s with cond := some uptoSmall }

/-- 'laws.FnExactBitsPut', WHERE WHAT IT READS IS OF BULK AT MOST 1048576: true; the input reads as it did. -/
def fnExactBitsPutUptoRow : OpenClaim := { program := "ytoocijfkckjbfao", sum := "7095152cd9009aec2ceee78fc21df658509276ca41aad33af12fbc793100c0ec", func := "loop.example/intarsia/laws.FnExactBitsPut", spec := "fnExactBitsPut", unfollowed := true, recurses := true, apart := false, narrowed := true }
def FnExactBitsPutUptoSaid : Prop := fnExactBitsPutUptoRow.holds Try.pinned (OpenSpec.upto fnExactBitsPutSpec)

/-- 'laws.FnExactBitsGet', WHERE WHAT IT READS IS OF BULK AT MOST 1048576: true; the input reads as it did. -/
def fnExactBitsGetUptoRow : OpenClaim := { program := "ytoocijfkckjbfao", sum := "7095152cd9009aec2ceee78fc21df658509276ca41aad33af12fbc793100c0ec", func := "loop.example/intarsia/laws.FnExactBitsGet", spec := "fnExactBitsGet", unfollowed := true, recurses := true, apart := false, narrowed := true }
def FnExactBitsGetUptoSaid : Prop := fnExactBitsGetUptoRow.holds Try.pinned (OpenSpec.upto fnExactBitsGetSpec)

/-- 'laws.FnExactNumPut', WHERE WHAT IT READS IS OF BULK AT MOST 1048576: true; the input reads as it did. -/
def fnExactNumPutUptoRow : OpenClaim := { program := "ytoocijfkckjbfao", sum := "7095152cd9009aec2ceee78fc21df658509276ca41aad33af12fbc793100c0ec", func := "loop.example/intarsia/laws.FnExactNumPut", spec := "fnExactNumPut", unfollowed := true, recurses := true, apart := false, narrowed := true }
def FnExactNumPutUptoSaid : Prop := fnExactNumPutUptoRow.holds Try.pinned (OpenSpec.upto fnExactNumPutSpec)

end Rows
end Go.Proofs.Ytoocijfkckjbfao
