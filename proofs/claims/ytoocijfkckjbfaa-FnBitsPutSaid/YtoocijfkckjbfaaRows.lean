/-
  No cell of these rows narrows 'for every input' (looked for: loops, veiled, ifaces, maps, wideKeys, modest, calm, conditions, laid).
  DERIVED. THE GIVEN ROWS OF THIS SEAT. 6 by the template 'for every input the law returns true; each argument reads behind the call as it read before'; 0 by the template 'total and deterministic' (their statements: YtoocijfkckjbfaaTotals.lean).
  GIVEN WITH THE SEED: the statements are not yours to turn. If you find one false, say at which input.
  Laid BY PROGRAM, IN A SANDBOX (cutbox-rows.mjs): the forced cells as the released guide's own fill.sh prints them over the translation d6077dd8cf34b81b… (all of the seat's roots in one cut). By AI agents, Wed Nov 11 2026. No macro, syntax, notation, axiom, sorry.
-/
import Derived.Test.YtoocijfkckjbfaaChecked
import GoSem.Claim
import GoSem.ClaimJoined
import GoSem.ClaimMapViews
import Derived.JoinedTies
import Derived.KernelRfl
namespace Go.Proofs.Ytoocijfkckjbfaa
/- THE CELL 'sum', in the pinned program and in every row, IS THE sha256 OF THE DUMP (.gsa) THAT YtoocijfkckjbfaaProg.lean LOADS. Nothing in Lean hashes anything: it is a label: what it is worth is what the hold of that sum in a sandbox is worth. -/
noncomputable def Try.pinned : Pinned := { name := "ytoocijfkckjbfaa", sum := "d6077dd8cf34b81b60dd334b65e3df5ae6ee7f01d32b44d95e6da8a1a8ebc1d9", checked := Try.checked }
namespace Rows
def none {H : Type} : Left H := { results := [], args := [] }

/-- 'laws.FnBitsPut': WHATEVER THE INPUT: true; the input reads as it did. -/
def fnBitsPutSpec : ChangeSpec := { name := "fnBitsPut", fn := fun _ => fun
  | [d] => { results := [.lit (.bool true)], args := [d] }
  | _ => none }
def fnBitsPutRow : OpenClaim := { program := "ytoocijfkckjbfaa", sum := "d6077dd8cf34b81b60dd334b65e3df5ae6ee7f01d32b44d95e6da8a1a8ebc1d9", func := "loop.example/intarsia/laws.FnBitsPut", spec := "fnBitsPut", unfollowed := true, recurses := true, apart := false }
def FnBitsPutSaid : Prop := fnBitsPutRow.holds Try.pinned (OpenSpec.ofChange fnBitsPutSpec)

/-- ITS FALSE NEIGHBOUR: 'it returns false'. Refute it at one input. -/
def fnBitsPutWrong : ChangeSpec := { name := "fnBitsPut", fn := fun _ => fun
  | [d] => { results := [.lit (.bool false)], args := [d] }
  | _ => none }
def FnBitsPutWrongFalsely : Prop := fnBitsPutRow.holds Try.pinned (OpenSpec.ofChange fnBitsPutWrong)

/-- 'laws.FnBitsGet': WHATEVER THE INPUT: true; the input reads as it did. -/
def fnBitsGetSpec : ChangeSpec := { name := "fnBitsGet", fn := fun _ => fun
  | [d] => { results := [.lit (.bool true)], args := [d] }
  | _ => none }
def fnBitsGetRow : OpenClaim := { program := "ytoocijfkckjbfaa", sum := "d6077dd8cf34b81b60dd334b65e3df5ae6ee7f01d32b44d95e6da8a1a8ebc1d9", func := "loop.example/intarsia/laws.FnBitsGet", spec := "fnBitsGet", unfollowed := true, recurses := true, apart := false }
def FnBitsGetSaid : Prop := fnBitsGetRow.holds Try.pinned (OpenSpec.ofChange fnBitsGetSpec)

/-- ITS FALSE NEIGHBOUR: 'it returns false'. Refute it at one input. -/
def fnBitsGetWrong : ChangeSpec := { name := "fnBitsGet", fn := fun _ => fun
  | [d] => { results := [.lit (.bool false)], args := [d] }
  | _ => none }
def FnBitsGetWrongFalsely : Prop := fnBitsGetRow.holds Try.pinned (OpenSpec.ofChange fnBitsGetWrong)

/-- 'laws.FnNumPut': WHATEVER THE INPUT: true; the input reads as it did. -/
def fnNumPutSpec : ChangeSpec := { name := "fnNumPut", fn := fun _ => fun
  | [d1, d2] => { results := [.lit (.bool true)], args := [d1, d2] }
  | _ => none }
def fnNumPutRow : OpenClaim := { program := "ytoocijfkckjbfaa", sum := "d6077dd8cf34b81b60dd334b65e3df5ae6ee7f01d32b44d95e6da8a1a8ebc1d9", func := "loop.example/intarsia/laws.FnNumPut", spec := "fnNumPut", unfollowed := true, recurses := true, apart := false }
def FnNumPutSaid : Prop := fnNumPutRow.holds Try.pinned (OpenSpec.ofChange fnNumPutSpec)

/-- ITS FALSE NEIGHBOUR: 'it returns false'. Refute it at one input. -/
def fnNumPutWrong : ChangeSpec := { name := "fnNumPut", fn := fun _ => fun
  | [d1, d2] => { results := [.lit (.bool false)], args := [d1, d2] }
  | _ => none }
def FnNumPutWrongFalsely : Prop := fnNumPutRow.holds Try.pinned (OpenSpec.ofChange fnNumPutWrong)

/-- 'laws.FnCrcMore': WHATEVER THE INPUT: true; the input reads as it did. -/
def fnCrcMoreSpec : ChangeSpec := { name := "fnCrcMore", fn := fun _ => fun
  | [d1, d2] => { results := [.lit (.bool true)], args := [d1, d2] }
  | _ => none }
def fnCrcMoreRow : OpenClaim := { program := "ytoocijfkckjbfaa", sum := "d6077dd8cf34b81b60dd334b65e3df5ae6ee7f01d32b44d95e6da8a1a8ebc1d9", func := "loop.example/intarsia/laws.FnCrcMore", spec := "fnCrcMore", apart := false }
def FnCrcMoreSaid : Prop := fnCrcMoreRow.holds Try.pinned (OpenSpec.ofChange fnCrcMoreSpec)

/-- ITS FALSE NEIGHBOUR: 'it returns false'. Refute it at one input. -/
def fnCrcMoreWrong : ChangeSpec := { name := "fnCrcMore", fn := fun _ => fun
  | [d1, d2] => { results := [.lit (.bool false)], args := [d1, d2] }
  | _ => none }
def FnCrcMoreWrongFalsely : Prop := fnCrcMoreRow.holds Try.pinned (OpenSpec.ofChange fnCrcMoreWrong)

/-- 'laws.FnAdlerMore': WHATEVER THE INPUT: true; the input reads as it did. -/
def fnAdlerMoreSpec : ChangeSpec := { name := "fnAdlerMore", fn := fun _ => fun
  | [d1, d2] => { results := [.lit (.bool true)], args := [d1, d2] }
  | _ => none }
def fnAdlerMoreRow : OpenClaim := { program := "ytoocijfkckjbfaa", sum := "d6077dd8cf34b81b60dd334b65e3df5ae6ee7f01d32b44d95e6da8a1a8ebc1d9", func := "loop.example/intarsia/laws.FnAdlerMore", spec := "fnAdlerMore", apart := false }
def FnAdlerMoreSaid : Prop := fnAdlerMoreRow.holds Try.pinned (OpenSpec.ofChange fnAdlerMoreSpec)

/-- ITS FALSE NEIGHBOUR: 'it returns false'. Refute it at one input. -/
def fnAdlerMoreWrong : ChangeSpec := { name := "fnAdlerMore", fn := fun _ => fun
  | [d1, d2] => { results := [.lit (.bool false)], args := [d1, d2] }
  | _ => none }
def FnAdlerMoreWrongFalsely : Prop := fnAdlerMoreRow.holds Try.pinned (OpenSpec.ofChange fnAdlerMoreWrong)

/-- 'laws.FnCrcBit': WHATEVER THE INPUT: true; the input reads as it did. -/
def fnCrcBitSpec : ChangeSpec := { name := "fnCrcBit", fn := fun _ => fun
  | [d1, d2] => { results := [.lit (.bool true)], args := [d1, d2] }
  | _ => none }
def fnCrcBitRow : OpenClaim := { program := "ytoocijfkckjbfaa", sum := "d6077dd8cf34b81b60dd334b65e3df5ae6ee7f01d32b44d95e6da8a1a8ebc1d9", func := "loop.example/intarsia/laws.FnCrcBit", spec := "fnCrcBit", apart := false }
def FnCrcBitSaid : Prop := fnCrcBitRow.holds Try.pinned (OpenSpec.ofChange fnCrcBitSpec)

/-- ITS FALSE NEIGHBOUR: 'it returns false'. Refute it at one input. -/
def fnCrcBitWrong : ChangeSpec := { name := "fnCrcBit", fn := fun _ => fun
  | [d1, d2] => { results := [.lit (.bool false)], args := [d1, d2] }
  | _ => none }
def FnCrcBitWrongFalsely : Prop := fnCrcBitRow.holds Try.pinned (OpenSpec.ofChange fnCrcBitWrong)

/- THE SECOND FORM. 'bulk': how many values and letters a reading holds, each counted each time it is reached (what is shared counts as often as it is met; a slice's spare places count too). A statement '..UptoSaid' is the law's where the arguments, and the package variables that the reading takes, are together of bulk at most 1048576: NARROWER than '..Said'. Prove '..Said' where nothing that the law and all that it calls make is longer than what came in: it says more and counts as full. Else prove '..UptoSaid'. A law counts once. -/
mutual
def uptoBulk {H : Type} : DataW H → Nat
  | .lit (.string bytes) => bytes.length + 1
  | .lit _ => 1
  | .nil => 1
  | .ptr d => uptoBulk d + 1
  | .slice elems spare => uptoBulkAll elems + uptoBulkAll spare + 1
  | .agg parts => uptoBulkAll parts + 1
  | .iface _ d => uptoBulk d + 1
  | .map entries => uptoBulkEntries entries + 1
  | .held _ => 1
def uptoBulkAll {H : Type} : List (DataW H) → Nat
  | [] => 0
  | d :: r => uptoBulk d + uptoBulkAll r
def uptoBulkEntries {H : Type} : List (Lit × DataW H) → Nat
  | [] => 0
  | x :: r => uptoBulkEntry x + uptoBulkEntries r
def uptoBulkEntry {H : Type} : Lit × DataW H → Nat
  | (.string bytes, d) => bytes.length + uptoBulk d + 1
  | (_, d) => uptoBulk d + 1
 end
def uptoSmall : (H : Type) → List (DataW H) → Bool := fun _ ds => decide (uptoBulkAll ds ≤ 1048576)
def OpenSpec.upto (s : _root_.Go.ChangeSpec) : _root_.Go.OpenSpec := { _root_.Go.OpenSpec.ofChange s with cond := some uptoSmall }

/-- 'laws.FnBitsPut', WHERE WHAT IT READS IS OF BULK AT MOST 1048576: true; the input reads as it did. -/
def fnBitsPutUptoRow : OpenClaim := { program := "ytoocijfkckjbfaa", sum := "d6077dd8cf34b81b60dd334b65e3df5ae6ee7f01d32b44d95e6da8a1a8ebc1d9", func := "loop.example/intarsia/laws.FnBitsPut", spec := "fnBitsPut", unfollowed := true, recurses := true, apart := false, narrowed := true }
def FnBitsPutUptoSaid : Prop := fnBitsPutUptoRow.holds Try.pinned (OpenSpec.upto fnBitsPutSpec)

/-- 'laws.FnBitsGet', WHERE WHAT IT READS IS OF BULK AT MOST 1048576: true; the input reads as it did. -/
def fnBitsGetUptoRow : OpenClaim := { program := "ytoocijfkckjbfaa", sum := "d6077dd8cf34b81b60dd334b65e3df5ae6ee7f01d32b44d95e6da8a1a8ebc1d9", func := "loop.example/intarsia/laws.FnBitsGet", spec := "fnBitsGet", unfollowed := true, recurses := true, apart := false, narrowed := true }
def FnBitsGetUptoSaid : Prop := fnBitsGetUptoRow.holds Try.pinned (OpenSpec.upto fnBitsGetSpec)

/-- 'laws.FnNumPut', WHERE WHAT IT READS IS OF BULK AT MOST 1048576: true; the input reads as it did. -/
def fnNumPutUptoRow : OpenClaim := { program := "ytoocijfkckjbfaa", sum := "d6077dd8cf34b81b60dd334b65e3df5ae6ee7f01d32b44d95e6da8a1a8ebc1d9", func := "loop.example/intarsia/laws.FnNumPut", spec := "fnNumPut", unfollowed := true, recurses := true, apart := false, narrowed := true }
def FnNumPutUptoSaid : Prop := fnNumPutUptoRow.holds Try.pinned (OpenSpec.upto fnNumPutSpec)

/-- 'laws.FnCrcMore', WHERE WHAT IT READS IS OF BULK AT MOST 1048576: true; the input reads as it did. -/
def fnCrcMoreUptoRow : OpenClaim := { program := "ytoocijfkckjbfaa", sum := "d6077dd8cf34b81b60dd334b65e3df5ae6ee7f01d32b44d95e6da8a1a8ebc1d9", func := "loop.example/intarsia/laws.FnCrcMore", spec := "fnCrcMore", apart := false, narrowed := true }
def FnCrcMoreUptoSaid : Prop := fnCrcMoreUptoRow.holds Try.pinned (OpenSpec.upto fnCrcMoreSpec)

/-- 'laws.FnAdlerMore', WHERE WHAT IT READS IS OF BULK AT MOST 1048576: true; the input reads as it did. -/
def fnAdlerMoreUptoRow : OpenClaim := { program := "ytoocijfkckjbfaa", sum := "d6077dd8cf34b81b60dd334b65e3df5ae6ee7f01d32b44d95e6da8a1a8ebc1d9", func := "loop.example/intarsia/laws.FnAdlerMore", spec := "fnAdlerMore", apart := false, narrowed := true }
def FnAdlerMoreUptoSaid : Prop := fnAdlerMoreUptoRow.holds Try.pinned (OpenSpec.upto fnAdlerMoreSpec)

/-- 'laws.FnCrcBit', WHERE WHAT IT READS IS OF BULK AT MOST 1048576: true; the input reads as it did. -/
def fnCrcBitUptoRow : OpenClaim := { program := "ytoocijfkckjbfaa", sum := "d6077dd8cf34b81b60dd334b65e3df5ae6ee7f01d32b44d95e6da8a1a8ebc1d9", func := "loop.example/intarsia/laws.FnCrcBit", spec := "fnCrcBit", apart := false, narrowed := true }
def FnCrcBitUptoSaid : Prop := fnCrcBitUptoRow.holds Try.pinned (OpenSpec.upto fnCrcBitSpec)

end Rows
end Go.Proofs.Ytoocijfkckjbfaa
