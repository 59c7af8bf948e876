/-
  No cell of these rows narrows 'for every input' (looked for: loops, veiled, ifaces, maps, wideKeys, modest, calm, conditions, laid).
  DERIVED. THE GIVEN ROWS OF THIS SEAT. 6 by the template 'for every input the law returns true; each argument reads behind the call as it read before'; 0 by the template 'total and deterministic' (their statements: YtjikjjganloobaaTotals.lean).
  GIVEN WITH THE SEED: the statements are not yours to turn. If you find one false, say at which input.
  Laid BY PROGRAM, IN A SANDBOX (cutbox-rows.mjs): the forced cells as the released guide's own fill.sh prints them over the translation c8610e6b38b754a4… (all of the seat's roots in one cut). By AI agents, Wed Nov 11 2026. No macro, syntax, notation, axiom, sorry.
-/
import Derived.Test.YtjikjjganloobaaChecked
import GoSem.Claim
import GoSem.ClaimJoined
import GoSem.ClaimMapViews
import Derived.JoinedTies
import Derived.KernelRfl
namespace Go.Proofs.Ytjikjjganloobaa
/- THE CELL 'sum', in the pinned program and in every row, IS THE sha256 OF THE DUMP (.gsa) THAT YtjikjjganloobaaProg.lean LOADS. Nothing in Lean hashes anything: it is a label: what it is worth is what the hold of that sum in a sandbox is worth. -/
noncomputable def Try.pinned : Pinned := { name := "ytjikjjganloobaa", sum := "c8610e6b38b754a4f786dd7b5d9185574622789f35a56ede098b65dc5d078bae", checked := Try.checked }
namespace Rows
def none {H : Type} : Left H := { results := [], args := [] }

/-- 'laws.FnExactRowGet': WHATEVER THE INPUT: true; the input reads as it did. -/
def fnExactRowGetSpec : ChangeSpec := { name := "fnExactRowGet", fn := fun _ => fun
  | [d1, d2, d3] => { results := [.lit (.bool true)], args := [d1, d2, d3] }
  | _ => none }
def fnExactRowGetRow : OpenClaim := { program := "ytjikjjganloobaa", sum := "c8610e6b38b754a4f786dd7b5d9185574622789f35a56ede098b65dc5d078bae", func := "loop.example/intarsia/laws.FnExactRowGet", spec := "fnExactRowGet", unfollowed := true, recurses := true, apart := false }
def FnExactRowGetSaid : Prop := fnExactRowGetRow.holds Try.pinned (OpenSpec.ofChange fnExactRowGetSpec)

/-- ITS FALSE NEIGHBOUR: 'it returns false'. Refute it at one input. -/
def fnExactRowGetWrong : ChangeSpec := { name := "fnExactRowGet", fn := fun _ => fun
  | [d1, d2, d3] => { results := [.lit (.bool false)], args := [d1, d2, d3] }
  | _ => none }
def FnExactRowGetWrongFalsely : Prop := fnExactRowGetRow.holds Try.pinned (OpenSpec.ofChange fnExactRowGetWrong)

/-- 'laws.FnRow': WHATEVER THE INPUT: true; the input reads as it did. -/
def fnRowSpec : ChangeSpec := { name := "fnRow", fn := fun _ => fun
  | [d] => { results := [.lit (.bool true)], args := [d] }
  | _ => none }
def fnRowRow : OpenClaim := { program := "ytjikjjganloobaa", sum := "c8610e6b38b754a4f786dd7b5d9185574622789f35a56ede098b65dc5d078bae", func := "loop.example/intarsia/laws.FnRow", spec := "fnRow", unfollowed := true, recurses := true, apart := false }
def FnRowSaid : Prop := fnRowRow.holds Try.pinned (OpenSpec.ofChange fnRowSpec)

/-- ITS FALSE NEIGHBOUR: 'it returns false'. Refute it at one input. -/
def fnRowWrong : ChangeSpec := { name := "fnRow", fn := fun _ => fun
  | [d] => { results := [.lit (.bool false)], args := [d] }
  | _ => none }
def FnRowWrongFalsely : Prop := fnRowRow.holds Try.pinned (OpenSpec.ofChange fnRowWrong)

/-- 'laws.FnRowGet': WHATEVER THE INPUT: true; the input reads as it did. -/
def fnRowGetSpec : ChangeSpec := { name := "fnRowGet", fn := fun _ => fun
  | [d] => { results := [.lit (.bool true)], args := [d] }
  | _ => none }
def fnRowGetRow : OpenClaim := { program := "ytjikjjganloobaa", sum := "c8610e6b38b754a4f786dd7b5d9185574622789f35a56ede098b65dc5d078bae", func := "loop.example/intarsia/laws.FnRowGet", spec := "fnRowGet", unfollowed := true, recurses := true, apart := false }
def FnRowGetSaid : Prop := fnRowGetRow.holds Try.pinned (OpenSpec.ofChange fnRowGetSpec)

/-- ITS FALSE NEIGHBOUR: 'it returns false'. Refute it at one input. -/
def fnRowGetWrong : ChangeSpec := { name := "fnRowGet", fn := fun _ => fun
  | [d] => { results := [.lit (.bool false)], args := [d] }
  | _ => none }
def FnRowGetWrongFalsely : Prop := fnRowGetRow.holds Try.pinned (OpenSpec.ofChange fnRowGetWrong)

/-- 'laws.FnExactFilterPut': WHATEVER THE INPUT: true; the input reads as it did. -/
def fnExactFilterPutSpec : ChangeSpec := { name := "fnExactFilterPut", fn := fun _ => fun
  | [d1, d2, d3, d4] => { results := [.lit (.bool true)], args := [d1, d2, d3, d4] }
  | _ => none }
def fnExactFilterPutRow : OpenClaim := { program := "ytjikjjganloobaa", sum := "c8610e6b38b754a4f786dd7b5d9185574622789f35a56ede098b65dc5d078bae", func := "loop.example/intarsia/laws.FnExactFilterPut", spec := "fnExactFilterPut", unfollowed := true, recurses := true, apart := false }
def FnExactFilterPutSaid : Prop := fnExactFilterPutRow.holds Try.pinned (OpenSpec.ofChange fnExactFilterPutSpec)

/-- ITS FALSE NEIGHBOUR: 'it returns false'. Refute it at one input. -/
def fnExactFilterPutWrong : ChangeSpec := { name := "fnExactFilterPut", fn := fun _ => fun
  | [d1, d2, d3, d4] => { results := [.lit (.bool false)], args := [d1, d2, d3, d4] }
  | _ => none }
def FnExactFilterPutWrongFalsely : Prop := fnExactFilterPutRow.holds Try.pinned (OpenSpec.ofChange fnExactFilterPutWrong)

/-- 'laws.FnExactFilterGet': WHATEVER THE INPUT: true; the input reads as it did. -/
def fnExactFilterGetSpec : ChangeSpec := { name := "fnExactFilterGet", fn := fun _ => fun
  | [d1, d2, d3, d4] => { results := [.lit (.bool true)], args := [d1, d2, d3, d4] }
  | _ => none }
def fnExactFilterGetRow : OpenClaim := { program := "ytjikjjganloobaa", sum := "c8610e6b38b754a4f786dd7b5d9185574622789f35a56ede098b65dc5d078bae", func := "loop.example/intarsia/laws.FnExactFilterGet", spec := "fnExactFilterGet", unfollowed := true, recurses := true, apart := false }
def FnExactFilterGetSaid : Prop := fnExactFilterGetRow.holds Try.pinned (OpenSpec.ofChange fnExactFilterGetSpec)

/-- ITS FALSE NEIGHBOUR: 'it returns false'. Refute it at one input. -/
def fnExactFilterGetWrong : ChangeSpec := { name := "fnExactFilterGet", fn := fun _ => fun
  | [d1, d2, d3, d4] => { results := [.lit (.bool false)], args := [d1, d2, d3, d4] }
  | _ => none }
def FnExactFilterGetWrongFalsely : Prop := fnExactFilterGetRow.holds Try.pinned (OpenSpec.ofChange fnExactFilterGetWrong)

/-- 'laws.FnFilter': WHATEVER THE INPUT: true; the input reads as it did. -/
def fnFilterSpec : ChangeSpec := { name := "fnFilter", fn := fun _ => fun
  | [d] => { results := [.lit (.bool true)], args := [d] }
  | _ => none }
def fnFilterRow : OpenClaim := { program := "ytjikjjganloobaa", sum := "c8610e6b38b754a4f786dd7b5d9185574622789f35a56ede098b65dc5d078bae", func := "loop.example/intarsia/laws.FnFilter", spec := "fnFilter", unfollowed := true, recurses := true, apart := false }
def FnFilterSaid : Prop := fnFilterRow.holds Try.pinned (OpenSpec.ofChange fnFilterSpec)

/-- ITS FALSE NEIGHBOUR: 'it returns false'. Refute it at one input. -/
def fnFilterWrong : ChangeSpec := { name := "fnFilter", fn := fun _ => fun
  | [d] => { results := [.lit (.bool false)], args := [d] }
  | _ => none }
def FnFilterWrongFalsely : Prop := fnFilterRow.holds Try.pinned (OpenSpec.ofChange fnFilterWrong)

/- THE SECOND FORM. 'bulk': how many values and letters a reading holds, each counted each time it is reached (what is shared counts as often as it is met; a slice's spare places count too). A statement '..UptoSaid' is the law's where the arguments, and the package variables that the reading takes, are together of bulk at most 1048576: NARROWER than '..Said'. Prove '..Said' where nothing that the law and all that it calls make is longer than what came in: it says more and counts as full. Else prove '..UptoSaid'. A law counts once. -/
mutual
def uptoBulk {H : Type} : DataW H → Nat
  | .lit (.string bytes) => bytes.length + 1
  | .lit _ => 1
  | .nil => 1
  | .ptr d => uptoBulk d + 1
  | .slice elems spare => uptoBulkAll elems + uptoBulkAll spare + 1
  | .agg parts => uptoBulkAll parts + 1
  | .iface _ d => uptoBulk d + 1
  | .map entries => uptoBulkEntries entries + 1
  | .held _ => 1
def uptoBulkAll {H : Type} : List (DataW H) → Nat
  | [] => 0
  | d :: r => uptoBulk d + uptoBulkAll r
def uptoBulkEntries {H : Type} : List (Lit × DataW H) → Nat
  | [] => 0
  | x :: r => uptoBulkEntry x + uptoBulkEntries r
def uptoBulkEntry {H : Type} : Lit × DataW H → Nat
  | (.string bytes, d) => bytes.length + uptoBulk d + 1
  | (_, d) => uptoBulk d + 1
 end
def uptoSmall : (H : Type) → List (DataW H) → Bool := fun _ ds => decide (uptoBulkAll ds ≤ 1048576)
def OpenSpec.upto (s : _root_.Go.ChangeSpec) : _root_.Go.OpenSpec := { _root_.Go.OpenSpec.ofChange s with cond := some uptoSmall }

/-- 'laws.FnExactRowGet', WHERE WHAT IT READS IS OF BULK AT MOST 1048576: true; the input reads as it did. -/
def fnExactRowGetUptoRow : OpenClaim := { program := "ytjikjjganloobaa", sum := "c8610e6b38b754a4f786dd7b5d9185574622789f35a56ede098b65dc5d078bae", func := "loop.example/intarsia/laws.FnExactRowGet", spec := "fnExactRowGet", unfollowed := true, recurses := true, apart := false, narrowed := true }
def FnExactRowGetUptoSaid : Prop := fnExactRowGetUptoRow.holds Try.pinned (OpenSpec.upto fnExactRowGetSpec)

/-- 'laws.FnRow', WHERE WHAT IT READS IS OF BULK AT MOST 1048576: true; the input reads as it did. -/
def fnRowUptoRow : OpenClaim := { program := "ytjikjjganloobaa", sum := "c8610e6b38b754a4f786dd7b5d9185574622789f35a56ede098b65dc5d078bae", func := "loop.example/intarsia/laws.FnRow", spec := "fnRow", unfollowed := true, recurses := true, apart := false, narrowed := true }
def FnRowUptoSaid : Prop := fnRowUptoRow.holds Try.pinned (OpenSpec.upto fnRowSpec)

/-- 'laws.FnRowGet', WHERE WHAT IT READS IS OF BULK AT MOST 1048576: true; the input reads as it did. -/
def fnRowGetUptoRow : OpenClaim := { program := "ytjikjjganloobaa", sum := "c8610e6b38b754a4f786dd7b5d9185574622789f35a56ede098b65dc5d078bae", func := "loop.example/intarsia/laws.FnRowGet", spec := "fnRowGet", unfollowed := true, recurses := true, apart := false, narrowed := true }
def FnRowGetUptoSaid : Prop := fnRowGetUptoRow.holds Try.pinned (OpenSpec.upto fnRowGetSpec)

/-- 'laws.FnExactFilterPut', WHERE WHAT IT READS IS OF BULK AT MOST 1048576: true; the input reads as it did. -/
def fnExactFilterPutUptoRow : OpenClaim := { program := "ytjikjjganloobaa", sum := "c8610e6b38b754a4f786dd7b5d9185574622789f35a56ede098b65dc5d078bae", func := "loop.example/intarsia/laws.FnExactFilterPut", spec := "fnExactFilterPut", unfollowed := true, recurses := true, apart := false, narrowed := true }
def FnExactFilterPutUptoSaid : Prop := fnExactFilterPutUptoRow.holds Try.pinned (OpenSpec.upto fnExactFilterPutSpec)

/-- 'laws.FnExactFilterGet', WHERE WHAT IT READS IS OF BULK AT MOST 1048576: true; the input reads as it did. -/
def fnExactFilterGetUptoRow : OpenClaim := { program := "ytjikjjganloobaa", sum := "c8610e6b38b754a4f786dd7b5d9185574622789f35a56ede098b65dc5d078bae", func := "loop.example/intarsia/laws.FnExactFilterGet", spec := "fnExactFilterGet", unfollowed := true, recurses := true, apart := false, narrowed := true }
def FnExactFilterGetUptoSaid : Prop := fnExactFilterGetUptoRow.holds Try.pinned (OpenSpec.upto fnExactFilterGetSpec)

/-- 'laws.FnFilter', WHERE WHAT IT READS IS OF BULK AT MOST 1048576: true; the input reads as it did. -/
def fnFilterUptoRow : OpenClaim := { program := "ytjikjjganloobaa", sum := "c8610e6b38b754a4f786dd7b5d9185574622789f35a56ede098b65dc5d078bae", func := "loop.example/intarsia/laws.FnFilter", spec := "fnFilter", unfollowed := true, recurses := true, apart := false, narrowed := true }
def FnFilterUptoSaid : Prop := fnFilterUptoRow.holds Try.pinned (OpenSpec.upto fnFilterSpec)

end Rows
end Go.Proofs.Ytjikjjganloobaa
