/-
  No cell of these rows narrows 'for every input' (looked for: loops, veiled, ifaces, maps, wideKeys, modest, calm, conditions, laid).
  DERIVED. THE GIVEN ROWS OF THIS SEAT. 6 by the template 'for every input the law returns true; each argument reads behind the call as it read before'; 0 by the template 'total and deterministic' (their statements: YtjmmhaanndnipaaTotals.lean).
  GIVEN WITH THE SEED: the statements are not yours to turn. If you find one false, say at which input.
  Laid BY PROGRAM, IN A SANDBOX (cutbox-rows.mjs): the forced cells as the released guide's own fill.sh prints them over the translation a1e278a920b1eb7b… (all of the seat's roots in one cut). By AI agents, Wed Nov 11 2026. No macro, syntax, notation, axiom, sorry.
-/
import Derived.Test.YtjmmhaanndnipaaChecked
import GoSem.Claim
import GoSem.ClaimJoined
import GoSem.ClaimMapViews
import Derived.JoinedTies
import Derived.KernelRfl
namespace Go.Proofs.Ytjmmhaanndnipaa
/- THE CELL 'sum', in the pinned program and in every row, IS THE sha256 OF THE DUMP (.gsa) THAT YtjmmhaanndnipaaProg.lean LOADS. Nothing in Lean hashes anything: it is a label: what it is worth is what the hold of that sum in a sandbox is worth. -/
noncomputable def Try.pinned : Pinned := { name := "ytjmmhaanndnipaa", sum := "a1e278a920b1eb7b5d90d441c81ce82494f52786e16f3d52113cf957a700b159", checked := Try.checked }
namespace Rows
def none {H : Type} : Left H := { results := [], args := [] }

/-- 'laws.FnRow': WHATEVER THE INPUT: true; the input reads as it did. -/
def fnRowSpec : ChangeSpec := { name := "fnRow", fn := fun _ => fun
  | [d] => { results := [.lit (.bool true)], args := [d] }
  | _ => none }
def fnRowRow : OpenClaim := { program := "ytjmmhaanndnipaa", sum := "a1e278a920b1eb7b5d90d441c81ce82494f52786e16f3d52113cf957a700b159", func := "loop.example/intarsia/laws.FnRow", spec := "fnRow", unfollowed := true, recurses := true, apart := false }
def FnRowSaid : Prop := fnRowRow.holds Try.pinned (OpenSpec.ofChange fnRowSpec)

/-- ITS FALSE NEIGHBOUR: 'it returns false'. Refute it at one input. -/
def fnRowWrong : ChangeSpec := { name := "fnRow", fn := fun _ => fun
  | [d] => { results := [.lit (.bool false)], args := [d] }
  | _ => none }
def FnRowWrongFalsely : Prop := fnRowRow.holds Try.pinned (OpenSpec.ofChange fnRowWrong)

/-- 'laws.FnRowGet': WHATEVER THE INPUT: true; the input reads as it did. -/
def fnRowGetSpec : ChangeSpec := { name := "fnRowGet", fn := fun _ => fun
  | [d] => { results := [.lit (.bool true)], args := [d] }
  | _ => none }
def fnRowGetRow : OpenClaim := { program := "ytjmmhaanndnipaa", sum := "a1e278a920b1eb7b5d90d441c81ce82494f52786e16f3d52113cf957a700b159", func := "loop.example/intarsia/laws.FnRowGet", spec := "fnRowGet", unfollowed := true, recurses := true, apart := false }
def FnRowGetSaid : Prop := fnRowGetRow.holds Try.pinned (OpenSpec.ofChange fnRowGetSpec)

/-- ITS FALSE NEIGHBOUR: 'it returns false'. Refute it at one input. -/
def fnRowGetWrong : ChangeSpec := { name := "fnRowGet", fn := fun _ => fun
  | [d] => { results := [.lit (.bool false)], args := [d] }
  | _ => none }
def FnRowGetWrongFalsely : Prop := fnRowGetRow.holds Try.pinned (OpenSpec.ofChange fnRowGetWrong)

/-- 'laws.FnExactImageOk': WHATEVER THE INPUT: true; the input reads as it did. -/
def fnExactImageOkSpec : ChangeSpec := { name := "fnExactImageOk", fn := fun _ => fun
  | [d] => { results := [.lit (.bool true)], args := [d] }
  | _ => none }
def fnExactImageOkRow : OpenClaim := { program := "ytjmmhaanndnipaa", sum := "a1e278a920b1eb7b5d90d441c81ce82494f52786e16f3d52113cf957a700b159", func := "loop.example/intarsia/laws.FnExactImageOk", spec := "fnExactImageOk", unfollowed := true, recurses := true, apart := false }
def FnExactImageOkSaid : Prop := fnExactImageOkRow.holds Try.pinned (OpenSpec.ofChange fnExactImageOkSpec)

/-- ITS FALSE NEIGHBOUR: 'it returns false'. Refute it at one input. -/
def fnExactImageOkWrong : ChangeSpec := { name := "fnExactImageOk", fn := fun _ => fun
  | [d] => { results := [.lit (.bool false)], args := [d] }
  | _ => none }
def FnExactImageOkWrongFalsely : Prop := fnExactImageOkRow.holds Try.pinned (OpenSpec.ofChange fnExactImageOkWrong)

/-- 'laws.FnExactImageAt': WHATEVER THE INPUT: true; the input reads as it did. -/
def fnExactImageAtSpec : ChangeSpec := { name := "fnExactImageAt", fn := fun _ => fun
  | [d1, d2, d3] => { results := [.lit (.bool true)], args := [d1, d2, d3] }
  | _ => none }
def fnExactImageAtRow : OpenClaim := { program := "ytjmmhaanndnipaa", sum := "a1e278a920b1eb7b5d90d441c81ce82494f52786e16f3d52113cf957a700b159", func := "loop.example/intarsia/laws.FnExactImageAt", spec := "fnExactImageAt", unfollowed := true, recurses := true, apart := false }
def FnExactImageAtSaid : Prop := fnExactImageAtRow.holds Try.pinned (OpenSpec.ofChange fnExactImageAtSpec)

/-- ITS FALSE NEIGHBOUR: 'it returns false'. Refute it at one input. -/
def fnExactImageAtWrong : ChangeSpec := { name := "fnExactImageAt", fn := fun _ => fun
  | [d1, d2, d3] => { results := [.lit (.bool false)], args := [d1, d2, d3] }
  | _ => none }
def FnExactImageAtWrongFalsely : Prop := fnExactImageAtRow.holds Try.pinned (OpenSpec.ofChange fnExactImageAtWrong)

/-- 'laws.FnExactRowPut': WHATEVER THE INPUT: true; the input reads as it did. -/
def fnExactRowPutSpec : ChangeSpec := { name := "fnExactRowPut", fn := fun _ => fun
  | [d1, d2] => { results := [.lit (.bool true)], args := [d1, d2] }
  | _ => none }
def fnExactRowPutRow : OpenClaim := { program := "ytjmmhaanndnipaa", sum := "a1e278a920b1eb7b5d90d441c81ce82494f52786e16f3d52113cf957a700b159", func := "loop.example/intarsia/laws.FnExactRowPut", spec := "fnExactRowPut", unfollowed := true, recurses := true, apart := false }
def FnExactRowPutSaid : Prop := fnExactRowPutRow.holds Try.pinned (OpenSpec.ofChange fnExactRowPutSpec)

/-- ITS FALSE NEIGHBOUR: 'it returns false'. Refute it at one input. -/
def fnExactRowPutWrong : ChangeSpec := { name := "fnExactRowPut", fn := fun _ => fun
  | [d1, d2] => { results := [.lit (.bool false)], args := [d1, d2] }
  | _ => none }
def FnExactRowPutWrongFalsely : Prop := fnExactRowPutRow.holds Try.pinned (OpenSpec.ofChange fnExactRowPutWrong)

/-- 'laws.FnExactRowGet': WHATEVER THE INPUT: true; the input reads as it did. -/
def fnExactRowGetSpec : ChangeSpec := { name := "fnExactRowGet", fn := fun _ => fun
  | [d1, d2, d3] => { results := [.lit (.bool true)], args := [d1, d2, d3] }
  | _ => none }
def fnExactRowGetRow : OpenClaim := { program := "ytjmmhaanndnipaa", sum := "a1e278a920b1eb7b5d90d441c81ce82494f52786e16f3d52113cf957a700b159", func := "loop.example/intarsia/laws.FnExactRowGet", spec := "fnExactRowGet", unfollowed := true, recurses := true, apart := false }
def FnExactRowGetSaid : Prop := fnExactRowGetRow.holds Try.pinned (OpenSpec.ofChange fnExactRowGetSpec)

/-- ITS FALSE NEIGHBOUR: 'it returns false'. Refute it at one input. -/
def fnExactRowGetWrong : ChangeSpec := { name := "fnExactRowGet", fn := fun _ => fun
  | [d1, d2, d3] => { results := [.lit (.bool false)], args := [d1, d2, d3] }
  | _ => none }
def FnExactRowGetWrongFalsely : Prop := fnExactRowGetRow.holds Try.pinned (OpenSpec.ofChange fnExactRowGetWrong)

/- THE SECOND FORM. 'bulk': how many values and letters a reading holds, each counted each time it is reached (what is shared counts as often as it is met; a slice's spare places count too). A statement '..UptoSaid' is the law's where the arguments, and the package variables that the reading takes, are together of bulk at most 1048576: NARROWER than '..Said'. Prove '..Said' where nothing that the law and all that it calls make is longer than what came in: it says more and counts as full. Else prove '..UptoSaid'. A law counts once. -/
mutual
def uptoBulk {H : Type} : DataW H → Nat
  | .lit (.string bytes) => bytes.length + 1
  | .lit _ => 1
  | .nil => 1
  | .ptr d => uptoBulk d + 1
  | .slice elems spare => uptoBulkAll elems + uptoBulkAll spare + 1
  | .agg parts => uptoBulkAll parts + 1
  | .iface _ d => uptoBulk d + 1
  | .map entries => uptoBulkEntries entries + 1
  | .held _ => 1
def uptoBulkAll {H : Type} : List (DataW H) → Nat
  | [] => 0
  | d :: r => uptoBulk d + uptoBulkAll r
def uptoBulkEntries {H : Type} : List (Lit × DataW H) → Nat
  | [] => 0
  | x :: r => uptoBulkEntry x + uptoBulkEntries r
def uptoBulkEntry {H : Type} : Lit × DataW H → Nat
  | (.string bytes, d) => bytes.length + uptoBulk d + 1
  | (_, d) => uptoBulk d + 1
 end
def uptoSmall : (H : Type) → List (DataW H) → Bool := fun _ ds => decide (uptoBulkAll ds ≤ 1048576)
def OpenSpec.upto (s : _root_.Go.ChangeSpec) : _root_.Go.OpenSpec := { _root_.Go.OpenSpec.ofChange s with cond := some uptoSmall }

/-- 'laws.FnRow', WHERE WHAT IT READS IS OF BULK AT MOST 1048576: true; the input reads as it did. -/
def fnRowUptoRow : OpenClaim := { program := "ytjmmhaanndnipaa", sum := "a1e278a920b1eb7b5d90d441c81ce82494f52786e16f3d52113cf957a700b159", func := "loop.example/intarsia/laws.FnRow", spec := "fnRow", unfollowed := true, recurses := true, apart := false, narrowed := true }
def FnRowUptoSaid : Prop := fnRowUptoRow.holds Try.pinned (OpenSpec.upto fnRowSpec)

/-- 'laws.FnRowGet', WHERE WHAT IT READS IS OF BULK AT MOST 1048576: true; the input reads as it did. -/
def fnRowGetUptoRow : OpenClaim := { program := "ytjmmhaanndnipaa", sum := "a1e278a920b1eb7b5d90d441c81ce82494f52786e16f3d52113cf957a700b159", func := "loop.example/intarsia/laws.FnRowGet", spec := "fnRowGet", unfollowed := true, recurses := true, apart := false, narrowed := true }
def FnRowGetUptoSaid : Prop := fnRowGetUptoRow.holds Try.pinned (OpenSpec.upto fnRowGetSpec)

/-- 'laws.FnExactImageOk', WHERE WHAT IT READS IS OF BULK AT MOST 1048576: true; the input reads as it did. -/
def fnExactImageOkUptoRow : OpenClaim := { program := "ytjmmhaanndnipaa", sum := "a1e278a920b1eb7b5d90d441c81ce82494f52786e16f3d52113cf957a700b159", func := "loop.example/intarsia/laws.FnExactImageOk", spec := "fnExactImageOk", unfollowed := true, recurses := true, apart := false, narrowed := true }
def FnExactImageOkUptoSaid : Prop := fnExactImageOkUptoRow.holds Try.pinned (OpenSpec.upto fnExactImageOkSpec)

/-- 'laws.FnExactImageAt', WHERE WHAT IT READS IS OF BULK AT MOST 1048576: true; the input reads as it did. -/
def fnExactImageAtUptoRow : OpenClaim := { program := "ytjmmhaanndnipaa", sum := "a1e278a920b1eb7b5d90d441c81ce82494f52786e16f3d52113cf957a700b159", func := "loop.example/intarsia/laws.FnExactImageAt", spec := "fnExactImageAt", unfollowed := true, recurses := true, apart := false, narrowed := true }
def FnExactImageAtUptoSaid : Prop := fnExactImageAtUptoRow.holds Try.pinned (OpenSpec.upto fnExactImageAtSpec)

/-- 'laws.FnExactRowPut', WHERE WHAT IT READS IS OF BULK AT MOST 1048576: true; the input reads as it did. -/
def fnExactRowPutUptoRow : OpenClaim := { program := "ytjmmhaanndnipaa", sum := "a1e278a920b1eb7b5d90d441c81ce82494f52786e16f3d52113cf957a700b159", func := "loop.example/intarsia/laws.FnExactRowPut", spec := "fnExactRowPut", unfollowed := true, recurses := true, apart := false, narrowed := true }
def FnExactRowPutUptoSaid : Prop := fnExactRowPutUptoRow.holds Try.pinned (OpenSpec.upto fnExactRowPutSpec)

/-- 'laws.FnExactRowGet', WHERE WHAT IT READS IS OF BULK AT MOST 1048576: true; the input reads as it did. -/
def fnExactRowGetUptoRow : OpenClaim := { program := "ytjmmhaanndnipaa", sum := "a1e278a920b1eb7b5d90d441c81ce82494f52786e16f3d52113cf957a700b159", func := "loop.example/intarsia/laws.FnExactRowGet", spec := "fnExactRowGet", unfollowed := true, recurses := true, apart := false, narrowed := true }
def FnExactRowGetUptoSaid : Prop := fnExactRowGetUptoRow.holds Try.pinned (OpenSpec.upto fnExactRowGetSpec)

end Rows
end Go.Proofs.Ytjmmhaanndnipaa
