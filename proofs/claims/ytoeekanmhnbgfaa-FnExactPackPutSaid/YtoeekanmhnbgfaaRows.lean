/-
  No cell of these rows narrows 'for every input' (looked for: loops, veiled, ifaces, maps, wideKeys, modest, calm, conditions, laid).
  DERIVED. THE GIVEN ROWS OF THIS SEAT. 4 by the template 'for every input the law returns true; each argument reads behind the call as it read before'; 0 by the template 'total and deterministic' (their statements: YtoeekanmhnbgfaaTotals.lean).
  GIVEN WITH THE SEED: the statements are not yours to turn. If you find one false, say at which input.
  Laid BY PROGRAM, IN A SANDBOX (cutbox-rows.mjs): the forced cells as the released guide's own fill.sh prints them over the translation e55183572119b297… (all of the seat's roots in one cut). By AI agents, Wed Nov 11 2026. No macro, syntax, notation, axiom, sorry.
-/
import Derived.Test.YtoeekanmhnbgfaaChecked
import GoSem.Claim
import GoSem.ClaimJoined
import GoSem.ClaimMapViews
import Derived.JoinedTies
import Derived.KernelRfl
namespace Go.Proofs.Ytoeekanmhnbgfaa
/- THE CELL 'sum', in the pinned program and in every row, IS THE sha256 OF THE DUMP (.gsa) THAT YtoeekanmhnbgfaaProg.lean LOADS. Nothing in Lean hashes anything: it is a label: what it is worth is what the hold of that sum in a sandbox is worth. -/
noncomputable def Try.pinned : Pinned := { name := "ytoeekanmhnbgfaa", sum := "e55183572119b2974d8233c9d69ba24b8fe48d80fcea9969f35d29323f42c039", checked := Try.checked }
namespace Rows
def none {H : Type} : Left H := { results := [], args := [] }

/-- 'laws.FnExactWovenRows': WHATEVER THE INPUT: true; the input reads as it did. -/
def fnExactWovenRowsSpec : ChangeSpec := { name := "fnExactWovenRows", fn := fun _ => fun
  | [d] => { results := [.lit (.bool true)], args := [d] }
  | _ => none }
def fnExactWovenRowsRow : OpenClaim := { program := "ytoeekanmhnbgfaa", sum := "e55183572119b2974d8233c9d69ba24b8fe48d80fcea9969f35d29323f42c039", func := "loop.example/intarsia/laws.FnExactWovenRows", spec := "fnExactWovenRows", apart := false }
def FnExactWovenRowsSaid : Prop := fnExactWovenRowsRow.holds Try.pinned (OpenSpec.ofChange fnExactWovenRowsSpec)

/-- ITS FALSE NEIGHBOUR: 'it returns false'. Refute it at one input. -/
def fnExactWovenRowsWrong : ChangeSpec := { name := "fnExactWovenRows", fn := fun _ => fun
  | [d] => { results := [.lit (.bool false)], args := [d] }
  | _ => none }
def FnExactWovenRowsWrongFalsely : Prop := fnExactWovenRowsRow.holds Try.pinned (OpenSpec.ofChange fnExactWovenRowsWrong)

/-- 'laws.FnWovenRows': WHATEVER THE INPUT: true; the input reads as it did. -/
def fnWovenRowsSpec : ChangeSpec := { name := "fnWovenRows", fn := fun _ => fun
  | [d] => { results := [.lit (.bool true)], args := [d] }
  | _ => none }
def fnWovenRowsRow : OpenClaim := { program := "ytoeekanmhnbgfaa", sum := "e55183572119b2974d8233c9d69ba24b8fe48d80fcea9969f35d29323f42c039", func := "loop.example/intarsia/laws.FnWovenRows", spec := "fnWovenRows", apart := false }
def FnWovenRowsSaid : Prop := fnWovenRowsRow.holds Try.pinned (OpenSpec.ofChange fnWovenRowsSpec)

/-- ITS FALSE NEIGHBOUR: 'it returns false'. Refute it at one input. -/
def fnWovenRowsWrong : ChangeSpec := { name := "fnWovenRows", fn := fun _ => fun
  | [d] => { results := [.lit (.bool false)], args := [d] }
  | _ => none }
def FnWovenRowsWrongFalsely : Prop := fnWovenRowsRow.holds Try.pinned (OpenSpec.ofChange fnWovenRowsWrong)

/-- 'laws.FnExactBlocksPut': WHATEVER THE INPUT: true; the input reads as it did. -/
def fnExactBlocksPutSpec : ChangeSpec := { name := "fnExactBlocksPut", fn := fun _ => fun
  | [d] => { results := [.lit (.bool true)], args := [d] }
  | _ => none }
def fnExactBlocksPutRow : OpenClaim := { program := "ytoeekanmhnbgfaa", sum := "e55183572119b2974d8233c9d69ba24b8fe48d80fcea9969f35d29323f42c039", func := "loop.example/intarsia/laws.FnExactBlocksPut", spec := "fnExactBlocksPut", apart := false }
def FnExactBlocksPutSaid : Prop := fnExactBlocksPutRow.holds Try.pinned (OpenSpec.ofChange fnExactBlocksPutSpec)

/-- ITS FALSE NEIGHBOUR: 'it returns false'. Refute it at one input. -/
def fnExactBlocksPutWrong : ChangeSpec := { name := "fnExactBlocksPut", fn := fun _ => fun
  | [d] => { results := [.lit (.bool false)], args := [d] }
  | _ => none }
def FnExactBlocksPutWrongFalsely : Prop := fnExactBlocksPutRow.holds Try.pinned (OpenSpec.ofChange fnExactBlocksPutWrong)

/-- 'laws.FnExactPackPut': WHATEVER THE INPUT: true; the input reads as it did. -/
def fnExactPackPutSpec : ChangeSpec := { name := "fnExactPackPut", fn := fun _ => fun
  | [d] => { results := [.lit (.bool true)], args := [d] }
  | _ => none }
def fnExactPackPutRow : OpenClaim := { program := "ytoeekanmhnbgfaa", sum := "e55183572119b2974d8233c9d69ba24b8fe48d80fcea9969f35d29323f42c039", func := "loop.example/intarsia/laws.FnExactPackPut", spec := "fnExactPackPut", unfollowed := true, recurses := true, apart := false }
def FnExactPackPutSaid : Prop := fnExactPackPutRow.holds Try.pinned (OpenSpec.ofChange fnExactPackPutSpec)

/-- ITS FALSE NEIGHBOUR: 'it returns false'. Refute it at one input. -/
def fnExactPackPutWrong : ChangeSpec := { name := "fnExactPackPut", fn := fun _ => fun
  | [d] => { results := [.lit (.bool false)], args := [d] }
  | _ => none }
def FnExactPackPutWrongFalsely : Prop := fnExactPackPutRow.holds Try.pinned (OpenSpec.ofChange fnExactPackPutWrong)

/- THE SECOND FORM. 'bulk': how many values and letters a reading holds, each counted each time it is reached (what is shared counts as often as it is met; a slice's spare places count too). A statement '..UptoSaid' is the law's where the arguments, and the package variables that the reading takes, are together of bulk at most 1048576: NARROWER than '..Said'. Prove '..Said' where nothing that the law and all that it calls make is longer than what came in: it says more and counts as full. Else prove '..UptoSaid'. A law counts once. -/
mutual
def uptoBulk {H : Type} : DataW H → Nat
  | .lit (.string bytes) => bytes.length + 1
  | .lit _ => 1
  | .nil => 1
  | .ptr d => uptoBulk d + 1
  | .slice elems spare => uptoBulkAll elems + uptoBulkAll spare + 1
  | .agg parts => uptoBulkAll parts + 1
  | .iface _ d => uptoBulk d + 1
  | .map entries => uptoBulkEntries entries + 1
  | .held _ => 1
def uptoBulkAll {H : Type} : List (DataW H) → Nat
  | [] => 0
  | d :: r => uptoBulk d + uptoBulkAll r
def uptoBulkEntries {H : Type} : List (Lit × DataW H) → Nat
  | [] => 0
  | x :: r => uptoBulkEntry x + uptoBulkEntries r
def uptoBulkEntry {H : Type} : Lit × DataW H → Nat
  | (.string bytes, d) => bytes.length + uptoBulk d + 1
  | (_, d) => uptoBulk d + 1
 end
def uptoSmall : (H : Type) → List (DataW H) → Bool := fun _ ds => decide (uptoBulkAll ds ≤ 1048576)
def OpenSpec.upto (s : _root_.Go.ChangeSpec) : _root_.Go.OpenSpec := { _root_.Go.OpenSpec.ofChange s with cond := some uptoSmall }

/-- 'laws.FnExactWovenRows', WHERE WHAT IT READS IS OF BULK AT MOST 1048576: true; the input reads as it did. -/
def fnExactWovenRowsUptoRow : OpenClaim := { program := "ytoeekanmhnbgfaa", sum := "e55183572119b2974d8233c9d69ba24b8fe48d80fcea9969f35d29323f42c039", func := "loop.example/intarsia/laws.FnExactWovenRows", spec := "fnExactWovenRows", apart := false, narrowed := true }
def FnExactWovenRowsUptoSaid : Prop := fnExactWovenRowsUptoRow.holds Try.pinned (OpenSpec.upto fnExactWovenRowsSpec)

/-- 'laws.FnWovenRows', WHERE WHAT IT READS IS OF BULK AT MOST 1048576: true; the input reads as it did. -/
def fnWovenRowsUptoRow : OpenClaim := { program := "ytoeekanmhnbgfaa", sum := "e55183572119b2974d8233c9d69ba24b8fe48d80fcea9969f35d29323f42c039", func := "loop.example/intarsia/laws.FnWovenRows", spec := "fnWovenRows", apart := false, narrowed := true }
def FnWovenRowsUptoSaid : Prop := fnWovenRowsUptoRow.holds Try.pinned (OpenSpec.upto fnWovenRowsSpec)

/-- 'laws.FnExactBlocksPut', WHERE WHAT IT READS IS OF BULK AT MOST 1048576: true; the input reads as it did. -/
def fnExactBlocksPutUptoRow : OpenClaim := { program := "ytoeekanmhnbgfaa", sum := "e55183572119b2974d8233c9d69ba24b8fe48d80fcea9969f35d29323f42c039", func := "loop.example/intarsia/laws.FnExactBlocksPut", spec := "fnExactBlocksPut", apart := false, narrowed := true }
def FnExactBlocksPutUptoSaid : Prop := fnExactBlocksPutUptoRow.holds Try.pinned (OpenSpec.upto fnExactBlocksPutSpec)

/-- 'laws.FnExactPackPut', WHERE WHAT IT READS IS OF BULK AT MOST 1048576: true; the input reads as it did. -/
def fnExactPackPutUptoRow : OpenClaim := { program := "ytoeekanmhnbgfaa", sum := "e55183572119b2974d8233c9d69ba24b8fe48d80fcea9969f35d29323f42c039", func := "loop.example/intarsia/laws.FnExactPackPut", spec := "fnExactPackPut", unfollowed := true, recurses := true, apart := false, narrowed := true }
def FnExactPackPutUptoSaid : Prop := fnExactPackPutUptoRow.holds Try.pinned (OpenSpec.upto fnExactPackPutSpec)

end Rows
end Go.Proofs.Ytoeekanmhnbgfaa
