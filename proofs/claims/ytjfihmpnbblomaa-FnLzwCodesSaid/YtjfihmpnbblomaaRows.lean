/-
  No cell of these rows narrows 'for every input' (looked for: loops, veiled, ifaces, maps, wideKeys, modest, calm, conditions, laid).
  DERIVED. THE GIVEN ROWS OF THIS SEAT. 5 by the template 'for every input the law returns true; each argument reads behind the call as it read before'; 0 by the template 'total and deterministic' (their statements: YtjfihmpnbblomaaTotals.lean).
  GIVEN WITH THE SEED: the statements are not yours to turn. If you find one false, say at which input.
  Laid BY PROGRAM, IN A SANDBOX (cutbox-rows.mjs): the forced cells as the released guide's own fill.sh prints them over the translation 546d0f2d8fe586ca… (all of the seat's roots in one cut). By AI agents, Wed Nov 11 2026. No macro, syntax, notation, axiom, sorry.
-/
import Derived.Test.YtjfihmpnbblomaaChecked
import GoSem.Claim
import GoSem.ClaimJoined
import GoSem.ClaimMapViews
import Derived.JoinedTies
import Derived.KernelRfl
namespace Go.Proofs.Ytjfihmpnbblomaa
/- THE CELL 'sum', in the pinned program and in every row, IS THE sha256 OF THE DUMP (.gsa) THAT YtjfihmpnbblomaaProg.lean LOADS. Nothing in Lean hashes anything: it is a label: what it is worth is what the hold of that sum in a sandbox is worth. -/
noncomputable def Try.pinned : Pinned := { name := "ytjfihmpnbblomaa", sum := "546d0f2d8fe586cae746a732f3a308079cc69bcb2218f6435c0e565bb8d39c29", checked := Try.checked }
namespace Rows
def none {H : Type} : Left H := { results := [], args := [] }

/-- 'laws.FnLzwGet': WHATEVER THE INPUT: true; the input reads as it did. -/
def fnLzwGetSpec : ChangeSpec := { name := "fnLzwGet", fn := fun _ => fun
  | [d] => { results := [.lit (.bool true)], args := [d] }
  | _ => none }
def fnLzwGetRow : OpenClaim := { program := "ytjfihmpnbblomaa", sum := "546d0f2d8fe586cae746a732f3a308079cc69bcb2218f6435c0e565bb8d39c29", func := "loop.example/intarsia/laws.FnLzwGet", spec := "fnLzwGet", unfollowed := true, recurses := true, plainKeys := false, apart := false }
def FnLzwGetSaid : Prop := fnLzwGetRow.holds Try.pinned (OpenSpec.ofChange fnLzwGetSpec)

/-- ITS FALSE NEIGHBOUR: 'it returns false'. Refute it at one input. -/
def fnLzwGetWrong : ChangeSpec := { name := "fnLzwGet", fn := fun _ => fun
  | [d] => { results := [.lit (.bool false)], args := [d] }
  | _ => none }
def FnLzwGetWrongFalsely : Prop := fnLzwGetRow.holds Try.pinned (OpenSpec.ofChange fnLzwGetWrong)

/-- 'laws.FnLzw': WHATEVER THE INPUT: true; the input reads as it did. -/
def fnLzwSpec : ChangeSpec := { name := "fnLzw", fn := fun _ => fun
  | [d] => { results := [.lit (.bool true)], args := [d] }
  | _ => none }
def fnLzwRow : OpenClaim := { program := "ytjfihmpnbblomaa", sum := "546d0f2d8fe586cae746a732f3a308079cc69bcb2218f6435c0e565bb8d39c29", func := "loop.example/intarsia/laws.FnLzw", spec := "fnLzw", unfollowed := true, recurses := true, plainKeys := false, apart := false }
def FnLzwSaid : Prop := fnLzwRow.holds Try.pinned (OpenSpec.ofChange fnLzwSpec)

/-- ITS FALSE NEIGHBOUR: 'it returns false'. Refute it at one input. -/
def fnLzwWrong : ChangeSpec := { name := "fnLzw", fn := fun _ => fun
  | [d] => { results := [.lit (.bool false)], args := [d] }
  | _ => none }
def FnLzwWrongFalsely : Prop := fnLzwRow.holds Try.pinned (OpenSpec.ofChange fnLzwWrong)

/-- 'laws.FnLzwCodes': WHATEVER THE INPUT: true; the input reads as it did. -/
def fnLzwCodesSpec : ChangeSpec := { name := "fnLzwCodes", fn := fun _ => fun
  | [d1, d2] => { results := [.lit (.bool true)], args := [d1, d2] }
  | _ => none }
def fnLzwCodesRow : OpenClaim := { program := "ytjfihmpnbblomaa", sum := "546d0f2d8fe586cae746a732f3a308079cc69bcb2218f6435c0e565bb8d39c29", func := "loop.example/intarsia/laws.FnLzwCodes", spec := "fnLzwCodes", unfollowed := true, recurses := true, plainKeys := false, apart := false }
def FnLzwCodesSaid : Prop := fnLzwCodesRow.holds Try.pinned (OpenSpec.ofChange fnLzwCodesSpec)

/-- ITS FALSE NEIGHBOUR: 'it returns false'. Refute it at one input. -/
def fnLzwCodesWrong : ChangeSpec := { name := "fnLzwCodes", fn := fun _ => fun
  | [d1, d2] => { results := [.lit (.bool false)], args := [d1, d2] }
  | _ => none }
def FnLzwCodesWrongFalsely : Prop := fnLzwCodesRow.holds Try.pinned (OpenSpec.ofChange fnLzwCodesWrong)

/-- 'laws.FnExactLzwPut': WHATEVER THE INPUT: true; the input reads as it did. -/
def fnExactLzwPutSpec : ChangeSpec := { name := "fnExactLzwPut", fn := fun _ => fun
  | [d1, d2, d3] => { results := [.lit (.bool true)], args := [d1, d2, d3] }
  | _ => none }
def fnExactLzwPutRow : OpenClaim := { program := "ytjfihmpnbblomaa", sum := "546d0f2d8fe586cae746a732f3a308079cc69bcb2218f6435c0e565bb8d39c29", func := "loop.example/intarsia/laws.FnExactLzwPut", spec := "fnExactLzwPut", unfollowed := true, recurses := true, plainKeys := false, apart := false }
def FnExactLzwPutSaid : Prop := fnExactLzwPutRow.holds Try.pinned (OpenSpec.ofChange fnExactLzwPutSpec)

/-- ITS FALSE NEIGHBOUR: 'it returns false'. Refute it at one input. -/
def fnExactLzwPutWrong : ChangeSpec := { name := "fnExactLzwPut", fn := fun _ => fun
  | [d1, d2, d3] => { results := [.lit (.bool false)], args := [d1, d2, d3] }
  | _ => none }
def FnExactLzwPutWrongFalsely : Prop := fnExactLzwPutRow.holds Try.pinned (OpenSpec.ofChange fnExactLzwPutWrong)

/-- 'laws.FnExactLzwCodes': WHATEVER THE INPUT: true; the input reads as it did. -/
def fnExactLzwCodesSpec : ChangeSpec := { name := "fnExactLzwCodes", fn := fun _ => fun
  | [d1, d2, d3] => { results := [.lit (.bool true)], args := [d1, d2, d3] }
  | _ => none }
def fnExactLzwCodesRow : OpenClaim := { program := "ytjfihmpnbblomaa", sum := "546d0f2d8fe586cae746a732f3a308079cc69bcb2218f6435c0e565bb8d39c29", func := "loop.example/intarsia/laws.FnExactLzwCodes", spec := "fnExactLzwCodes", unfollowed := true, recurses := true, plainKeys := false, apart := false }
def FnExactLzwCodesSaid : Prop := fnExactLzwCodesRow.holds Try.pinned (OpenSpec.ofChange fnExactLzwCodesSpec)

/-- ITS FALSE NEIGHBOUR: 'it returns false'. Refute it at one input. -/
def fnExactLzwCodesWrong : ChangeSpec := { name := "fnExactLzwCodes", fn := fun _ => fun
  | [d1, d2, d3] => { results := [.lit (.bool false)], args := [d1, d2, d3] }
  | _ => none }
def FnExactLzwCodesWrongFalsely : Prop := fnExactLzwCodesRow.holds Try.pinned (OpenSpec.ofChange fnExactLzwCodesWrong)

/- THE SECOND FORM. 'bulk': how many values and letters a reading holds, each counted each time it is reached (what is shared counts as often as it is met; a slice's spare places count too). A statement '..UptoSaid' is the law's where the arguments, and the package variables that the reading takes, are together of bulk at most 1048576: NARROWER than '..Said'. Prove '..Said' where nothing that the law and all that it calls make is longer than what came in: it says more and counts as full. Else prove '..UptoSaid'. A law counts once. -/
mutual
def uptoBulk {H : Type} : DataW H → Nat
  | .lit (.string bytes) => bytes.length + 1
  | .lit _ => 1
  | .nil => 1
  | .ptr d => uptoBulk d + 1
  | .slice elems spare => uptoBulkAll elems + uptoBulkAll spare + 1
  | .agg parts => uptoBulkAll parts + 1
  | .iface _ d => uptoBulk d + 1
  | .map entries => uptoBulkEntries entries + 1
  | .held _ => 1
def uptoBulkAll {H : Type} : List (DataW H) → Nat
  | [] => 0
  | d :: r => uptoBulk d + uptoBulkAll r
def uptoBulkEntries {H : Type} : List (Lit × DataW H) → Nat
  | [] => 0
  | x :: r => uptoBulkEntry x + uptoBulkEntries r
def uptoBulkEntry {H : Type} : Lit × DataW H → Nat
  | (.string bytes, d) => bytes.length + uptoBulk d + 1
  | (_, d) => uptoBulk d + 1
 end
def uptoSmall : (H : Type) → List (DataW H) → Bool := fun _ ds => decide (uptoBulkAll ds ≤ 1048576)
def OpenSpec.upto (s : _root_.Go.ChangeSpec) : _root_.Go.OpenSpec := { _root_.Go.OpenSpec.ofChange s with cond := some uptoSmall }

/-- 'laws.FnLzwGet', WHERE WHAT IT READS IS OF BULK AT MOST 1048576: true; the input reads as it did. -/
def fnLzwGetUptoRow : OpenClaim := { program := "ytjfihmpnbblomaa", sum := "546d0f2d8fe586cae746a732f3a308079cc69bcb2218f6435c0e565bb8d39c29", func := "loop.example/intarsia/laws.FnLzwGet", spec := "fnLzwGet", unfollowed := true, recurses := true, plainKeys := false, apart := false, narrowed := true }
def FnLzwGetUptoSaid : Prop := fnLzwGetUptoRow.holds Try.pinned (OpenSpec.upto fnLzwGetSpec)

/-- 'laws.FnLzw', WHERE WHAT IT READS IS OF BULK AT MOST 1048576: true; the input reads as it did. -/
def fnLzwUptoRow : OpenClaim := { program := "ytjfihmpnbblomaa", sum := "546d0f2d8fe586cae746a732f3a308079cc69bcb2218f6435c0e565bb8d39c29", func := "loop.example/intarsia/laws.FnLzw", spec := "fnLzw", unfollowed := true, recurses := true, plainKeys := false, apart := false, narrowed := true }
def FnLzwUptoSaid : Prop := fnLzwUptoRow.holds Try.pinned (OpenSpec.upto fnLzwSpec)

/-- 'laws.FnLzwCodes', WHERE WHAT IT READS IS OF BULK AT MOST 1048576: true; the input reads as it did. -/
def fnLzwCodesUptoRow : OpenClaim := { program := "ytjfihmpnbblomaa", sum := "546d0f2d8fe586cae746a732f3a308079cc69bcb2218f6435c0e565bb8d39c29", func := "loop.example/intarsia/laws.FnLzwCodes", spec := "fnLzwCodes", unfollowed := true, recurses := true, plainKeys := false, apart := false, narrowed := true }
def FnLzwCodesUptoSaid : Prop := fnLzwCodesUptoRow.holds Try.pinned (OpenSpec.upto fnLzwCodesSpec)

/-- 'laws.FnExactLzwPut', WHERE WHAT IT READS IS OF BULK AT MOST 1048576: true; the input reads as it did. -/
def fnExactLzwPutUptoRow : OpenClaim := { program := "ytjfihmpnbblomaa", sum := "546d0f2d8fe586cae746a732f3a308079cc69bcb2218f6435c0e565bb8d39c29", func := "loop.example/intarsia/laws.FnExactLzwPut", spec := "fnExactLzwPut", unfollowed := true, recurses := true, plainKeys := false, apart := false, narrowed := true }
def FnExactLzwPutUptoSaid : Prop := fnExactLzwPutUptoRow.holds Try.pinned (OpenSpec.upto fnExactLzwPutSpec)

/-- 'laws.FnExactLzwCodes', WHERE WHAT IT READS IS OF BULK AT MOST 1048576: true; the input reads as it did. -/
def fnExactLzwCodesUptoRow : OpenClaim := { program := "ytjfihmpnbblomaa", sum := "546d0f2d8fe586cae746a732f3a308079cc69bcb2218f6435c0e565bb8d39c29", func := "loop.example/intarsia/laws.FnExactLzwCodes", spec := "fnExactLzwCodes", unfollowed := true, recurses := true, plainKeys := false, apart := false, narrowed := true }
def FnExactLzwCodesUptoSaid : Prop := fnExactLzwCodesUptoRow.holds Try.pinned (OpenSpec.upto fnExactLzwCodesSpec)

end Rows
end Go.Proofs.Ytjfihmpnbblomaa
