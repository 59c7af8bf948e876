/-
  No cell of these rows narrows 'for every input' (looked for: loops, veiled, ifaces, maps, wideKeys, modest, calm, conditions, laid).
  DERIVED. THE GIVEN ROWS OF THIS SEAT. 6 by the template 'for every input the law returns true; each argument reads behind the call as it read before'; 0 by the template 'total and deterministic' (their statements: YtcolgcddhchkhaaTotals.lean).
  GIVEN WITH THE SEED: the statements are not yours to turn. If you find one false, say at which input.
  Laid BY PROGRAM, IN A SANDBOX (cutbox-rows.mjs): the forced cells as the released guide's own fill.sh prints them over the translation 28a85646dbdd7378… (all of the seat's roots in one cut). By AI agents, Wed Nov 11 2026. No macro, syntax, notation, axiom, sorry.
-/
import Derived.Test.YtcolgcddhchkhaaChecked
import GoSem.Claim
import GoSem.ClaimJoined
import GoSem.ClaimMapViews
import Derived.JoinedTies
import Derived.KernelRfl
namespace Go.Proofs.Ytcolgcddhchkhaa
/- THE CELL 'sum', in the pinned program and in every row, IS THE sha256 OF THE DUMP (.gsa) THAT YtcolgcddhchkhaaProg.lean LOADS. Nothing in Lean hashes anything: it is a label: what it is worth is what the hold of that sum in a sandbox is worth. -/
noncomputable def Try.pinned : Pinned := { name := "ytcolgcddhchkhaa", sum := "28a85646dbdd7378e0dc9ec62f4198c80848b1ddaa07a820d9cb3d1becaf2af8", checked := Try.checked }
namespace Rows
def none {H : Type} : Left H := { results := [], args := [] }

/-- 'laws.FnCodeFit': WHATEVER THE INPUT: true; the input reads as it did. -/
def fnCodeFitSpec : ChangeSpec := { name := "fnCodeFit", fn := fun _ => fun
  | [d] => { results := [.lit (.bool true)], args := [d] }
  | _ => none }
def fnCodeFitRow : OpenClaim := { program := "ytcolgcddhchkhaa", sum := "28a85646dbdd7378e0dc9ec62f4198c80848b1ddaa07a820d9cb3d1becaf2af8", func := "loop.example/intarsia/laws.FnCodeFit", spec := "fnCodeFit", unfollowed := true, recurses := true, plainKeys := false, apart := false }
def FnCodeFitSaid : Prop := fnCodeFitRow.holds Try.pinned (OpenSpec.ofChange fnCodeFitSpec)

/-- ITS FALSE NEIGHBOUR: 'it returns false'. Refute it at one input. -/
def fnCodeFitWrong : ChangeSpec := { name := "fnCodeFit", fn := fun _ => fun
  | [d] => { results := [.lit (.bool false)], args := [d] }
  | _ => none }
def FnCodeFitWrongFalsely : Prop := fnCodeFitRow.holds Try.pinned (OpenSpec.ofChange fnCodeFitWrong)

/-- 'laws.FnCodeBest': WHATEVER THE INPUT: true; the input reads as it did. -/
def fnCodeBestSpec : ChangeSpec := { name := "fnCodeBest", fn := fun _ => fun
  | [d1, d2] => { results := [.lit (.bool true)], args := [d1, d2] }
  | _ => none }
def fnCodeBestRow : OpenClaim := { program := "ytcolgcddhchkhaa", sum := "28a85646dbdd7378e0dc9ec62f4198c80848b1ddaa07a820d9cb3d1becaf2af8", func := "loop.example/intarsia/laws.FnCodeBest", spec := "fnCodeBest", unfollowed := true, recurses := true, plainKeys := false, apart := false }
def FnCodeBestSaid : Prop := fnCodeBestRow.holds Try.pinned (OpenSpec.ofChange fnCodeBestSpec)

/-- ITS FALSE NEIGHBOUR: 'it returns false'. Refute it at one input. -/
def fnCodeBestWrong : ChangeSpec := { name := "fnCodeBest", fn := fun _ => fun
  | [d1, d2] => { results := [.lit (.bool false)], args := [d1, d2] }
  | _ => none }
def FnCodeBestWrongFalsely : Prop := fnCodeBestRow.holds Try.pinned (OpenSpec.ofChange fnCodeBestWrong)

/-- 'laws.FnTokens': WHATEVER THE INPUT: true; the input reads as it did. -/
def fnTokensSpec : ChangeSpec := { name := "fnTokens", fn := fun _ => fun
  | [d] => { results := [.lit (.bool true)], args := [d] }
  | _ => none }
def fnTokensRow : OpenClaim := { program := "ytcolgcddhchkhaa", sum := "28a85646dbdd7378e0dc9ec62f4198c80848b1ddaa07a820d9cb3d1becaf2af8", func := "loop.example/intarsia/laws.FnTokens", spec := "fnTokens", unfollowed := true, recurses := true, plainKeys := false, apart := false }
def FnTokensSaid : Prop := fnTokensRow.holds Try.pinned (OpenSpec.ofChange fnTokensSpec)

/-- ITS FALSE NEIGHBOUR: 'it returns false'. Refute it at one input. -/
def fnTokensWrong : ChangeSpec := { name := "fnTokens", fn := fun _ => fun
  | [d] => { results := [.lit (.bool false)], args := [d] }
  | _ => none }
def FnTokensWrongFalsely : Prop := fnTokensRow.holds Try.pinned (OpenSpec.ofChange fnTokensWrong)

/-- 'laws.FnExactBmpPut': WHATEVER THE INPUT: true; the input reads as it did. -/
def fnExactBmpPutSpec : ChangeSpec := { name := "fnExactBmpPut", fn := fun _ => fun
  | [d1, d2] => { results := [.lit (.bool true)], args := [d1, d2] }
  | _ => none }
def fnExactBmpPutRow : OpenClaim := { program := "ytcolgcddhchkhaa", sum := "28a85646dbdd7378e0dc9ec62f4198c80848b1ddaa07a820d9cb3d1becaf2af8", func := "loop.example/intarsia/laws.FnExactBmpPut", spec := "fnExactBmpPut", unfollowed := true, recurses := true, plainKeys := false, apart := false }
def FnExactBmpPutSaid : Prop := fnExactBmpPutRow.holds Try.pinned (OpenSpec.ofChange fnExactBmpPutSpec)

/-- ITS FALSE NEIGHBOUR: 'it returns false'. Refute it at one input. -/
def fnExactBmpPutWrong : ChangeSpec := { name := "fnExactBmpPut", fn := fun _ => fun
  | [d1, d2] => { results := [.lit (.bool false)], args := [d1, d2] }
  | _ => none }
def FnExactBmpPutWrongFalsely : Prop := fnExactBmpPutRow.holds Try.pinned (OpenSpec.ofChange fnExactBmpPutWrong)

/-- 'laws.FnExactCodeFit': WHATEVER THE INPUT: true; the input reads as it did. -/
def fnExactCodeFitSpec : ChangeSpec := { name := "fnExactCodeFit", fn := fun _ => fun
  | [d1, d2] => { results := [.lit (.bool true)], args := [d1, d2] }
  | _ => none }
def fnExactCodeFitRow : OpenClaim := { program := "ytcolgcddhchkhaa", sum := "28a85646dbdd7378e0dc9ec62f4198c80848b1ddaa07a820d9cb3d1becaf2af8", func := "loop.example/intarsia/laws.FnExactCodeFit", spec := "fnExactCodeFit", unfollowed := true, recurses := true, plainKeys := false, apart := false }
def FnExactCodeFitSaid : Prop := fnExactCodeFitRow.holds Try.pinned (OpenSpec.ofChange fnExactCodeFitSpec)

/-- ITS FALSE NEIGHBOUR: 'it returns false'. Refute it at one input. -/
def fnExactCodeFitWrong : ChangeSpec := { name := "fnExactCodeFit", fn := fun _ => fun
  | [d1, d2] => { results := [.lit (.bool false)], args := [d1, d2] }
  | _ => none }
def FnExactCodeFitWrongFalsely : Prop := fnExactCodeFitRow.holds Try.pinned (OpenSpec.ofChange fnExactCodeFitWrong)

/-- 'laws.FnExactTokensOf': WHATEVER THE INPUT: true; the input reads as it did. -/
def fnExactTokensOfSpec : ChangeSpec := { name := "fnExactTokensOf", fn := fun _ => fun
  | [d] => { results := [.lit (.bool true)], args := [d] }
  | _ => none }
def fnExactTokensOfRow : OpenClaim := { program := "ytcolgcddhchkhaa", sum := "28a85646dbdd7378e0dc9ec62f4198c80848b1ddaa07a820d9cb3d1becaf2af8", func := "loop.example/intarsia/laws.FnExactTokensOf", spec := "fnExactTokensOf", unfollowed := true, recurses := true, plainKeys := false, apart := false }
def FnExactTokensOfSaid : Prop := fnExactTokensOfRow.holds Try.pinned (OpenSpec.ofChange fnExactTokensOfSpec)

/-- ITS FALSE NEIGHBOUR: 'it returns false'. Refute it at one input. -/
def fnExactTokensOfWrong : ChangeSpec := { name := "fnExactTokensOf", fn := fun _ => fun
  | [d] => { results := [.lit (.bool false)], args := [d] }
  | _ => none }
def FnExactTokensOfWrongFalsely : Prop := fnExactTokensOfRow.holds Try.pinned (OpenSpec.ofChange fnExactTokensOfWrong)

/- THE SECOND FORM. 'bulk': how many values and letters a reading holds, each counted each time it is reached (what is shared counts as often as it is met; a slice's spare places count too). A statement '..UptoSaid' is the law's where the arguments, and the package variables that the reading takes, are together of bulk at most 1048576: NARROWER than '..Said'. Prove '..Said' where nothing that the law and all that it calls make is longer than what came in: it says more and counts as full. Else prove '..UptoSaid'. A law counts once. -/
mutual
def uptoBulk {H : Type} : DataW H → Nat
  | .lit (.string bytes) => bytes.length + 1
  | .lit _ => 1
  | .nil => 1
  | .ptr d => uptoBulk d + 1
  | .slice elems spare => uptoBulkAll elems + uptoBulkAll spare + 1
  | .agg parts => uptoBulkAll parts + 1
  | .iface _ d => uptoBulk d + 1
  | .map entries => uptoBulkEntries entries + 1
  | .held _ => 1
def uptoBulkAll {H : Type} : List (DataW H) → Nat
  | [] => 0
  | d :: r => uptoBulk d + uptoBulkAll r
def uptoBulkEntries {H : Type} : List (Lit × DataW H) → Nat
  | [] => 0
  | x :: r => uptoBulkEntry x + uptoBulkEntries r
def uptoBulkEntry {H : Type} : Lit × DataW H → Nat
  | (.string bytes, d) => bytes.length + uptoBulk d + 1
  | (_, d) => uptoBulk d + 1
 end
def uptoSmall : (H : Type) → List (DataW H) → Bool := fun _ ds => decide (uptoBulkAll ds ≤ 1048576)
def OpenSpec.upto (s : _root_.Go.ChangeSpec) : _root_.Go.OpenSpec := { _root_.Go.OpenSpec.ofChange s with cond := some uptoSmall }

/-- 'laws.FnCodeFit', WHERE WHAT IT READS IS OF BULK AT MOST 1048576: true; the input reads as it did. -/
def fnCodeFitUptoRow : OpenClaim := { program := "ytcolgcddhchkhaa", sum := "28a85646dbdd7378e0dc9ec62f4198c80848b1ddaa07a820d9cb3d1becaf2af8", func := "loop.example/intarsia/laws.FnCodeFit", spec := "fnCodeFit", unfollowed := true, recurses := true, plainKeys := false, apart := false, narrowed := true }
def FnCodeFitUptoSaid : Prop := fnCodeFitUptoRow.holds Try.pinned (OpenSpec.upto fnCodeFitSpec)

/-- 'laws.FnCodeBest', WHERE WHAT IT READS IS OF BULK AT MOST 1048576: true; the input reads as it did. -/
def fnCodeBestUptoRow : OpenClaim := { program := "ytcolgcddhchkhaa", sum := "28a85646dbdd7378e0dc9ec62f4198c80848b1ddaa07a820d9cb3d1becaf2af8", func := "loop.example/intarsia/laws.FnCodeBest", spec := "fnCodeBest", unfollowed := true, recurses := true, plainKeys := false, apart := false, narrowed := true }
def FnCodeBestUptoSaid : Prop := fnCodeBestUptoRow.holds Try.pinned (OpenSpec.upto fnCodeBestSpec)

/-- 'laws.FnTokens', WHERE WHAT IT READS IS OF BULK AT MOST 1048576: true; the input reads as it did. -/
def fnTokensUptoRow : OpenClaim := { program := "ytcolgcddhchkhaa", sum := "28a85646dbdd7378e0dc9ec62f4198c80848b1ddaa07a820d9cb3d1becaf2af8", func := "loop.example/intarsia/laws.FnTokens", spec := "fnTokens", unfollowed := true, recurses := true, plainKeys := false, apart := false, narrowed := true }
def FnTokensUptoSaid : Prop := fnTokensUptoRow.holds Try.pinned (OpenSpec.upto fnTokensSpec)

/-- 'laws.FnExactBmpPut', WHERE WHAT IT READS IS OF BULK AT MOST 1048576: true; the input reads as it did. -/
def fnExactBmpPutUptoRow : OpenClaim := { program := "ytcolgcddhchkhaa", sum := "28a85646dbdd7378e0dc9ec62f4198c80848b1ddaa07a820d9cb3d1becaf2af8", func := "loop.example/intarsia/laws.FnExactBmpPut", spec := "fnExactBmpPut", unfollowed := true, recurses := true, plainKeys := false, apart := false, narrowed := true }
def FnExactBmpPutUptoSaid : Prop := fnExactBmpPutUptoRow.holds Try.pinned (OpenSpec.upto fnExactBmpPutSpec)

/-- 'laws.FnExactCodeFit', WHERE WHAT IT READS IS OF BULK AT MOST 1048576: true; the input reads as it did. -/
def fnExactCodeFitUptoRow : OpenClaim := { program := "ytcolgcddhchkhaa", sum := "28a85646dbdd7378e0dc9ec62f4198c80848b1ddaa07a820d9cb3d1becaf2af8", func := "loop.example/intarsia/laws.FnExactCodeFit", spec := "fnExactCodeFit", unfollowed := true, recurses := true, plainKeys := false, apart := false, narrowed := true }
def FnExactCodeFitUptoSaid : Prop := fnExactCodeFitUptoRow.holds Try.pinned (OpenSpec.upto fnExactCodeFitSpec)

/-- 'laws.FnExactTokensOf', WHERE WHAT IT READS IS OF BULK AT MOST 1048576: true; the input reads as it did. -/
def fnExactTokensOfUptoRow : OpenClaim := { program := "ytcolgcddhchkhaa", sum := "28a85646dbdd7378e0dc9ec62f4198c80848b1ddaa07a820d9cb3d1becaf2af8", func := "loop.example/intarsia/laws.FnExactTokensOf", spec := "fnExactTokensOf", unfollowed := true, recurses := true, plainKeys := false, apart := false, narrowed := true }
def FnExactTokensOfUptoSaid : Prop := fnExactTokensOfUptoRow.holds Try.pinned (OpenSpec.upto fnExactTokensOfSpec)

end Rows
end Go.Proofs.Ytcolgcddhchkhaa
