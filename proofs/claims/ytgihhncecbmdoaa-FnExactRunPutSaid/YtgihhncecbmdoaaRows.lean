/-
  No cell of these rows narrows 'for every input' (looked for: loops, veiled, ifaces, maps, wideKeys, modest, calm, conditions, laid).
  DERIVED. THE GIVEN ROWS OF THIS SEAT. 3 by the template 'for every input the law returns true; each argument reads behind the call as it read before'; 0 by the template 'total and deterministic' (their statements: YtgihhncecbmdoaaTotals.lean).
  GIVEN WITH THE SEED: the statements are not yours to turn. If you find one false, say at which input.
  Laid BY PROGRAM, IN A SANDBOX (cutbox-rows.mjs): the forced cells as the released guide's own fill.sh prints them over the translation 320bf5c46536eed3… (all of the seat's roots in one cut). By AI agents, Wed Nov 11 2026. No macro, syntax, notation, axiom, sorry.
-/
import Derived.Test.YtgihhncecbmdoaaChecked
import GoSem.Claim
import GoSem.ClaimJoined
import GoSem.ClaimMapViews
import Derived.JoinedTies
import Derived.KernelRfl
namespace Go.Proofs.Ytgihhncecbmdoaa
/- THE CELL 'sum', in the pinned program and in every row, IS THE sha256 OF THE DUMP (.gsa) THAT YtgihhncecbmdoaaProg.lean LOADS. Nothing in Lean hashes anything: it is a label: what it is worth is what the hold of that sum in a sandbox is worth. -/
noncomputable def Try.pinned : Pinned := { name := "ytgihhncecbmdoaa", sum := "320bf5c46536eed34a472a407e975a9888cf94a4b76bff6d420a7bd44fe62262", checked := Try.checked }
namespace Rows
def none {H : Type} : Left H := { results := [], args := [] }

/-- 'laws.FnExactPackPut': WHATEVER THE INPUT: true; the input reads as it did. -/
def fnExactPackPutSpec : ChangeSpec := { name := "fnExactPackPut", fn := fun _ => fun
  | [d] => { results := [.lit (.bool true)], args := [d] }
  | _ => none }
def fnExactPackPutRow : OpenClaim := { program := "ytgihhncecbmdoaa", sum := "320bf5c46536eed34a472a407e975a9888cf94a4b76bff6d420a7bd44fe62262", func := "loop.example/intarsia/laws.FnExactPackPut", spec := "fnExactPackPut", unfollowed := true, recurses := true, apart := false }
def FnExactPackPutSaid : Prop := fnExactPackPutRow.holds Try.pinned (OpenSpec.ofChange fnExactPackPutSpec)

/-- ITS FALSE NEIGHBOUR: 'it returns false'. Refute it at one input. -/
def fnExactPackPutWrong : ChangeSpec := { name := "fnExactPackPut", fn := fun _ => fun
  | [d] => { results := [.lit (.bool false)], args := [d] }
  | _ => none }
def FnExactPackPutWrongFalsely : Prop := fnExactPackPutRow.holds Try.pinned (OpenSpec.ofChange fnExactPackPutWrong)

/-- 'laws.FnExactRunPut': WHATEVER THE INPUT: true; the input reads as it did. -/
def fnExactRunPutSpec : ChangeSpec := { name := "fnExactRunPut", fn := fun _ => fun
  | [d1, d2] => { results := [.lit (.bool true)], args := [d1, d2] }
  | _ => none }
def fnExactRunPutRow : OpenClaim := { program := "ytgihhncecbmdoaa", sum := "320bf5c46536eed34a472a407e975a9888cf94a4b76bff6d420a7bd44fe62262", func := "loop.example/intarsia/laws.FnExactRunPut", spec := "fnExactRunPut", unfollowed := true, recurses := true, apart := false }
def FnExactRunPutSaid : Prop := fnExactRunPutRow.holds Try.pinned (OpenSpec.ofChange fnExactRunPutSpec)

/-- ITS FALSE NEIGHBOUR: 'it returns false'. Refute it at one input. -/
def fnExactRunPutWrong : ChangeSpec := { name := "fnExactRunPut", fn := fun _ => fun
  | [d1, d2] => { results := [.lit (.bool false)], args := [d1, d2] }
  | _ => none }
def FnExactRunPutWrongFalsely : Prop := fnExactRunPutRow.holds Try.pinned (OpenSpec.ofChange fnExactRunPutWrong)

/-- 'laws.FnExactRlePut': WHATEVER THE INPUT: true; the input reads as it did. -/
def fnExactRlePutSpec : ChangeSpec := { name := "fnExactRlePut", fn := fun _ => fun
  | [d] => { results := [.lit (.bool true)], args := [d] }
  | _ => none }
def fnExactRlePutRow : OpenClaim := { program := "ytgihhncecbmdoaa", sum := "320bf5c46536eed34a472a407e975a9888cf94a4b76bff6d420a7bd44fe62262", func := "loop.example/intarsia/laws.FnExactRlePut", spec := "fnExactRlePut", unfollowed := true, recurses := true, apart := false }
def FnExactRlePutSaid : Prop := fnExactRlePutRow.holds Try.pinned (OpenSpec.ofChange fnExactRlePutSpec)

/-- ITS FALSE NEIGHBOUR: 'it returns false'. Refute it at one input. -/
def fnExactRlePutWrong : ChangeSpec := { name := "fnExactRlePut", fn := fun _ => fun
  | [d] => { results := [.lit (.bool false)], args := [d] }
  | _ => none }
def FnExactRlePutWrongFalsely : Prop := fnExactRlePutRow.holds Try.pinned (OpenSpec.ofChange fnExactRlePutWrong)

/- THE SECOND FORM. 'bulk': how many values and letters a reading holds, each counted each time it is reached (what is shared counts as often as it is met; a slice's spare places count too). A statement '..UptoSaid' is the law's where the arguments, and the package variables that the reading takes, are together of bulk at most 1048576: NARROWER than '..Said'. Prove '..Said' where nothing that the law and all that it calls make is longer than what came in: it says more and counts as full. Else prove '..UptoSaid'. A law counts once. -/
mutual
def uptoBulk {H : Type} : DataW H → Nat
  | .lit (.string bytes) => bytes.length + 1
  | .lit _ => 1
  | .nil => 1
  | .ptr d => uptoBulk d + 1
  | .slice elems spare => uptoBulkAll elems + uptoBulkAll spare + 1
  | .agg parts => uptoBulkAll parts + 1
  | .iface _ d => uptoBulk d + 1
  | .map entries => uptoBulkEntries entries + 1
  | .held _ => 1
def uptoBulkAll {H : Type} : List (DataW H) → Nat
  | [] => 0
  | d :: r => uptoBulk d + uptoBulkAll r
def uptoBulkEntries {H : Type} : List (Lit × DataW H) → Nat
  | [] => 0
  | x :: r => uptoBulkEntry x + uptoBulkEntries r
def uptoBulkEntry {H : Type} : Lit × DataW H → Nat
  | (.string bytes, d) => bytes.length + uptoBulk d + 1
  | (_, d) => uptoBulk d + 1
 end
def uptoSmall : (H : Type) → List (DataW H) → Bool := fun _ ds => decide (uptoBulkAll ds ≤ 1048576)
def OpenSpec.upto (s : _root_.Go.ChangeSpec) : _root_.Go.OpenSpec := { _root_.Go.OpenSpec.ofChange s with cond := some uptoSmall }

/-- 'laws.FnExactPackPut', WHERE WHAT IT READS IS OF BULK AT MOST 1048576: true; the input reads as it did. -/
def fnExactPackPutUptoRow : OpenClaim := { program := "ytgihhncecbmdoaa", sum := "320bf5c46536eed34a472a407e975a9888cf94a4b76bff6d420a7bd44fe62262", func := "loop.example/intarsia/laws.FnExactPackPut", spec := "fnExactPackPut", unfollowed := true, recurses := true, apart := false, narrowed := true }
def FnExactPackPutUptoSaid : Prop := fnExactPackPutUptoRow.holds Try.pinned (OpenSpec.upto fnExactPackPutSpec)

/-- 'laws.FnExactRunPut', WHERE WHAT IT READS IS OF BULK AT MOST 1048576: true; the input reads as it did. -/
def fnExactRunPutUptoRow : OpenClaim := { program := "ytgihhncecbmdoaa", sum := "320bf5c46536eed34a472a407e975a9888cf94a4b76bff6d420a7bd44fe62262", func := "loop.example/intarsia/laws.FnExactRunPut", spec := "fnExactRunPut", unfollowed := true, recurses := true, apart := false, narrowed := true }
def FnExactRunPutUptoSaid : Prop := fnExactRunPutUptoRow.holds Try.pinned (OpenSpec.upto fnExactRunPutSpec)

/-- 'laws.FnExactRlePut', WHERE WHAT IT READS IS OF BULK AT MOST 1048576: true; the input reads as it did. -/
def fnExactRlePutUptoRow : OpenClaim := { program := "ytgihhncecbmdoaa", sum := "320bf5c46536eed34a472a407e975a9888cf94a4b76bff6d420a7bd44fe62262", func := "loop.example/intarsia/laws.FnExactRlePut", spec := "fnExactRlePut", unfollowed := true, recurses := true, apart := false, narrowed := true }
def FnExactRlePutUptoSaid : Prop := fnExactRlePutUptoRow.holds Try.pinned (OpenSpec.upto fnExactRlePutSpec)

end Rows
end Go.Proofs.Ytgihhncecbmdoaa
