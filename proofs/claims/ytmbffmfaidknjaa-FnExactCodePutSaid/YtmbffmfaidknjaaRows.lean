/-
  No cell of these rows narrows 'for every input' (looked for: loops, veiled, ifaces, maps, wideKeys, modest, calm, conditions, laid).
  DERIVED. THE GIVEN ROWS OF THIS SEAT. 5 by the template 'for every input the law returns true; each argument reads behind the call as it read before'; 0 by the template 'total and deterministic' (their statements: YtmbffmfaidknjaaTotals.lean).
  GIVEN WITH THE SEED: the statements are not yours to turn. If you find one false, say at which input.
  Laid BY PROGRAM, IN A SANDBOX (cutbox-rows.mjs): the forced cells as the released guide's own fill.sh prints them over the translation 7084c59d65f6285f… (all of the seat's roots in one cut). By AI agents, Wed Nov 11 2026. No macro, syntax, notation, axiom, sorry.
-/
import Derived.Test.YtmbffmfaidknjaaChecked
import GoSem.Claim
import GoSem.ClaimJoined
import GoSem.ClaimMapViews
import Derived.JoinedTies
import Derived.KernelRfl
namespace Go.Proofs.Ytmbffmfaidknjaa
/- THE CELL 'sum', in the pinned program and in every row, IS THE sha256 OF THE DUMP (.gsa) THAT YtmbffmfaidknjaaProg.lean LOADS. Nothing in Lean hashes anything: it is a label: what it is worth is what the hold of that sum in a sandbox is worth. -/
noncomputable def Try.pinned : Pinned := { name := "ytmbffmfaidknjaa", sum := "7084c59d65f6285ff88089bd9418763b5c1499b38cb16b5367c9b388764140fe", checked := Try.checked }
namespace Rows
def none {H : Type} : Left H := { results := [], args := [] }

/-- 'laws.FnExactCodePut': WHATEVER THE INPUT: true; the input reads as it did. -/
def fnExactCodePutSpec : ChangeSpec := { name := "fnExactCodePut", fn := fun _ => fun
  | [d1, d2] => { results := [.lit (.bool true)], args := [d1, d2] }
  | _ => none }
def fnExactCodePutRow : OpenClaim := { program := "ytmbffmfaidknjaa", sum := "7084c59d65f6285ff88089bd9418763b5c1499b38cb16b5367c9b388764140fe", func := "loop.example/intarsia/laws.FnExactCodePut", spec := "fnExactCodePut", apart := false }
def FnExactCodePutSaid : Prop := fnExactCodePutRow.holds Try.pinned (OpenSpec.ofChange fnExactCodePutSpec)

/-- ITS FALSE NEIGHBOUR: 'it returns false'. Refute it at one input. -/
def fnExactCodePutWrong : ChangeSpec := { name := "fnExactCodePut", fn := fun _ => fun
  | [d1, d2] => { results := [.lit (.bool false)], args := [d1, d2] }
  | _ => none }
def FnExactCodePutWrongFalsely : Prop := fnExactCodePutRow.holds Try.pinned (OpenSpec.ofChange fnExactCodePutWrong)

/-- 'laws.FnExactTokensOut': WHATEVER THE INPUT: true; the input reads as it did. -/
def fnExactTokensOutSpec : ChangeSpec := { name := "fnExactTokensOut", fn := fun _ => fun
  | [d] => { results := [.lit (.bool true)], args := [d] }
  | _ => none }
def fnExactTokensOutRow : OpenClaim := { program := "ytmbffmfaidknjaa", sum := "7084c59d65f6285ff88089bd9418763b5c1499b38cb16b5367c9b388764140fe", func := "loop.example/intarsia/laws.FnExactTokensOut", spec := "fnExactTokensOut", unfollowed := true, recurses := true, apart := false }
def FnExactTokensOutSaid : Prop := fnExactTokensOutRow.holds Try.pinned (OpenSpec.ofChange fnExactTokensOutSpec)

/-- ITS FALSE NEIGHBOUR: 'it returns false'. Refute it at one input. -/
def fnExactTokensOutWrong : ChangeSpec := { name := "fnExactTokensOut", fn := fun _ => fun
  | [d] => { results := [.lit (.bool false)], args := [d] }
  | _ => none }
def FnExactTokensOutWrongFalsely : Prop := fnExactTokensOutRow.holds Try.pinned (OpenSpec.ofChange fnExactTokensOutWrong)

/-- 'laws.FnExactPackPut': WHATEVER THE INPUT: true; the input reads as it did. -/
def fnExactPackPutSpec : ChangeSpec := { name := "fnExactPackPut", fn := fun _ => fun
  | [d] => { results := [.lit (.bool true)], args := [d] }
  | _ => none }
def fnExactPackPutRow : OpenClaim := { program := "ytmbffmfaidknjaa", sum := "7084c59d65f6285ff88089bd9418763b5c1499b38cb16b5367c9b388764140fe", func := "loop.example/intarsia/laws.FnExactPackPut", spec := "fnExactPackPut", unfollowed := true, recurses := true, apart := false }
def FnExactPackPutSaid : Prop := fnExactPackPutRow.holds Try.pinned (OpenSpec.ofChange fnExactPackPutSpec)

/-- ITS FALSE NEIGHBOUR: 'it returns false'. Refute it at one input. -/
def fnExactPackPutWrong : ChangeSpec := { name := "fnExactPackPut", fn := fun _ => fun
  | [d] => { results := [.lit (.bool false)], args := [d] }
  | _ => none }
def FnExactPackPutWrongFalsely : Prop := fnExactPackPutRow.holds Try.pinned (OpenSpec.ofChange fnExactPackPutWrong)

/-- 'laws.FnExactRunPut': WHATEVER THE INPUT: true; the input reads as it did. -/
def fnExactRunPutSpec : ChangeSpec := { name := "fnExactRunPut", fn := fun _ => fun
  | [d1, d2] => { results := [.lit (.bool true)], args := [d1, d2] }
  | _ => none }
def fnExactRunPutRow : OpenClaim := { program := "ytmbffmfaidknjaa", sum := "7084c59d65f6285ff88089bd9418763b5c1499b38cb16b5367c9b388764140fe", func := "loop.example/intarsia/laws.FnExactRunPut", spec := "fnExactRunPut", unfollowed := true, recurses := true, apart := false }
def FnExactRunPutSaid : Prop := fnExactRunPutRow.holds Try.pinned (OpenSpec.ofChange fnExactRunPutSpec)

/-- ITS FALSE NEIGHBOUR: 'it returns false'. Refute it at one input. -/
def fnExactRunPutWrong : ChangeSpec := { name := "fnExactRunPut", fn := fun _ => fun
  | [d1, d2] => { results := [.lit (.bool false)], args := [d1, d2] }
  | _ => none }
def FnExactRunPutWrongFalsely : Prop := fnExactRunPutRow.holds Try.pinned (OpenSpec.ofChange fnExactRunPutWrong)

/-- 'laws.FnExactRlePut': WHATEVER THE INPUT: true; the input reads as it did. -/
def fnExactRlePutSpec : ChangeSpec := { name := "fnExactRlePut", fn := fun _ => fun
  | [d] => { results := [.lit (.bool true)], args := [d] }
  | _ => none }
def fnExactRlePutRow : OpenClaim := { program := "ytmbffmfaidknjaa", sum := "7084c59d65f6285ff88089bd9418763b5c1499b38cb16b5367c9b388764140fe", func := "loop.example/intarsia/laws.FnExactRlePut", spec := "fnExactRlePut", unfollowed := true, recurses := true, apart := false }
def FnExactRlePutSaid : Prop := fnExactRlePutRow.holds Try.pinned (OpenSpec.ofChange fnExactRlePutSpec)

/-- ITS FALSE NEIGHBOUR: 'it returns false'. Refute it at one input. -/
def fnExactRlePutWrong : ChangeSpec := { name := "fnExactRlePut", fn := fun _ => fun
  | [d] => { results := [.lit (.bool false)], args := [d] }
  | _ => none }
def FnExactRlePutWrongFalsely : Prop := fnExactRlePutRow.holds Try.pinned (OpenSpec.ofChange fnExactRlePutWrong)

/- THE SECOND FORM. 'bulk': how many values and letters a reading holds, each counted each time it is reached (what is shared counts as often as it is met; a slice's spare places count too). A statement '..UptoSaid' is the law's where the arguments, and the package variables that the reading takes, are together of bulk at most 1048576: NARROWER than '..Said'. Prove '..Said' where nothing that the law and all that it calls make is longer than what came in: it says more and counts as full. Else prove '..UptoSaid'. A law counts once. -/
mutual
def uptoBulk {H : Type} : DataW H → Nat
  | .lit (.string bytes) => bytes.length + 1
  | .lit _ => 1
  | .nil => 1
  | .ptr d => uptoBulk d + 1
  | .slice elems spare => uptoBulkAll elems + uptoBulkAll spare + 1
  | .agg parts => uptoBulkAll parts + 1
  | .iface _ d => uptoBulk d + 1
  | .map entries => uptoBulkEntries entries + 1
  | .held _ => 1
def uptoBulkAll {H : Type} : List (DataW H) → Nat
  | [] => 0
  | d :: r => uptoBulk d + uptoBulkAll r
def uptoBulkEntries {H : Type} : List (Lit × DataW H) → Nat
  | [] => 0
  | x :: r => uptoBulkEntry x + uptoBulkEntries r
def uptoBulkEntry {H : Type} : Lit × DataW H → Nat
  | (.string bytes, d) => bytes.length + uptoBulk d + 1
  | (_, d) => uptoBulk d + 1
 end
def uptoSmall : (H : Type) → List (DataW H) → Bool := fun _ ds => decide (uptoBulkAll ds ≤ 1048576)
def OpenSpec.upto (s : _root_.Go.ChangeSpec) : _root_.Go.OpenSpec := { _root_.Go.OpenSpec.ofChange s with cond := some uptoSmall }

/-- 'laws.FnExactCodePut', WHERE WHAT IT READS IS OF BULK AT MOST 1048576: true; the input reads as it did. -/
def fnExactCodePutUptoRow : OpenClaim := { program := "ytmbffmfaidknjaa", sum := "7084c59d65f6285ff88089bd9418763b5c1499b38cb16b5367c9b388764140fe", func := "loop.example/intarsia/laws.FnExactCodePut", spec := "fnExactCodePut", apart := false, narrowed := true }
def FnExactCodePutUptoSaid : Prop := fnExactCodePutUptoRow.holds Try.pinned (OpenSpec.upto fnExactCodePutSpec)

/-- 'laws.FnExactTokensOut', WHERE WHAT IT READS IS OF BULK AT MOST 1048576: true; the input reads as it did. -/
def fnExactTokensOutUptoRow : OpenClaim := { program := "ytmbffmfaidknjaa", sum := "7084c59d65f6285ff88089bd9418763b5c1499b38cb16b5367c9b388764140fe", func := "loop.example/intarsia/laws.FnExactTokensOut", spec := "fnExactTokensOut", unfollowed := true, recurses := true, apart := false, narrowed := true }
def FnExactTokensOutUptoSaid : Prop := fnExactTokensOutUptoRow.holds Try.pinned (OpenSpec.upto fnExactTokensOutSpec)

/-- 'laws.FnExactPackPut', WHERE WHAT IT READS IS OF BULK AT MOST 1048576: true; the input reads as it did. -/
def fnExactPackPutUptoRow : OpenClaim := { program := "ytmbffmfaidknjaa", sum := "7084c59d65f6285ff88089bd9418763b5c1499b38cb16b5367c9b388764140fe", func := "loop.example/intarsia/laws.FnExactPackPut", spec := "fnExactPackPut", unfollowed := true, recurses := true, apart := false, narrowed := true }
def FnExactPackPutUptoSaid : Prop := fnExactPackPutUptoRow.holds Try.pinned (OpenSpec.upto fnExactPackPutSpec)

/-- 'laws.FnExactRunPut', WHERE WHAT IT READS IS OF BULK AT MOST 1048576: true; the input reads as it did. -/
def fnExactRunPutUptoRow : OpenClaim := { program := "ytmbffmfaidknjaa", sum := "7084c59d65f6285ff88089bd9418763b5c1499b38cb16b5367c9b388764140fe", func := "loop.example/intarsia/laws.FnExactRunPut", spec := "fnExactRunPut", unfollowed := true, recurses := true, apart := false, narrowed := true }
def FnExactRunPutUptoSaid : Prop := fnExactRunPutUptoRow.holds Try.pinned (OpenSpec.upto fnExactRunPutSpec)

/-- 'laws.FnExactRlePut', WHERE WHAT IT READS IS OF BULK AT MOST 1048576: true; the input reads as it did. -/
def fnExactRlePutUptoRow : OpenClaim := { program := "ytmbffmfaidknjaa", sum := "7084c59d65f6285ff88089bd9418763b5c1499b38cb16b5367c9b388764140fe", func := "loop.example/intarsia/laws.FnExactRlePut", spec := "fnExactRlePut", unfollowed := true, recurses := true, apart := false, narrowed := true }
def FnExactRlePutUptoSaid : Prop := fnExactRlePutUptoRow.holds Try.pinned (OpenSpec.upto fnExactRlePutSpec)

end Rows
end Go.Proofs.Ytmbffmfaidknjaa
