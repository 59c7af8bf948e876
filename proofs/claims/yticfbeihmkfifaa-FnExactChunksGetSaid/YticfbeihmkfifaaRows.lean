/-
  No cell of these rows narrows 'for every input' (looked for: loops, veiled, ifaces, maps, wideKeys, modest, calm, conditions, laid).
  DERIVED. THE GIVEN ROWS OF THIS SEAT. 6 by the template 'for every input the law returns true; each argument reads behind the call as it read before'; 0 by the template 'total and deterministic' (their statements: YticfbeihmkfifaaTotals.lean).
  GIVEN WITH THE SEED: the statements are not yours to turn. If you find one false, say at which input.
  Laid BY PROGRAM, IN A SANDBOX (cutbox-rows.mjs): the forced cells as the released guide's own fill.sh prints them over the translation ede13b3e6720bcb5… (all of the seat's roots in one cut). By AI agents, Wed Nov 11 2026. No macro, syntax, notation, axiom, sorry.
-/
import Derived.Test.YticfbeihmkfifaaChecked
import GoSem.Claim
import GoSem.ClaimJoined
import GoSem.ClaimMapViews
import Derived.JoinedTies
import Derived.KernelRfl
namespace Go.Proofs.Yticfbeihmkfifaa
/- THE CELL 'sum', in the pinned program and in every row, IS THE sha256 OF THE DUMP (.gsa) THAT YticfbeihmkfifaaProg.lean LOADS. Nothing in Lean hashes anything: it is a label: what it is worth is what the hold of that sum in a sandbox is worth. -/
noncomputable def Try.pinned : Pinned := { name := "yticfbeihmkfifaa", sum := "ede13b3e6720bcb5f7f2ffe8da00ce9c00acbab3092b7af89ef544a72bb3c931", checked := Try.checked }
namespace Rows
def none {H : Type} : Left H := { results := [], args := [] }

/-- 'laws.FnExactTokensOut': WHATEVER THE INPUT: true; the input reads as it did. -/
def fnExactTokensOutSpec : ChangeSpec := { name := "fnExactTokensOut", fn := fun _ => fun
  | [d] => { results := [.lit (.bool true)], args := [d] }
  | _ => none }
def fnExactTokensOutRow : OpenClaim := { program := "yticfbeihmkfifaa", sum := "ede13b3e6720bcb5f7f2ffe8da00ce9c00acbab3092b7af89ef544a72bb3c931", func := "loop.example/intarsia/laws.FnExactTokensOut", spec := "fnExactTokensOut", unfollowed := true, recurses := true, apart := false }
def FnExactTokensOutSaid : Prop := fnExactTokensOutRow.holds Try.pinned (OpenSpec.ofChange fnExactTokensOutSpec)

/-- ITS FALSE NEIGHBOUR: 'it returns false'. Refute it at one input. -/
def fnExactTokensOutWrong : ChangeSpec := { name := "fnExactTokensOut", fn := fun _ => fun
  | [d] => { results := [.lit (.bool false)], args := [d] }
  | _ => none }
def FnExactTokensOutWrongFalsely : Prop := fnExactTokensOutRow.holds Try.pinned (OpenSpec.ofChange fnExactTokensOutWrong)

/-- 'laws.FnExactRunGet': WHATEVER THE INPUT: true; the input reads as it did. -/
def fnExactRunGetSpec : ChangeSpec := { name := "fnExactRunGet", fn := fun _ => fun
  | [d1, d2, d3, d4] => { results := [.lit (.bool true)], args := [d1, d2, d3, d4] }
  | _ => none }
def fnExactRunGetRow : OpenClaim := { program := "yticfbeihmkfifaa", sum := "ede13b3e6720bcb5f7f2ffe8da00ce9c00acbab3092b7af89ef544a72bb3c931", func := "loop.example/intarsia/laws.FnExactRunGet", spec := "fnExactRunGet", unfollowed := true, recurses := true, apart := false }
def FnExactRunGetSaid : Prop := fnExactRunGetRow.holds Try.pinned (OpenSpec.ofChange fnExactRunGetSpec)

/-- ITS FALSE NEIGHBOUR: 'it returns false'. Refute it at one input. -/
def fnExactRunGetWrong : ChangeSpec := { name := "fnExactRunGet", fn := fun _ => fun
  | [d1, d2, d3, d4] => { results := [.lit (.bool false)], args := [d1, d2, d3, d4] }
  | _ => none }
def FnExactRunGetWrongFalsely : Prop := fnExactRunGetRow.holds Try.pinned (OpenSpec.ofChange fnExactRunGetWrong)

/-- 'laws.FnExactRlePut': WHATEVER THE INPUT: true; the input reads as it did. -/
def fnExactRlePutSpec : ChangeSpec := { name := "fnExactRlePut", fn := fun _ => fun
  | [d] => { results := [.lit (.bool true)], args := [d] }
  | _ => none }
def fnExactRlePutRow : OpenClaim := { program := "yticfbeihmkfifaa", sum := "ede13b3e6720bcb5f7f2ffe8da00ce9c00acbab3092b7af89ef544a72bb3c931", func := "loop.example/intarsia/laws.FnExactRlePut", spec := "fnExactRlePut", unfollowed := true, recurses := true, apart := false }
def FnExactRlePutSaid : Prop := fnExactRlePutRow.holds Try.pinned (OpenSpec.ofChange fnExactRlePutSpec)

/-- ITS FALSE NEIGHBOUR: 'it returns false'. Refute it at one input. -/
def fnExactRlePutWrong : ChangeSpec := { name := "fnExactRlePut", fn := fun _ => fun
  | [d] => { results := [.lit (.bool false)], args := [d] }
  | _ => none }
def FnExactRlePutWrongFalsely : Prop := fnExactRlePutRow.holds Try.pinned (OpenSpec.ofChange fnExactRlePutWrong)

/-- 'laws.FnExactRleGet': WHATEVER THE INPUT: true; the input reads as it did. -/
def fnExactRleGetSpec : ChangeSpec := { name := "fnExactRleGet", fn := fun _ => fun
  | [d1, d2, d3] => { results := [.lit (.bool true)], args := [d1, d2, d3] }
  | _ => none }
def fnExactRleGetRow : OpenClaim := { program := "yticfbeihmkfifaa", sum := "ede13b3e6720bcb5f7f2ffe8da00ce9c00acbab3092b7af89ef544a72bb3c931", func := "loop.example/intarsia/laws.FnExactRleGet", spec := "fnExactRleGet", unfollowed := true, recurses := true, apart := false }
def FnExactRleGetSaid : Prop := fnExactRleGetRow.holds Try.pinned (OpenSpec.ofChange fnExactRleGetSpec)

/-- ITS FALSE NEIGHBOUR: 'it returns false'. Refute it at one input. -/
def fnExactRleGetWrong : ChangeSpec := { name := "fnExactRleGet", fn := fun _ => fun
  | [d1, d2, d3] => { results := [.lit (.bool false)], args := [d1, d2, d3] }
  | _ => none }
def FnExactRleGetWrongFalsely : Prop := fnExactRleGetRow.holds Try.pinned (OpenSpec.ofChange fnExactRleGetWrong)

/-- 'laws.FnExactChunksPut': WHATEVER THE INPUT: true; the input reads as it did. -/
def fnExactChunksPutSpec : ChangeSpec := { name := "fnExactChunksPut", fn := fun _ => fun
  | [d] => { results := [.lit (.bool true)], args := [d] }
  | _ => none }
def fnExactChunksPutRow : OpenClaim := { program := "yticfbeihmkfifaa", sum := "ede13b3e6720bcb5f7f2ffe8da00ce9c00acbab3092b7af89ef544a72bb3c931", func := "loop.example/intarsia/laws.FnExactChunksPut", spec := "fnExactChunksPut", unfollowed := true, recurses := true, apart := false }
def FnExactChunksPutSaid : Prop := fnExactChunksPutRow.holds Try.pinned (OpenSpec.ofChange fnExactChunksPutSpec)

/-- ITS FALSE NEIGHBOUR: 'it returns false'. Refute it at one input. -/
def fnExactChunksPutWrong : ChangeSpec := { name := "fnExactChunksPut", fn := fun _ => fun
  | [d] => { results := [.lit (.bool false)], args := [d] }
  | _ => none }
def FnExactChunksPutWrongFalsely : Prop := fnExactChunksPutRow.holds Try.pinned (OpenSpec.ofChange fnExactChunksPutWrong)

/-- 'laws.FnExactChunksGet': WHATEVER THE INPUT: true; the input reads as it did. -/
def fnExactChunksGetSpec : ChangeSpec := { name := "fnExactChunksGet", fn := fun _ => fun
  | [d] => { results := [.lit (.bool true)], args := [d] }
  | _ => none }
def fnExactChunksGetRow : OpenClaim := { program := "yticfbeihmkfifaa", sum := "ede13b3e6720bcb5f7f2ffe8da00ce9c00acbab3092b7af89ef544a72bb3c931", func := "loop.example/intarsia/laws.FnExactChunksGet", spec := "fnExactChunksGet", unfollowed := true, recurses := true, apart := false }
def FnExactChunksGetSaid : Prop := fnExactChunksGetRow.holds Try.pinned (OpenSpec.ofChange fnExactChunksGetSpec)

/-- ITS FALSE NEIGHBOUR: 'it returns false'. Refute it at one input. -/
def fnExactChunksGetWrong : ChangeSpec := { name := "fnExactChunksGet", fn := fun _ => fun
  | [d] => { results := [.lit (.bool false)], args := [d] }
  | _ => none }
def FnExactChunksGetWrongFalsely : Prop := fnExactChunksGetRow.holds Try.pinned (OpenSpec.ofChange fnExactChunksGetWrong)

/- THE SECOND FORM. 'bulk': how many values and letters a reading holds, each counted each time it is reached (what is shared counts as often as it is met; a slice's spare places count too). A statement '..UptoSaid' is the law's where the arguments, and the package variables that the reading takes, are together of bulk at most 1048576: NARROWER than '..Said'. Prove '..Said' where nothing that the law and all that it calls make is longer than what came in: it says more and counts as full. Else prove '..UptoSaid'. A law counts once. -/
mutual
def uptoBulk {H : Type} : DataW H → Nat
  | .lit (.string bytes) => bytes.length + 1
  | .lit _ => 1
  | .nil => 1
  | .ptr d => uptoBulk d + 1
  | .slice elems spare => uptoBulkAll elems + uptoBulkAll spare + 1
  | .agg parts => uptoBulkAll parts + 1
  | .iface _ d => uptoBulk d + 1
  | .map entries => uptoBulkEntries entries + 1
  | .held _ => 1
def uptoBulkAll {H : Type} : List (DataW H) → Nat
  | [] => 0
  | d :: r => uptoBulk d + uptoBulkAll r
def uptoBulkEntries {H : Type} : List (Lit × DataW H) → Nat
  | [] => 0
  | x :: r => uptoBulkEntry x + uptoBulkEntries r
def uptoBulkEntry {H : Type} : Lit × DataW H → Nat
  | (.string bytes, d) => bytes.length + uptoBulk d + 1
  | (_, d) => uptoBulk d + 1
 end
def uptoSmall : (H : Type) → List (DataW H) → Bool := fun _ ds => decide (uptoBulkAll ds ≤ 1048576)
def OpenSpec.upto (s : _root_.Go.ChangeSpec) : _root_.Go.OpenSpec := { _root_.Go.OpenSpec.ofChange s with cond := some uptoSmall }

/-- 'laws.FnExactTokensOut', WHERE WHAT IT READS IS OF BULK AT MOST 1048576: true; the input reads as it did. -/
def fnExactTokensOutUptoRow : OpenClaim := { program := "yticfbeihmkfifaa", sum := "ede13b3e6720bcb5f7f2ffe8da00ce9c00acbab3092b7af89ef544a72bb3c931", func := "loop.example/intarsia/laws.FnExactTokensOut", spec := "fnExactTokensOut", unfollowed := true, recurses := true, apart := false, narrowed := true }
def FnExactTokensOutUptoSaid : Prop := fnExactTokensOutUptoRow.holds Try.pinned (OpenSpec.upto fnExactTokensOutSpec)

/-- 'laws.FnExactRunGet', WHERE WHAT IT READS IS OF BULK AT MOST 1048576: true; the input reads as it did. -/
def fnExactRunGetUptoRow : OpenClaim := { program := "yticfbeihmkfifaa", sum := "ede13b3e6720bcb5f7f2ffe8da00ce9c00acbab3092b7af89ef544a72bb3c931", func := "loop.example/intarsia/laws.FnExactRunGet", spec := "fnExactRunGet", unfollowed := true, recurses := true, apart := false, narrowed := true }
def FnExactRunGetUptoSaid : Prop := fnExactRunGetUptoRow.holds Try.pinned (OpenSpec.upto fnExactRunGetSpec)

/-- 'laws.FnExactRlePut', WHERE WHAT IT READS IS OF BULK AT MOST 1048576: true; the input reads as it did. -/
def fnExactRlePutUptoRow : OpenClaim := { program := "yticfbeihmkfifaa", sum := "ede13b3e6720bcb5f7f2ffe8da00ce9c00acbab3092b7af89ef544a72bb3c931", func := "loop.example/intarsia/laws.FnExactRlePut", spec := "fnExactRlePut", unfollowed := true, recurses := true, apart := false, narrowed := true }
def FnExactRlePutUptoSaid : Prop := fnExactRlePutUptoRow.holds Try.pinned (OpenSpec.upto fnExactRlePutSpec)

/-- 'laws.FnExactRleGet', WHERE WHAT IT READS IS OF BULK AT MOST 1048576: true; the input reads as it did. -/
def fnExactRleGetUptoRow : OpenClaim := { program := "yticfbeihmkfifaa", sum := "ede13b3e6720bcb5f7f2ffe8da00ce9c00acbab3092b7af89ef544a72bb3c931", func := "loop.example/intarsia/laws.FnExactRleGet", spec := "fnExactRleGet", unfollowed := true, recurses := true, apart := false, narrowed := true }
def FnExactRleGetUptoSaid : Prop := fnExactRleGetUptoRow.holds Try.pinned (OpenSpec.upto fnExactRleGetSpec)

/-- 'laws.FnExactChunksPut', WHERE WHAT IT READS IS OF BULK AT MOST 1048576: true; the input reads as it did. -/
def fnExactChunksPutUptoRow : OpenClaim := { program := "yticfbeihmkfifaa", sum := "ede13b3e6720bcb5f7f2ffe8da00ce9c00acbab3092b7af89ef544a72bb3c931", func := "loop.example/intarsia/laws.FnExactChunksPut", spec := "fnExactChunksPut", unfollowed := true, recurses := true, apart := false, narrowed := true }
def FnExactChunksPutUptoSaid : Prop := fnExactChunksPutUptoRow.holds Try.pinned (OpenSpec.upto fnExactChunksPutSpec)

/-- 'laws.FnExactChunksGet', WHERE WHAT IT READS IS OF BULK AT MOST 1048576: true; the input reads as it did. -/
def fnExactChunksGetUptoRow : OpenClaim := { program := "yticfbeihmkfifaa", sum := "ede13b3e6720bcb5f7f2ffe8da00ce9c00acbab3092b7af89ef544a72bb3c931", func := "loop.example/intarsia/laws.FnExactChunksGet", spec := "fnExactChunksGet", unfollowed := true, recurses := true, apart := false, narrowed := true }
def FnExactChunksGetUptoSaid : Prop := fnExactChunksGetUptoRow.holds Try.pinned (OpenSpec.upto fnExactChunksGetSpec)

end Rows
end Go.Proofs.Yticfbeihmkfifaa
