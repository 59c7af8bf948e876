/-
  No cell of these rows narrows 'for every input' (looked for: loops, veiled, ifaces, maps, wideKeys, modest, calm, conditions, laid).
  DERIVED. THE GIVEN ROWS OF THIS SEAT. 6 by the template 'for every input the law returns true; each argument reads behind the call as it read before'; 0 by the template 'total and deterministic' (their statements: YtgeepemhmkoknaaTotals.lean).
  GIVEN WITH THE SEED: the statements are not yours to turn. If you find one false, say at which input.
  Laid BY PROGRAM, IN A SANDBOX (cutbox-rows.mjs): the forced cells as the released guide's own fill.sh prints them over the translation 5177ec39ce17a44f… (all of the seat's roots in one cut). By AI agents, Wed Nov 11 2026. No macro, syntax, notation, axiom, sorry.
-/
import Derived.Test.YtgeepemhmkoknaaChecked
import GoSem.Claim
import GoSem.ClaimJoined
import GoSem.ClaimMapViews
import Derived.JoinedTies
import Derived.KernelRfl
namespace Go.Proofs.Ytgeepemhmkoknaa
/- THE CELL 'sum', in the pinned program and in every row, IS THE sha256 OF THE DUMP (.gsa) THAT YtgeepemhmkoknaaProg.lean LOADS. Nothing in Lean hashes anything: it is a label: what it is worth is what the hold of that sum in a sandbox is worth. -/
noncomputable def Try.pinned : Pinned := { name := "ytgeepemhmkoknaa", sum := "5177ec39ce17a44f55fb2ef7a36b13e8dc46d2e7b7277ca6aa717819b32727ca", checked := Try.checked }
namespace Rows
def none {H : Type} : Left H := { results := [], args := [] }

/-- 'laws.FnImageFlip': WHATEVER THE INPUT: true; the input reads as it did. -/
def fnImageFlipSpec : ChangeSpec := { name := "fnImageFlip", fn := fun _ => fun
  | [d] => { results := [.lit (.bool true)], args := [d] }
  | _ => none }
def fnImageFlipRow : OpenClaim := { program := "ytgeepemhmkoknaa", sum := "5177ec39ce17a44f55fb2ef7a36b13e8dc46d2e7b7277ca6aa717819b32727ca", func := "loop.example/intarsia/laws.FnImageFlip", spec := "fnImageFlip", unfollowed := true, recurses := true, apart := false }
def FnImageFlipSaid : Prop := fnImageFlipRow.holds Try.pinned (OpenSpec.ofChange fnImageFlipSpec)

/-- ITS FALSE NEIGHBOUR: 'it returns false'. Refute it at one input. -/
def fnImageFlipWrong : ChangeSpec := { name := "fnImageFlip", fn := fun _ => fun
  | [d] => { results := [.lit (.bool false)], args := [d] }
  | _ => none }
def FnImageFlipWrongFalsely : Prop := fnImageFlipRow.holds Try.pinned (OpenSpec.ofChange fnImageFlipWrong)

/-- 'laws.FnImageTurn': WHATEVER THE INPUT: true; the input reads as it did. -/
def fnImageTurnSpec : ChangeSpec := { name := "fnImageTurn", fn := fun _ => fun
  | [d] => { results := [.lit (.bool true)], args := [d] }
  | _ => none }
def fnImageTurnRow : OpenClaim := { program := "ytgeepemhmkoknaa", sum := "5177ec39ce17a44f55fb2ef7a36b13e8dc46d2e7b7277ca6aa717819b32727ca", func := "loop.example/intarsia/laws.FnImageTurn", spec := "fnImageTurn", unfollowed := true, recurses := true, apart := false }
def FnImageTurnSaid : Prop := fnImageTurnRow.holds Try.pinned (OpenSpec.ofChange fnImageTurnSpec)

/-- ITS FALSE NEIGHBOUR: 'it returns false'. Refute it at one input. -/
def fnImageTurnWrong : ChangeSpec := { name := "fnImageTurn", fn := fun _ => fun
  | [d] => { results := [.lit (.bool false)], args := [d] }
  | _ => none }
def FnImageTurnWrongFalsely : Prop := fnImageTurnRow.holds Try.pinned (OpenSpec.ofChange fnImageTurnWrong)

/-- 'laws.FnImageCut': WHATEVER THE INPUT: true; the input reads as it did. -/
def fnImageCutSpec : ChangeSpec := { name := "fnImageCut", fn := fun _ => fun
  | [d] => { results := [.lit (.bool true)], args := [d] }
  | _ => none }
def fnImageCutRow : OpenClaim := { program := "ytgeepemhmkoknaa", sum := "5177ec39ce17a44f55fb2ef7a36b13e8dc46d2e7b7277ca6aa717819b32727ca", func := "loop.example/intarsia/laws.FnImageCut", spec := "fnImageCut", unfollowed := true, recurses := true, apart := false }
def FnImageCutSaid : Prop := fnImageCutRow.holds Try.pinned (OpenSpec.ofChange fnImageCutSpec)

/-- ITS FALSE NEIGHBOUR: 'it returns false'. Refute it at one input. -/
def fnImageCutWrong : ChangeSpec := { name := "fnImageCut", fn := fun _ => fun
  | [d] => { results := [.lit (.bool false)], args := [d] }
  | _ => none }
def FnImageCutWrongFalsely : Prop := fnImageCutRow.holds Try.pinned (OpenSpec.ofChange fnImageCutWrong)

/-- 'laws.FnImageColor': WHATEVER THE INPUT: true; the input reads as it did. -/
def fnImageColorSpec : ChangeSpec := { name := "fnImageColor", fn := fun _ => fun
  | [d] => { results := [.lit (.bool true)], args := [d] }
  | _ => none }
def fnImageColorRow : OpenClaim := { program := "ytgeepemhmkoknaa", sum := "5177ec39ce17a44f55fb2ef7a36b13e8dc46d2e7b7277ca6aa717819b32727ca", func := "loop.example/intarsia/laws.FnImageColor", spec := "fnImageColor", unfollowed := true, recurses := true, apart := false }
def FnImageColorSaid : Prop := fnImageColorRow.holds Try.pinned (OpenSpec.ofChange fnImageColorSpec)

/-- ITS FALSE NEIGHBOUR: 'it returns false'. Refute it at one input. -/
def fnImageColorWrong : ChangeSpec := { name := "fnImageColor", fn := fun _ => fun
  | [d] => { results := [.lit (.bool false)], args := [d] }
  | _ => none }
def FnImageColorWrongFalsely : Prop := fnImageColorRow.holds Try.pinned (OpenSpec.ofChange fnImageColorWrong)

/-- 'laws.FnImageLike': WHATEVER THE INPUT: true; the input reads as it did. -/
def fnImageLikeSpec : ChangeSpec := { name := "fnImageLike", fn := fun _ => fun
  | [d] => { results := [.lit (.bool true)], args := [d] }
  | _ => none }
def fnImageLikeRow : OpenClaim := { program := "ytgeepemhmkoknaa", sum := "5177ec39ce17a44f55fb2ef7a36b13e8dc46d2e7b7277ca6aa717819b32727ca", func := "loop.example/intarsia/laws.FnImageLike", spec := "fnImageLike", unfollowed := true, recurses := true, apart := false }
def FnImageLikeSaid : Prop := fnImageLikeRow.holds Try.pinned (OpenSpec.ofChange fnImageLikeSpec)

/-- ITS FALSE NEIGHBOUR: 'it returns false'. Refute it at one input. -/
def fnImageLikeWrong : ChangeSpec := { name := "fnImageLike", fn := fun _ => fun
  | [d] => { results := [.lit (.bool false)], args := [d] }
  | _ => none }
def FnImageLikeWrongFalsely : Prop := fnImageLikeRow.holds Try.pinned (OpenSpec.ofChange fnImageLikeWrong)

/-- 'laws.FnExactImageRgb': WHATEVER THE INPUT: true; the input reads as it did. -/
def fnExactImageRgbSpec : ChangeSpec := { name := "fnExactImageRgb", fn := fun _ => fun
  | [d] => { results := [.lit (.bool true)], args := [d] }
  | _ => none }
def fnExactImageRgbRow : OpenClaim := { program := "ytgeepemhmkoknaa", sum := "5177ec39ce17a44f55fb2ef7a36b13e8dc46d2e7b7277ca6aa717819b32727ca", func := "loop.example/intarsia/laws.FnExactImageRgb", spec := "fnExactImageRgb", unfollowed := true, recurses := true, apart := false }
def FnExactImageRgbSaid : Prop := fnExactImageRgbRow.holds Try.pinned (OpenSpec.ofChange fnExactImageRgbSpec)

/-- ITS FALSE NEIGHBOUR: 'it returns false'. Refute it at one input. -/
def fnExactImageRgbWrong : ChangeSpec := { name := "fnExactImageRgb", fn := fun _ => fun
  | [d] => { results := [.lit (.bool false)], args := [d] }
  | _ => none }
def FnExactImageRgbWrongFalsely : Prop := fnExactImageRgbRow.holds Try.pinned (OpenSpec.ofChange fnExactImageRgbWrong)

/- THE SECOND FORM. 'bulk': how many values and letters a reading holds, each counted each time it is reached (what is shared counts as often as it is met; a slice's spare places count too). A statement '..UptoSaid' is the law's where the arguments, and the package variables that the reading takes, are together of bulk at most 1048576: NARROWER than '..Said'. Prove '..Said' where nothing that the law and all that it calls make is longer than what came in: it says more and counts as full. Else prove '..UptoSaid'. A law counts once. -/
mutual
def uptoBulk {H : Type} : DataW H → Nat
  | .lit (.string bytes) => bytes.length + 1
  | .lit _ => 1
  | .nil => 1
  | .ptr d => uptoBulk d + 1
  | .slice elems spare => uptoBulkAll elems + uptoBulkAll spare + 1
  | .agg parts => uptoBulkAll parts + 1
  | .iface _ d => uptoBulk d + 1
  | .map entries => uptoBulkEntries entries + 1
  | .held _ => 1
def uptoBulkAll {H : Type} : List (DataW H) → Nat
  | [] => 0
  | d :: r => uptoBulk d + uptoBulkAll r
def uptoBulkEntries {H : Type} : List (Lit × DataW H) → Nat
  | [] => 0
  | x :: r => uptoBulkEntry x + uptoBulkEntries r
def uptoBulkEntry {H : Type} : Lit × DataW H → Nat
  | (.string bytes, d) => bytes.length + uptoBulk d + 1
  | (_, d) => uptoBulk d + 1
 end
def uptoSmall : (H : Type) → List (DataW H) → Bool := fun _ ds => decide (uptoBulkAll ds ≤ 1048576)
def OpenSpec.upto (s : _root_.Go.ChangeSpec) : _root_.Go.OpenSpec := { _root_.Go.OpenSpec.ofChange s with cond := some uptoSmall }

/-- 'laws.FnImageFlip', WHERE WHAT IT READS IS OF BULK AT MOST 1048576: true; the input reads as it did. -/
def fnImageFlipUptoRow : OpenClaim := { program := "ytgeepemhmkoknaa", sum := "5177ec39ce17a44f55fb2ef7a36b13e8dc46d2e7b7277ca6aa717819b32727ca", func := "loop.example/intarsia/laws.FnImageFlip", spec := "fnImageFlip", unfollowed := true, recurses := true, apart := false, narrowed := true }
def FnImageFlipUptoSaid : Prop := fnImageFlipUptoRow.holds Try.pinned (OpenSpec.upto fnImageFlipSpec)

/-- 'laws.FnImageTurn', WHERE WHAT IT READS IS OF BULK AT MOST 1048576: true; the input reads as it did. -/
def fnImageTurnUptoRow : OpenClaim := { program := "ytgeepemhmkoknaa", sum := "5177ec39ce17a44f55fb2ef7a36b13e8dc46d2e7b7277ca6aa717819b32727ca", func := "loop.example/intarsia/laws.FnImageTurn", spec := "fnImageTurn", unfollowed := true, recurses := true, apart := false, narrowed := true }
def FnImageTurnUptoSaid : Prop := fnImageTurnUptoRow.holds Try.pinned (OpenSpec.upto fnImageTurnSpec)

/-- 'laws.FnImageCut', WHERE WHAT IT READS IS OF BULK AT MOST 1048576: true; the input reads as it did. -/
def fnImageCutUptoRow : OpenClaim := { program := "ytgeepemhmkoknaa", sum := "5177ec39ce17a44f55fb2ef7a36b13e8dc46d2e7b7277ca6aa717819b32727ca", func := "loop.example/intarsia/laws.FnImageCut", spec := "fnImageCut", unfollowed := true, recurses := true, apart := false, narrowed := true }
def FnImageCutUptoSaid : Prop := fnImageCutUptoRow.holds Try.pinned (OpenSpec.upto fnImageCutSpec)

/-- 'laws.FnImageColor', WHERE WHAT IT READS IS OF BULK AT MOST 1048576: true; the input reads as it did. -/
def fnImageColorUptoRow : OpenClaim := { program := "ytgeepemhmkoknaa", sum := "5177ec39ce17a44f55fb2ef7a36b13e8dc46d2e7b7277ca6aa717819b32727ca", func := "loop.example/intarsia/laws.FnImageColor", spec := "fnImageColor", unfollowed := true, recurses := true, apart := false, narrowed := true }
def FnImageColorUptoSaid : Prop := fnImageColorUptoRow.holds Try.pinned (OpenSpec.upto fnImageColorSpec)

/-- 'laws.FnImageLike', WHERE WHAT IT READS IS OF BULK AT MOST 1048576: true; the input reads as it did. -/
def fnImageLikeUptoRow : OpenClaim := { program := "ytgeepemhmkoknaa", sum := "5177ec39ce17a44f55fb2ef7a36b13e8dc46d2e7b7277ca6aa717819b32727ca", func := "loop.example/intarsia/laws.FnImageLike", spec := "fnImageLike", unfollowed := true, recurses := true, apart := false, narrowed := true }
def FnImageLikeUptoSaid : Prop := fnImageLikeUptoRow.holds Try.pinned (OpenSpec.upto fnImageLikeSpec)

/-- 'laws.FnExactImageRgb', WHERE WHAT IT READS IS OF BULK AT MOST 1048576: true; the input reads as it did. -/
def fnExactImageRgbUptoRow : OpenClaim := { program := "ytgeepemhmkoknaa", sum := "5177ec39ce17a44f55fb2ef7a36b13e8dc46d2e7b7277ca6aa717819b32727ca", func := "loop.example/intarsia/laws.FnExactImageRgb", spec := "fnExactImageRgb", unfollowed := true, recurses := true, apart := false, narrowed := true }
def FnExactImageRgbUptoSaid : Prop := fnExactImageRgbUptoRow.holds Try.pinned (OpenSpec.upto fnExactImageRgbSpec)

end Rows
end Go.Proofs.Ytgeepemhmkoknaa
