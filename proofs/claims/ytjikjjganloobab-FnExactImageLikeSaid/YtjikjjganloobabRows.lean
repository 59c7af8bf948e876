/-
  No cell of these rows narrows 'for every input' (looked for: loops, veiled, ifaces, maps, wideKeys, modest, calm, conditions, laid).
  DERIVED. THE GIVEN ROWS OF THIS SEAT. 6 by the template 'for every input the law returns true; each argument reads behind the call as it read before'; 0 by the template 'total and deterministic' (their statements: YtjikjjganloobabTotals.lean).
  GIVEN WITH THE SEED: the statements are not yours to turn. If you find one false, say at which input.
  Laid BY PROGRAM, IN A SANDBOX (cutbox-rows.mjs): the forced cells as the released guide's own fill.sh prints them over the translation 68761981f854569a… (all of the seat's roots in one cut). By AI agents, Wed Nov 11 2026. No macro, syntax, notation, axiom, sorry.
-/
import Derived.Test.YtjikjjganloobabChecked
import GoSem.Claim
import GoSem.ClaimJoined
import GoSem.ClaimMapViews
import Derived.JoinedTies
import Derived.KernelRfl
namespace Go.Proofs.Ytjikjjganloobab
/- THE CELL 'sum', in the pinned program and in every row, IS THE sha256 OF THE DUMP (.gsa) THAT YtjikjjganloobabProg.lean LOADS. Nothing in Lean hashes anything: it is a label: what it is worth is what the hold of that sum in a sandbox is worth. -/
noncomputable def Try.pinned : Pinned := { name := "ytjikjjganloobab", sum := "68761981f854569a3f7154ff0241bd522564048ba6864606fbad7a313d487213", checked := Try.checked }
namespace Rows
def none {H : Type} : Left H := { results := [], args := [] }

/-- 'laws.FnFilterNone': WHATEVER THE INPUT: true; the input reads as it did. -/
def fnFilterNoneSpec : ChangeSpec := { name := "fnFilterNone", fn := fun _ => fun
  | [d] => { results := [.lit (.bool true)], args := [d] }
  | _ => none }
def fnFilterNoneRow : OpenClaim := { program := "ytjikjjganloobab", sum := "68761981f854569a3f7154ff0241bd522564048ba6864606fbad7a313d487213", func := "loop.example/intarsia/laws.FnFilterNone", spec := "fnFilterNone", unfollowed := true, recurses := true, apart := false }
def FnFilterNoneSaid : Prop := fnFilterNoneRow.holds Try.pinned (OpenSpec.ofChange fnFilterNoneSpec)

/-- ITS FALSE NEIGHBOUR: 'it returns false'. Refute it at one input. -/
def fnFilterNoneWrong : ChangeSpec := { name := "fnFilterNone", fn := fun _ => fun
  | [d] => { results := [.lit (.bool false)], args := [d] }
  | _ => none }
def FnFilterNoneWrongFalsely : Prop := fnFilterNoneRow.holds Try.pinned (OpenSpec.ofChange fnFilterNoneWrong)

/-- 'laws.FnExactPassesOf': WHATEVER THE INPUT: true; the input reads as it did. -/
def fnExactPassesOfSpec : ChangeSpec := { name := "fnExactPassesOf", fn := fun _ => fun
  | [d1, d2] => { results := [.lit (.bool true)], args := [d1, d2] }
  | _ => none }
def fnExactPassesOfRow : OpenClaim := { program := "ytjikjjganloobab", sum := "68761981f854569a3f7154ff0241bd522564048ba6864606fbad7a313d487213", func := "loop.example/intarsia/laws.FnExactPassesOf", spec := "fnExactPassesOf", apart := false }
def FnExactPassesOfSaid : Prop := fnExactPassesOfRow.holds Try.pinned (OpenSpec.ofChange fnExactPassesOfSpec)

/-- ITS FALSE NEIGHBOUR: 'it returns false'. Refute it at one input. -/
def fnExactPassesOfWrong : ChangeSpec := { name := "fnExactPassesOf", fn := fun _ => fun
  | [d1, d2] => { results := [.lit (.bool false)], args := [d1, d2] }
  | _ => none }
def FnExactPassesOfWrongFalsely : Prop := fnExactPassesOfRow.holds Try.pinned (OpenSpec.ofChange fnExactPassesOfWrong)

/-- 'laws.FnExactImageCut': WHATEVER THE INPUT: true; the input reads as it did. -/
def fnExactImageCutSpec : ChangeSpec := { name := "fnExactImageCut", fn := fun _ => fun
  | [d1, d2, d3, d4, d5] => { results := [.lit (.bool true)], args := [d1, d2, d3, d4, d5] }
  | _ => none }
def fnExactImageCutRow : OpenClaim := { program := "ytjikjjganloobab", sum := "68761981f854569a3f7154ff0241bd522564048ba6864606fbad7a313d487213", func := "loop.example/intarsia/laws.FnExactImageCut", spec := "fnExactImageCut", unfollowed := true, recurses := true, apart := false }
def FnExactImageCutSaid : Prop := fnExactImageCutRow.holds Try.pinned (OpenSpec.ofChange fnExactImageCutSpec)

/-- ITS FALSE NEIGHBOUR: 'it returns false'. Refute it at one input. -/
def fnExactImageCutWrong : ChangeSpec := { name := "fnExactImageCut", fn := fun _ => fun
  | [d1, d2, d3, d4, d5] => { results := [.lit (.bool false)], args := [d1, d2, d3, d4, d5] }
  | _ => none }
def FnExactImageCutWrongFalsely : Prop := fnExactImageCutRow.holds Try.pinned (OpenSpec.ofChange fnExactImageCutWrong)

/-- 'laws.FnExactImageLike': WHATEVER THE INPUT: true; the input reads as it did. -/
def fnExactImageLikeSpec : ChangeSpec := { name := "fnExactImageLike", fn := fun _ => fun
  | [d1, d2] => { results := [.lit (.bool true)], args := [d1, d2] }
  | _ => none }
def fnExactImageLikeRow : OpenClaim := { program := "ytjikjjganloobab", sum := "68761981f854569a3f7154ff0241bd522564048ba6864606fbad7a313d487213", func := "loop.example/intarsia/laws.FnExactImageLike", spec := "fnExactImageLike", unfollowed := true, recurses := true, apart := false }
def FnExactImageLikeSaid : Prop := fnExactImageLikeRow.holds Try.pinned (OpenSpec.ofChange fnExactImageLikeSpec)

/-- ITS FALSE NEIGHBOUR: 'it returns false'. Refute it at one input. -/
def fnExactImageLikeWrong : ChangeSpec := { name := "fnExactImageLike", fn := fun _ => fun
  | [d1, d2] => { results := [.lit (.bool false)], args := [d1, d2] }
  | _ => none }
def FnExactImageLikeWrongFalsely : Prop := fnExactImageLikeRow.holds Try.pinned (OpenSpec.ofChange fnExactImageLikeWrong)

/-- 'laws.FnExactImageRgb': WHATEVER THE INPUT: true; the input reads as it did. -/
def fnExactImageRgbSpec : ChangeSpec := { name := "fnExactImageRgb", fn := fun _ => fun
  | [d] => { results := [.lit (.bool true)], args := [d] }
  | _ => none }
def fnExactImageRgbRow : OpenClaim := { program := "ytjikjjganloobab", sum := "68761981f854569a3f7154ff0241bd522564048ba6864606fbad7a313d487213", func := "loop.example/intarsia/laws.FnExactImageRgb", spec := "fnExactImageRgb", unfollowed := true, recurses := true, apart := false }
def FnExactImageRgbSaid : Prop := fnExactImageRgbRow.holds Try.pinned (OpenSpec.ofChange fnExactImageRgbSpec)

/-- ITS FALSE NEIGHBOUR: 'it returns false'. Refute it at one input. -/
def fnExactImageRgbWrong : ChangeSpec := { name := "fnExactImageRgb", fn := fun _ => fun
  | [d] => { results := [.lit (.bool false)], args := [d] }
  | _ => none }
def FnExactImageRgbWrongFalsely : Prop := fnExactImageRgbRow.holds Try.pinned (OpenSpec.ofChange fnExactImageRgbWrong)

/-- 'laws.FnExactImagePal': WHATEVER THE INPUT: true; the input reads as it did. -/
def fnExactImagePalSpec : ChangeSpec := { name := "fnExactImagePal", fn := fun _ => fun
  | [d] => { results := [.lit (.bool true)], args := [d] }
  | _ => none }
def fnExactImagePalRow : OpenClaim := { program := "ytjikjjganloobab", sum := "68761981f854569a3f7154ff0241bd522564048ba6864606fbad7a313d487213", func := "loop.example/intarsia/laws.FnExactImagePal", spec := "fnExactImagePal", unfollowed := true, recurses := true, apart := false }
def FnExactImagePalSaid : Prop := fnExactImagePalRow.holds Try.pinned (OpenSpec.ofChange fnExactImagePalSpec)

/-- ITS FALSE NEIGHBOUR: 'it returns false'. Refute it at one input. -/
def fnExactImagePalWrong : ChangeSpec := { name := "fnExactImagePal", fn := fun _ => fun
  | [d] => { results := [.lit (.bool false)], args := [d] }
  | _ => none }
def FnExactImagePalWrongFalsely : Prop := fnExactImagePalRow.holds Try.pinned (OpenSpec.ofChange fnExactImagePalWrong)

/- THE SECOND FORM. 'bulk': how many values and letters a reading holds, each counted each time it is reached (what is shared counts as often as it is met; a slice's spare places count too). A statement '..UptoSaid' is the law's where the arguments, and the package variables that the reading takes, are together of bulk at most 1048576: NARROWER than '..Said'. Prove '..Said' where nothing that the law and all that it calls make is longer than what came in: it says more and counts as full. Else prove '..UptoSaid'. A law counts once. -/
mutual
def uptoBulk {H : Type} : DataW H → Nat
  | .lit (.string bytes) => bytes.length + 1
  | .lit _ => 1
  | .nil => 1
  | .ptr d => uptoBulk d + 1
  | .slice elems spare => uptoBulkAll elems + uptoBulkAll spare + 1
  | .agg parts => uptoBulkAll parts + 1
  | .iface _ d => uptoBulk d + 1
  | .map entries => uptoBulkEntries entries + 1
  | .held _ => 1
def uptoBulkAll {H : Type} : List (DataW H) → Nat
  | [] => 0
  | d :: r => uptoBulk d + uptoBulkAll r
def uptoBulkEntries {H : Type} : List (Lit × DataW H) → Nat
  | [] => 0
  | x :: r => uptoBulkEntry x + uptoBulkEntries r
def uptoBulkEntry {H : Type} : Lit × DataW H → Nat
  | (.string bytes, d) => bytes.length + uptoBulk d + 1
  | (_, d) => uptoBulk d + 1
 end
def uptoSmall : (H : Type) → List (DataW H) → Bool := fun _ ds => decide (uptoBulkAll ds ≤ 1048576)
def OpenSpec.upto (s : _root_.Go.ChangeSpec) : _root_.Go.OpenSpec := { _root_.Go.OpenSpec.ofChange s with cond := some uptoSmall }

/-- 'laws.FnFilterNone', WHERE WHAT IT READS IS OF BULK AT MOST 1048576: true; the input reads as it did. -/
def fnFilterNoneUptoRow : OpenClaim := { program := "ytjikjjganloobab", sum := "68761981f854569a3f7154ff0241bd522564048ba6864606fbad7a313d487213", func := "loop.example/intarsia/laws.FnFilterNone", spec := "fnFilterNone", unfollowed := true, recurses := true, apart := false, narrowed := true }
def FnFilterNoneUptoSaid : Prop := fnFilterNoneUptoRow.holds Try.pinned (OpenSpec.upto fnFilterNoneSpec)

/-- 'laws.FnExactPassesOf', WHERE WHAT IT READS IS OF BULK AT MOST 1048576: true; the input reads as it did. -/
def fnExactPassesOfUptoRow : OpenClaim := { program := "ytjikjjganloobab", sum := "68761981f854569a3f7154ff0241bd522564048ba6864606fbad7a313d487213", func := "loop.example/intarsia/laws.FnExactPassesOf", spec := "fnExactPassesOf", apart := false, narrowed := true }
def FnExactPassesOfUptoSaid : Prop := fnExactPassesOfUptoRow.holds Try.pinned (OpenSpec.upto fnExactPassesOfSpec)

/-- 'laws.FnExactImageCut', WHERE WHAT IT READS IS OF BULK AT MOST 1048576: true; the input reads as it did. -/
def fnExactImageCutUptoRow : OpenClaim := { program := "ytjikjjganloobab", sum := "68761981f854569a3f7154ff0241bd522564048ba6864606fbad7a313d487213", func := "loop.example/intarsia/laws.FnExactImageCut", spec := "fnExactImageCut", unfollowed := true, recurses := true, apart := false, narrowed := true }
def FnExactImageCutUptoSaid : Prop := fnExactImageCutUptoRow.holds Try.pinned (OpenSpec.upto fnExactImageCutSpec)

/-- 'laws.FnExactImageLike', WHERE WHAT IT READS IS OF BULK AT MOST 1048576: true; the input reads as it did. -/
def fnExactImageLikeUptoRow : OpenClaim := { program := "ytjikjjganloobab", sum := "68761981f854569a3f7154ff0241bd522564048ba6864606fbad7a313d487213", func := "loop.example/intarsia/laws.FnExactImageLike", spec := "fnExactImageLike", unfollowed := true, recurses := true, apart := false, narrowed := true }
def FnExactImageLikeUptoSaid : Prop := fnExactImageLikeUptoRow.holds Try.pinned (OpenSpec.upto fnExactImageLikeSpec)

/-- 'laws.FnExactImageRgb', WHERE WHAT IT READS IS OF BULK AT MOST 1048576: true; the input reads as it did. -/
def fnExactImageRgbUptoRow : OpenClaim := { program := "ytjikjjganloobab", sum := "68761981f854569a3f7154ff0241bd522564048ba6864606fbad7a313d487213", func := "loop.example/intarsia/laws.FnExactImageRgb", spec := "fnExactImageRgb", unfollowed := true, recurses := true, apart := false, narrowed := true }
def FnExactImageRgbUptoSaid : Prop := fnExactImageRgbUptoRow.holds Try.pinned (OpenSpec.upto fnExactImageRgbSpec)

/-- 'laws.FnExactImagePal', WHERE WHAT IT READS IS OF BULK AT MOST 1048576: true; the input reads as it did. -/
def fnExactImagePalUptoRow : OpenClaim := { program := "ytjikjjganloobab", sum := "68761981f854569a3f7154ff0241bd522564048ba6864606fbad7a313d487213", func := "loop.example/intarsia/laws.FnExactImagePal", spec := "fnExactImagePal", unfollowed := true, recurses := true, apart := false, narrowed := true }
def FnExactImagePalUptoSaid : Prop := fnExactImagePalUptoRow.holds Try.pinned (OpenSpec.upto fnExactImagePalSpec)

end Rows
end Go.Proofs.Ytjikjjganloobab
