/-
  No cell of these rows narrows 'for every input' (looked for: loops, veiled, ifaces, maps, wideKeys, modest, calm, conditions, laid).
  DERIVED. THE GIVEN ROWS OF THIS SEAT. 3 by the template 'for every input the law returns true; each argument reads behind the call as it read before'; 0 by the template 'total and deterministic' (their statements: YtejebodgfoihkabGreatTotals.lean).
  GIVEN WITH THE SEED: the statements are not yours to turn. If you find one false, say at which input.
  Laid BY PROGRAM, IN A SANDBOX (cutbox-rows.mjs): the forced cells as the released guide's own fill.sh prints them over the translation 12b279c0951a8d1d… (all of the seat's roots in one cut). By AI agents, Wed Nov 11 2026. No macro, syntax, notation, axiom, sorry.
-/
import Derived.Test.YtejebodgfoihkabGreatChecked
import GoSem.Claim
import GoSem.ClaimJoined
import GoSem.ClaimMapViews
import Derived.JoinedTies
import Derived.KernelRfl
namespace Go.Proofs.YtejebodgfoihkabGreat
/- THE CELL 'sum', in the pinned program and in every row, IS THE sha256 OF THE DUMP (.gsa) THAT YtejebodgfoihkabGreatProg.lean LOADS. Nothing in Lean hashes anything: it is a label: what it is worth is what the hold of that sum in a sandbox is worth. -/
noncomputable def Tryz.pinned : Pinned := { name := "ytejebodgfoihkabgreat", sum := "12b279c0951a8d1d48d51a3a27e0b864f8f2fde97ae3ff8776fbd0bb4fd7e13b", checked := Tryz.checked }
namespace Rows
def none {H : Type} : Left H := { results := [], args := [] }

/-- 'laws.FnZlibGet': WHATEVER THE INPUT: true; the input reads as it did. -/
def fnZlibGetSpec : ChangeSpec := { name := "fnZlibGet", fn := fun _ => fun
  | [d] => { results := [.lit (.bool true)], args := [d] }
  | _ => none }
def fnZlibGetRow : OpenClaim := { program := "ytejebodgfoihkabgreat", sum := "12b279c0951a8d1d48d51a3a27e0b864f8f2fde97ae3ff8776fbd0bb4fd7e13b", func := "loop.example/intarsia/laws.FnZlibGet", spec := "fnZlibGet", unfollowed := true, recurses := true, plainKeys := false, apart := false }
def FnZlibGetSaid : Prop := fnZlibGetRow.holds Tryz.pinned (OpenSpec.ofChange fnZlibGetSpec)

/-- ITS FALSE NEIGHBOUR: 'it returns false'. Refute it at one input. -/
def fnZlibGetWrong : ChangeSpec := { name := "fnZlibGet", fn := fun _ => fun
  | [d] => { results := [.lit (.bool false)], args := [d] }
  | _ => none }
def FnZlibGetWrongFalsely : Prop := fnZlibGetRow.holds Tryz.pinned (OpenSpec.ofChange fnZlibGetWrong)

/-- 'laws.FnDeflate': WHATEVER THE INPUT: true; the input reads as it did. -/
def fnDeflateSpec : ChangeSpec := { name := "fnDeflate", fn := fun _ => fun
  | [d] => { results := [.lit (.bool true)], args := [d] }
  | _ => none }
def fnDeflateRow : OpenClaim := { program := "ytejebodgfoihkabgreat", sum := "12b279c0951a8d1d48d51a3a27e0b864f8f2fde97ae3ff8776fbd0bb4fd7e13b", func := "loop.example/intarsia/laws.FnDeflate", spec := "fnDeflate", unfollowed := true, recurses := true, plainKeys := false, apart := false }
def FnDeflateSaid : Prop := fnDeflateRow.holds Tryz.pinned (OpenSpec.ofChange fnDeflateSpec)

/-- ITS FALSE NEIGHBOUR: 'it returns false'. Refute it at one input. -/
def fnDeflateWrong : ChangeSpec := { name := "fnDeflate", fn := fun _ => fun
  | [d] => { results := [.lit (.bool false)], args := [d] }
  | _ => none }
def FnDeflateWrongFalsely : Prop := fnDeflateRow.holds Tryz.pinned (OpenSpec.ofChange fnDeflateWrong)

/-- 'laws.FnZlib': WHATEVER THE INPUT: true; the input reads as it did. -/
def fnZlibSpec : ChangeSpec := { name := "fnZlib", fn := fun _ => fun
  | [d] => { results := [.lit (.bool true)], args := [d] }
  | _ => none }
def fnZlibRow : OpenClaim := { program := "ytejebodgfoihkabgreat", sum := "12b279c0951a8d1d48d51a3a27e0b864f8f2fde97ae3ff8776fbd0bb4fd7e13b", func := "loop.example/intarsia/laws.FnZlib", spec := "fnZlib", unfollowed := true, recurses := true, plainKeys := false, apart := false }
def FnZlibSaid : Prop := fnZlibRow.holds Tryz.pinned (OpenSpec.ofChange fnZlibSpec)

/-- ITS FALSE NEIGHBOUR: 'it returns false'. Refute it at one input. -/
def fnZlibWrong : ChangeSpec := { name := "fnZlib", fn := fun _ => fun
  | [d] => { results := [.lit (.bool false)], args := [d] }
  | _ => none }
def FnZlibWrongFalsely : Prop := fnZlibRow.holds Tryz.pinned (OpenSpec.ofChange fnZlibWrong)

/- THE SECOND FORM. 'bulk': how many values and letters a reading holds, each counted each time it is reached (what is shared counts as often as it is met; a slice's spare places count too). A statement '..UptoSaid' is the law's where the arguments, and the package variables that the reading takes, are together of bulk at most 1048576: NARROWER than '..Said'. Prove '..Said' where nothing that the law and all that it calls make is longer than what came in: it says more and counts as full. Else prove '..UptoSaid'. A law counts once. -/
mutual
def uptoBulk {H : Type} : DataW H → Nat
  | .lit (.string bytes) => bytes.length + 1
  | .lit _ => 1
  | .nil => 1
  | .ptr d => uptoBulk d + 1
  | .slice elems spare => uptoBulkAll elems + uptoBulkAll spare + 1
  | .agg parts => uptoBulkAll parts + 1
  | .iface _ d => uptoBulk d + 1
  | .map entries => uptoBulkEntries entries + 1
  | .held _ => 1
def uptoBulkAll {H : Type} : List (DataW H) → Nat
  | [] => 0
  | d :: r => uptoBulk d + uptoBulkAll r
def uptoBulkEntries {H : Type} : List (Lit × DataW H) → Nat
  | [] => 0
  | x :: r => uptoBulkEntry x + uptoBulkEntries r
def uptoBulkEntry {H : Type} : Lit × DataW H → Nat
  | (.string bytes, d) => bytes.length + uptoBulk d + 1
  | (_, d) => uptoBulk d + 1
 end
def uptoSmall : (H : Type) → List (DataW H) → Bool := fun _ ds => decide (uptoBulkAll ds ≤ 1048576)
def OpenSpec.upto (s : _root_.Go.ChangeSpec) : _root_.Go.OpenSpec := { _root_.Go.OpenSpec.ofChange s with cond := some uptoSmall }

/-- 'laws.FnZlibGet', WHERE WHAT IT READS IS OF BULK AT MOST 1048576: true; the input reads as it did. -/
def fnZlibGetUptoRow : OpenClaim := { program := "ytejebodgfoihkabgreat", sum := "12b279c0951a8d1d48d51a3a27e0b864f8f2fde97ae3ff8776fbd0bb4fd7e13b", func := "loop.example/intarsia/laws.FnZlibGet", spec := "fnZlibGet", unfollowed := true, recurses := true, plainKeys := false, apart := false, narrowed := true }
def FnZlibGetUptoSaid : Prop := fnZlibGetUptoRow.holds Tryz.pinned (OpenSpec.upto fnZlibGetSpec)

/-- 'laws.FnDeflate', WHERE WHAT IT READS IS OF BULK AT MOST 1048576: true; the input reads as it did. -/
def fnDeflateUptoRow : OpenClaim := { program := "ytejebodgfoihkabgreat", sum := "12b279c0951a8d1d48d51a3a27e0b864f8f2fde97ae3ff8776fbd0bb4fd7e13b", func := "loop.example/intarsia/laws.FnDeflate", spec := "fnDeflate", unfollowed := true, recurses := true, plainKeys := false, apart := false, narrowed := true }
def FnDeflateUptoSaid : Prop := fnDeflateUptoRow.holds Tryz.pinned (OpenSpec.upto fnDeflateSpec)

/-- 'laws.FnZlib', WHERE WHAT IT READS IS OF BULK AT MOST 1048576: true; the input reads as it did. -/
def fnZlibUptoRow : OpenClaim := { program := "ytejebodgfoihkabgreat", sum := "12b279c0951a8d1d48d51a3a27e0b864f8f2fde97ae3ff8776fbd0bb4fd7e13b", func := "loop.example/intarsia/laws.FnZlib", spec := "fnZlib", unfollowed := true, recurses := true, plainKeys := false, apart := false, narrowed := true }
def FnZlibUptoSaid : Prop := fnZlibUptoRow.holds Tryz.pinned (OpenSpec.upto fnZlibSpec)

end Rows
end Go.Proofs.YtejebodgfoihkabGreat
