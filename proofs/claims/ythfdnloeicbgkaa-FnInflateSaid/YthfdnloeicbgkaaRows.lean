/-
  No cell of these rows narrows 'for every input' (looked for: loops, veiled, ifaces, maps, wideKeys, modest, calm, conditions, laid).
  DERIVED. THE GIVEN ROWS OF THIS SEAT. 3 by the template 'for every input the law returns true; each argument reads behind the call as it read before'; 0 by the template 'total and deterministic' (their statements: YthfdnloeicbgkaaTotals.lean).
  GIVEN WITH THE SEED: the statements are not yours to turn. If you find one false, say at which input.
  Laid BY PROGRAM, IN A SANDBOX (cutbox-rows.mjs): the forced cells as the released guide's own fill.sh prints them over the translation a8698a5f08087665… (all of the seat's roots in one cut). By AI agents, Wed Nov 11 2026. No macro, syntax, notation, axiom, sorry.
-/
import Derived.Test.YthfdnloeicbgkaaChecked
import GoSem.Claim
import GoSem.ClaimJoined
import GoSem.ClaimMapViews
import Derived.JoinedTies
import Derived.KernelRfl
namespace Go.Proofs.Ythfdnloeicbgkaa
/- THE CELL 'sum', in the pinned program and in every row, IS THE sha256 OF THE DUMP (.gsa) THAT YthfdnloeicbgkaaProg.lean LOADS. Nothing in Lean hashes anything: it is a label: what it is worth is what the hold of that sum in a sandbox is worth. -/
noncomputable def Try.pinned : Pinned := { name := "ythfdnloeicbgkaa", sum := "a8698a5f08087665534dd9b3d3cb8aa9c83e9717ee9bebeeec5a7d2c241e8d0b", checked := Try.checked }
namespace Rows
def none {H : Type} : Left H := { results := [], args := [] }

/-- 'laws.FnInflate': WHATEVER THE INPUT: true; the input reads as it did. -/
def fnInflateSpec : ChangeSpec := { name := "fnInflate", fn := fun _ => fun
  | [d] => { results := [.lit (.bool true)], args := [d] }
  | _ => none }
def fnInflateRow : OpenClaim := { program := "ythfdnloeicbgkaa", sum := "a8698a5f08087665534dd9b3d3cb8aa9c83e9717ee9bebeeec5a7d2c241e8d0b", func := "loop.example/intarsia/laws.FnInflate", spec := "fnInflate", unfollowed := true, recurses := true, plainKeys := false, apart := false }
def FnInflateSaid : Prop := fnInflateRow.holds Try.pinned (OpenSpec.ofChange fnInflateSpec)

/-- ITS FALSE NEIGHBOUR: 'it returns false'. Refute it at one input. -/
def fnInflateWrong : ChangeSpec := { name := "fnInflate", fn := fun _ => fun
  | [d] => { results := [.lit (.bool false)], args := [d] }
  | _ => none }
def FnInflateWrongFalsely : Prop := fnInflateRow.holds Try.pinned (OpenSpec.ofChange fnInflateWrong)

/-- 'laws.FnInflateLimit': WHATEVER THE INPUT: true; the input reads as it did. -/
def fnInflateLimitSpec : ChangeSpec := { name := "fnInflateLimit", fn := fun _ => fun
  | [d] => { results := [.lit (.bool true)], args := [d] }
  | _ => none }
def fnInflateLimitRow : OpenClaim := { program := "ythfdnloeicbgkaa", sum := "a8698a5f08087665534dd9b3d3cb8aa9c83e9717ee9bebeeec5a7d2c241e8d0b", func := "loop.example/intarsia/laws.FnInflateLimit", spec := "fnInflateLimit", unfollowed := true, recurses := true, plainKeys := false, apart := false }
def FnInflateLimitSaid : Prop := fnInflateLimitRow.holds Try.pinned (OpenSpec.ofChange fnInflateLimitSpec)

/-- ITS FALSE NEIGHBOUR: 'it returns false'. Refute it at one input. -/
def fnInflateLimitWrong : ChangeSpec := { name := "fnInflateLimit", fn := fun _ => fun
  | [d] => { results := [.lit (.bool false)], args := [d] }
  | _ => none }
def FnInflateLimitWrongFalsely : Prop := fnInflateLimitRow.holds Try.pinned (OpenSpec.ofChange fnInflateLimitWrong)

/-- 'laws.FnExactDeflate': WHATEVER THE INPUT: true; the input reads as it did. -/
def fnExactDeflateSpec : ChangeSpec := { name := "fnExactDeflate", fn := fun _ => fun
  | [d1, d2] => { results := [.lit (.bool true)], args := [d1, d2] }
  | _ => none }
def fnExactDeflateRow : OpenClaim := { program := "ythfdnloeicbgkaa", sum := "a8698a5f08087665534dd9b3d3cb8aa9c83e9717ee9bebeeec5a7d2c241e8d0b", func := "loop.example/intarsia/laws.FnExactDeflate", spec := "fnExactDeflate", unfollowed := true, recurses := true, plainKeys := false, apart := false }
def FnExactDeflateSaid : Prop := fnExactDeflateRow.holds Try.pinned (OpenSpec.ofChange fnExactDeflateSpec)

/-- ITS FALSE NEIGHBOUR: 'it returns false'. Refute it at one input. -/
def fnExactDeflateWrong : ChangeSpec := { name := "fnExactDeflate", fn := fun _ => fun
  | [d1, d2] => { results := [.lit (.bool false)], args := [d1, d2] }
  | _ => none }
def FnExactDeflateWrongFalsely : Prop := fnExactDeflateRow.holds Try.pinned (OpenSpec.ofChange fnExactDeflateWrong)

/- THE SECOND FORM. 'bulk': how many values and letters a reading holds, each counted each time it is reached (what is shared counts as often as it is met; a slice's spare places count too). A statement '..UptoSaid' is the law's where the arguments, and the package variables that the reading takes, are together of bulk at most 1048576: NARROWER than '..Said'. Prove '..Said' where nothing that the law and all that it calls make is longer than what came in: it says more and counts as full. Else prove '..UptoSaid'. A law counts once. -/
mutual
def uptoBulk {H : Type} : DataW H → Nat
  | .lit (.string bytes) => bytes.length + 1
  | .lit _ => 1
  | .nil => 1
  | .ptr d => uptoBulk d + 1
  | .slice elems spare => uptoBulkAll elems + uptoBulkAll spare + 1
  | .agg parts => uptoBulkAll parts + 1
  | .iface _ d => uptoBulk d + 1
  | .map entries => uptoBulkEntries entries + 1
  | .held _ => 1
def uptoBulkAll {H : Type} : List (DataW H) → Nat
  | [] => 0
  | d :: r => uptoBulk d + uptoBulkAll r
def uptoBulkEntries {H : Type} : List (Lit × DataW H) → Nat
  | [] => 0
  | x :: r => uptoBulkEntry x + uptoBulkEntries r
def uptoBulkEntry {H : Type} : Lit × DataW H → Nat
  | (.string bytes, d) => bytes.length + uptoBulk d + 1
  | (_, d) => uptoBulk d + 1
 end
def uptoSmall : (H : Type) → List (DataW H) → Bool := fun _ ds => decide (uptoBulkAll ds ≤ 1048576)
def OpenSpec.upto (s : _root_.Go.ChangeSpec) : _root_.Go.OpenSpec := { _root_.Go.OpenSpec.ofChange s with cond := some uptoSmall }

/-- 'laws.FnInflate', WHERE WHAT IT READS IS OF BULK AT MOST 1048576: true; the input reads as it did. -/
def fnInflateUptoRow : OpenClaim := { program := "ythfdnloeicbgkaa", sum := "a8698a5f08087665534dd9b3d3cb8aa9c83e9717ee9bebeeec5a7d2c241e8d0b", func := "loop.example/intarsia/laws.FnInflate", spec := "fnInflate", unfollowed := true, recurses := true, plainKeys := false, apart := false, narrowed := true }
def FnInflateUptoSaid : Prop := fnInflateUptoRow.holds Try.pinned (OpenSpec.upto fnInflateSpec)

/-- 'laws.FnInflateLimit', WHERE WHAT IT READS IS OF BULK AT MOST 1048576: true; the input reads as it did. -/
def fnInflateLimitUptoRow : OpenClaim := { program := "ythfdnloeicbgkaa", sum := "a8698a5f08087665534dd9b3d3cb8aa9c83e9717ee9bebeeec5a7d2c241e8d0b", func := "loop.example/intarsia/laws.FnInflateLimit", spec := "fnInflateLimit", unfollowed := true, recurses := true, plainKeys := false, apart := false, narrowed := true }
def FnInflateLimitUptoSaid : Prop := fnInflateLimitUptoRow.holds Try.pinned (OpenSpec.upto fnInflateLimitSpec)

/-- 'laws.FnExactDeflate', WHERE WHAT IT READS IS OF BULK AT MOST 1048576: true; the input reads as it did. -/
def fnExactDeflateUptoRow : OpenClaim := { program := "ythfdnloeicbgkaa", sum := "a8698a5f08087665534dd9b3d3cb8aa9c83e9717ee9bebeeec5a7d2c241e8d0b", func := "loop.example/intarsia/laws.FnExactDeflate", spec := "fnExactDeflate", unfollowed := true, recurses := true, plainKeys := false, apart := false, narrowed := true }
def FnExactDeflateUptoSaid : Prop := fnExactDeflateUptoRow.holds Try.pinned (OpenSpec.upto fnExactDeflateSpec)

end Rows
end Go.Proofs.Ythfdnloeicbgkaa
