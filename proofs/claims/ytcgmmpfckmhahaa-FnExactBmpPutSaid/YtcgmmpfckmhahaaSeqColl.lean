/- slices.Collect and AppendSeq of ints, against whatever iterator that reads memory (the contract 'SeqStopsK' at 'Below'). -/
import Derived.RangeFuncBox
import Derived.RangeFuncLeaves
import Derived.RangeFuncWrites
import Derived.Shelf.Abstract
import Derived.WalkKit
import Derived.OwnWalkIn
import Derived.TacticsInMore
import Derived.LoopNIn
import Derived.LoopIn
import Derived.Maps.AppendAt
import Derived.Test.YtcgmmpfckmhahaaProg
import Derived.Test.YtcgmmpfckmhahaaBase
namespace Go.Proofs.Ytcgmmpfckmhahaa
open Go.RowKit Go.Shelf

attribute [local go_sem] Oper.semAt_some

theorem info_int_c : (Try.prog.info? 3).map (fun i => (i.zero, i.size, i.bytes)) = some (some (.int .i64 0), 1, 8) := by kernel_rfl

/-- the iterator's word: the ints xs come, in that order -/
def Tells (n : Nat) (g : Nat) (lb : Array Value) (n₀ : Nat) (xs : List Int) (w : World) : Prop :=
  SeqStopsK Fence.wide n Try.prog g lb (fun x : Int => #[Value.int .i64 x]) (Below n₀) (fun ys => ys = xs) (fun pre => pre <+: xs) xs.length w

end Go.Proofs.Ytcgmmpfckmhahaa
