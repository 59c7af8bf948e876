/- Texts laid together: BpSpecTop. -/
import Derived.Test.YtcgmmpfckmhahaaGreatVEZlibPutCfTree
import Derived.Test.YtcgmmpfckmhahaaGreatKEZlibPutx0
import Derived.Test.YtcgmmpfckmhahaaGreatVEZlibPutBpPutH
/- BitsPut of the specification, for every list of bits. -/
namespace Go.Proofs.YtcgmmpfckmhahaaGreat
open Go.RowKit

theorem l1Put_any (hi : Bool) (a : Option Addr) (n cap : Nat) (l : List (Int × Int)) (w : World) (h : Bits2 w a l) (hn : l.length = n) (hl : n ≤ 2000000) (hf : Bp.Fits l l.length) :
    Calls Tryz.prog 14 #[.slice a n cap, .bool hi] w fun e w' => e = .returned (.string ⟨((Bp.text hi l).map UInt8.ofNat).toArray⟩) ∧ Below w.heap.size w w' := by
  cases hi
  · exact l1Put_low a n cap l w h hn hl hf
  · exact l1Put_high a n cap l w h hn hl hf

end Go.Proofs.YtcgmmpfckmhahaaGreat
