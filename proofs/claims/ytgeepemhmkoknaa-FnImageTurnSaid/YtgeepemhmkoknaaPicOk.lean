/- Small facts on pictures. -/
import Derived.Test.YtgeepemhmkoknaaImgDef
import Derived.Below
namespace Go.Proofs.Ytgeepemhmkoknaa
open Go.RowKit

theorem below_two (w : World) (o o' : Obj) : Below w.heap.size w ((w.alloc o).alloc o') := ((Below.refl _ _).alloc (Nat.le_refl _) _).alloc (by simp) _
theorem ok_open {k d wd hi : Int} {cs ps : List Int} (h : Im.okB k d wd hi cs ps = true) : Im.Ok k d wd hi cs ps := @of_decide_eq_true _ (Classical.propDecidable _) h
end Go.Proofs.Ytgeepemhmkoknaa
