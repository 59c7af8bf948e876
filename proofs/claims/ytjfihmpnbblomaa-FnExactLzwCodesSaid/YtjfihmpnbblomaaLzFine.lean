/- What can be read by LZW at all; two new blocks. -/
import Derived.Test.YtjfihmpnbblomaaLzSmall
import Derived.RangeFuncBox
namespace Go.Proofs.Ytjfihmpnbblomaa
open Go.RowKit

def LzFine (s : ByteArray) (b : Int) (wide : Bool) (limit : Int) : Prop := Lz.ok b wide = true ∧ s.size ≤ 9000 ∧ 0 ≤ limit ∧ limit ≤ 5000
theorem duo1 (w : World) (a b : Obj) : ((w.alloc a).alloc b).heap[w.heap.size + 1]? = some b := by
  have := World.alloc_heap_new (w.alloc a) b; simpa using this
theorem duo0 (w : World) (a b : Obj) : ((w.alloc a).alloc b).heap[w.heap.size]? = some a :=
  (Below.heap_alloc _ _ _ (by simp)).trans (World.alloc_heap_new w a)
end Go.Proofs.Ytjfihmpnbblomaa
