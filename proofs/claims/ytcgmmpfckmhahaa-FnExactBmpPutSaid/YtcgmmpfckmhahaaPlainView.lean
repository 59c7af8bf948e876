/- What a picture as it is answers, for views over it: for the walks of the program. -/
import Derived.Test.YtcgmmpfckmhahaaDrawnWalks
import Derived.Test.YtcgmmpfckmhahaaAtWalks
namespace Go.Proofs.Ytcgmmpfckmhahaa
open Go.RowKit

theorem plain_ns (k d : Int) (Wd Hi : Nat) (ca : Option Addr) (cn cc : Nat) (pa : Option Addr) (pn pc : Nat) (w : World) : (nilAhead 301 75 (.agg #[.int .i64 k, .int .i64 d, .int .i64 (Wd : Int), .int .i64 (Hi : Int), .slice ca cn cc, .slice pa pn pc]) "loop.example/intarsia/impl.size").run Try.prog w = .ok (some false) w := by kernel_rfl
theorem plain_ma (k d : Int) (Wd Hi : Nat) (ca : Option Addr) (cn cc : Nat) (pa : Option Addr) (pn pc : Nat) (w : World) : (method 301 75 (.agg #[.int .i64 k, .int .i64 d, .int .i64 (Wd : Int), .int .i64 (Hi : Int), .slice ca cn cc, .slice pa pn pc]) "loop.example/intarsia/impl.at").run Try.prog w = .ok (158, .agg #[.int .i64 k, .int .i64 d, .int .i64 (Wd : Int), .int .i64 (Hi : Int), .slice ca cn cc, .slice pa pn pc]) w := by kernel_rfl
theorem plain_na (k d : Int) (Wd Hi : Nat) (ca : Option Addr) (cn cc : Nat) (pa : Option Addr) (pn pc : Nat) (w : World) : (nilAhead 301 75 (.agg #[.int .i64 k, .int .i64 d, .int .i64 (Wd : Int), .int .i64 (Hi : Int), .slice ca cn cc, .slice pa pn pc]) "loop.example/intarsia/impl.at").run Try.prog w = .ok (some false) w := by kernel_rfl
theorem heap_alloc2_new (w : World) (o o' : Obj) : ((w.alloc o).alloc o').heap[w.heap.size + 1]? = some o' := by
  have := heap_alloc_new (w.alloc o) o'; rw [World.size_alloc] at this; exact this
theorem Pair2.lower {w : World} {lo lo' : Nat} {x y : Option Addr} {cs ps : List Int} (h : Pair2 w lo x cs y ps) (hl : lo' ≤ lo) : Pair2 w lo' x cs y ps := by
  obtain ⟨m, h1, h2, h3, h4⟩ := h
  exact ⟨m, Nat.le_trans hl h1, h2.lower hl, h3, h4⟩
end Go.Proofs.Ytcgmmpfckmhahaa
