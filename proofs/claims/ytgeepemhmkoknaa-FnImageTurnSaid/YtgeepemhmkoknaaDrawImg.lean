/- Any picture, drawn of a code. -/
import Derived.Test.YtgeepemhmkoknaaAnyDraw
import Derived.Test.YtgeepemhmkoknaaRowCode
namespace Go.Proofs.Ytgeepemhmkoknaa
open Go.RowKit

set_option maxHeartbeats 1000000 in
theorem drawImageFlip_any (a : Option Addr) (len cap : Nat) (w : World) (h : Code8 w a len cap) :
    Calls Try.prog 9 #[.slice a len cap] w fun e w' => AnyOut w.heap.size e w' ∧ Below w.heap.size w w' := by
  obtain ⟨W0, hW0⟩ : ∃ W0, W0 = w.alloc (.cells #[.int .i64 0, .int .i64 0, .int .i64 0, .int .i64 0, .slice none 0 0, .slice none 0 0] 25) := ⟨_, rfl⟩
  have hs0 : w.heap.size < W0.heap.size := by rw [hW0]; simp
  have hB0 : Below w.heap.size w W0 := by rw [hW0]; exact (Below.refl _ _).alloc (Nat.le_refl _) _
  have HZ0 : Hid (W0.heap[w.heap.size]? = some (.cells #[.int .i64 0, .int .i64 0, .int .i64 0, .int .i64 0, .slice none 0 0, .slice none 0 0] 25 (0, 0))) := by rw [hW0]; exact heap_alloc_new _ _
  have HOP : Hid (Calls Try.prog 37 #[.slice a len cap] W0 fun e w' => e = .returned (.pointer (some ⟨W0.heap.size, 0, none⟩)) ∧ RdAt w' W0.heap.size 0 ∧ Below W0.heap.size W0 w') := open_any a len cap W0 (h.kept hB0)
  have HB0 : Hid (Below w.heap.size w W0) := hB0
  clear h hB0
  go_enter Try.func9, Try.ntmps9
  go_upto_region 1 with fail
  rw [← hW0]
  clear hW0
  go_wp2_with fail
  refine HOP.out.mono ?_
  rintro e w1 ⟨rfl, hR, b1⟩
  have HAN : Hid (Calls Try.prog 36 #[.pointer (some ⟨W0.heap.size, 0, none⟩)] w1 fun e w' => AnyOut w1.heap.size e w' ∧ (∃ q, q ≤ 0 + 6000 ∧ RdAt w' W0.heap.size q) ∧ Only W0.heap.size w1 w') := l14Any_any W0.heap.size 0 w1 hR (by omega)
  have HB1 : Hid (Below W0.heap.size W0 w1) := b1
  have hsz1 := b1.size
  clear HOP hR b1
  go_wp2_with fail
  refine HAN.out.mono ?_
  rintro e w3 ⟨⟨k3, d3, wd3, hi3, a3, n3, c3, cs3, b3, m3, cc3, ps3, rfl, i4, l4, l4', k4, i5, l5, l5', k5, bd⟩, _, hO3⟩
  have hres : w3.heap[w.heap.size]? = some (.cells #[.int .i64 0, .int .i64 0, .int .i64 0, .int .i64 0, .slice none 0 0, .slice none 0 0] 25 (0, 0)) := (hO3.rest _ (by omega) (by omega)).trans ((HB1.out.block _ (by omega)).trans HZ0.out)
  have HF : Hid (IntsFrom w3 (w.heap.size + 1) a3 cs3 ∧ IntsFrom w3 (w.heap.size + 1) b3 ps3 ∧ Below w.heap.size w w3) := ⟨i4.lower (by omega), i5.lower (by omega), HB0.out.trans ((HB1.out.mono (by omega)).trans (hO3.below.mono (by omega)))⟩
  have HL : Hid (cs3.length = n3 ∧ n3 ≤ 1000 ∧ n3 ≤ c3 ∧ ps3.length = m3 ∧ m3 ≤ 1000 ∧ m3 ≤ cc3 ∧ 0 ≤ k3 ∧ k3 ≤ 100 ∧ 0 ≤ d3 ∧ d3 ≤ 100 ∧ 0 ≤ wd3 ∧ wd3 ≤ 100 ∧ 0 ≤ hi3 ∧ hi3 ≤ 100) := ⟨l4, l4', k4, l5, l5', k5, bd⟩
  clear HAN i4 i5 hO3 l4 l4' k4 l5 l5' k5 bd HB0 HB1 HZ0
  have hI6 : (Try.prog.info? 25).map (·.size) = some (#[Value.int .i64 k3, .int .i64 d3, .int .i64 wd3, .int .i64 hi3, .slice a3 n3 c3, .slice b3 m3 cc3]).size := by kernel_rfl
  have h16 : (#[Value.int .i64 k3, .int .i64 d3, .int .i64 wd3, .int .i64 hi3, .slice a3 n3 c3, .slice b3 m3 cc3]).all (·.oneCell') = true := by simp [Value.oneCell']
  go_wp2_with (refine wpList_store_row rfl 25 (.tmp 2) (.tmp 5) rfl w.heap.size #[.int .i64 k3, .int .i64 d3, .int .i64 wd3, .int .i64 hi3, .slice a3 n3 c3, .slice b3 m3 cc3] rfl rfl 25 #[.int .i64 0, .int .i64 0, .int .i64 0, .int .i64 0, .slice none 0 0, .slice none 0 0] hres hI6 rfl h16 ?_)
  have hs2 := setRow_heap w3 w.heap.size _ #[.int .i64 k3, .int .i64 d3, .int .i64 wd3, .int .i64 hi3, .slice a3 n3 c3, .slice b3 m3 cc3] _ _ hres
  obtain ⟨f1, f2, f3⟩ := HF.out
  obtain ⟨g1, g2, g3, g4, g5, g6, g8⟩ := HL.out
  refine bodyPost_ret_by (results_cell_row (p := 2) (ty := 25) (by kernel_rfl) _ _ w.heap.size 25 _ (0, 0) _ rfl hs2 Try.underlying25 rfl (by kernel_rfl)) rfl
    ⟨⟨k3, d3, wd3, hi3, a3, n3, c3, cs3, b3, m3, cc3, ps3, rfl, (f1.row (by omega) _).lower (by omega), g1, g2, g3, (f2.row (by omega) _).lower (by omega), g4, g5, g6, g8⟩, f3.trans ((below_setRow _ _ _).mono (Nat.le_refl _))⟩

set_option maxHeartbeats 1000000 in
theorem drawImageTurn_any (a : Option Addr) (len cap : Nat) (w : World) (h : Code8 w a len cap) :
    Calls Try.prog 16 #[.slice a len cap] w fun e w' => AnyOut w.heap.size e w' ∧ Below w.heap.size w w' := by
  obtain ⟨W0, hW0⟩ : ∃ W0, W0 = w.alloc (.cells #[.int .i64 0, .int .i64 0, .int .i64 0, .int .i64 0, .slice none 0 0, .slice none 0 0] 25) := ⟨_, rfl⟩
  have hs0 : w.heap.size < W0.heap.size := by rw [hW0]; simp
  have hB0 : Below w.heap.size w W0 := by rw [hW0]; exact (Below.refl _ _).alloc (Nat.le_refl _) _
  have HZ0 : Hid (W0.heap[w.heap.size]? = some (.cells #[.int .i64 0, .int .i64 0, .int .i64 0, .int .i64 0, .slice none 0 0, .slice none 0 0] 25 (0, 0))) := by rw [hW0]; exact heap_alloc_new _ _
  have HOP : Hid (Calls Try.prog 37 #[.slice a len cap] W0 fun e w' => e = .returned (.pointer (some ⟨W0.heap.size, 0, none⟩)) ∧ RdAt w' W0.heap.size 0 ∧ Below W0.heap.size W0 w') := open_any a len cap W0 (h.kept hB0)
  have HB0 : Hid (Below w.heap.size w W0) := hB0
  clear h hB0
  go_enter Try.func16, Try.ntmps16
  go_upto_region 1 with fail
  rw [← hW0]
  clear hW0
  go_wp2_with fail
  refine HOP.out.mono ?_
  rintro e w1 ⟨rfl, hR, b1⟩
  have HAN : Hid (Calls Try.prog 36 #[.pointer (some ⟨W0.heap.size, 0, none⟩)] w1 fun e w' => AnyOut w1.heap.size e w' ∧ (∃ q, q ≤ 0 + 6000 ∧ RdAt w' W0.heap.size q) ∧ Only W0.heap.size w1 w') := l14Any_any W0.heap.size 0 w1 hR (by omega)
  have HB1 : Hid (Below W0.heap.size W0 w1) := b1
  have hsz1 := b1.size
  clear HOP hR b1
  go_wp2_with fail
  refine HAN.out.mono ?_
  rintro e w3 ⟨⟨k3, d3, wd3, hi3, a3, n3, c3, cs3, b3, m3, cc3, ps3, rfl, i4, l4, l4', k4, i5, l5, l5', k5, bd⟩, _, hO3⟩
  have hres : w3.heap[w.heap.size]? = some (.cells #[.int .i64 0, .int .i64 0, .int .i64 0, .int .i64 0, .slice none 0 0, .slice none 0 0] 25 (0, 0)) := (hO3.rest _ (by omega) (by omega)).trans ((HB1.out.block _ (by omega)).trans HZ0.out)
  have HF : Hid (IntsFrom w3 (w.heap.size + 1) a3 cs3 ∧ IntsFrom w3 (w.heap.size + 1) b3 ps3 ∧ Below w.heap.size w w3) := ⟨i4.lower (by omega), i5.lower (by omega), HB0.out.trans ((HB1.out.mono (by omega)).trans (hO3.below.mono (by omega)))⟩
  have HL : Hid (cs3.length = n3 ∧ n3 ≤ 1000 ∧ n3 ≤ c3 ∧ ps3.length = m3 ∧ m3 ≤ 1000 ∧ m3 ≤ cc3 ∧ 0 ≤ k3 ∧ k3 ≤ 100 ∧ 0 ≤ d3 ∧ d3 ≤ 100 ∧ 0 ≤ wd3 ∧ wd3 ≤ 100 ∧ 0 ≤ hi3 ∧ hi3 ≤ 100) := ⟨l4, l4', k4, l5, l5', k5, bd⟩
  clear HAN i4 i5 hO3 l4 l4' k4 l5 l5' k5 bd HB0 HB1 HZ0
  have hI6 : (Try.prog.info? 25).map (·.size) = some (#[Value.int .i64 k3, .int .i64 d3, .int .i64 wd3, .int .i64 hi3, .slice a3 n3 c3, .slice b3 m3 cc3]).size := by kernel_rfl
  have h16 : (#[Value.int .i64 k3, .int .i64 d3, .int .i64 wd3, .int .i64 hi3, .slice a3 n3 c3, .slice b3 m3 cc3]).all (·.oneCell') = true := by simp [Value.oneCell']
  go_wp2_with (refine wpList_store_row rfl 25 (.tmp 2) (.tmp 5) rfl w.heap.size #[.int .i64 k3, .int .i64 d3, .int .i64 wd3, .int .i64 hi3, .slice a3 n3 c3, .slice b3 m3 cc3] rfl rfl 25 #[.int .i64 0, .int .i64 0, .int .i64 0, .int .i64 0, .slice none 0 0, .slice none 0 0] hres hI6 rfl h16 ?_)
  have hs2 := setRow_heap w3 w.heap.size _ #[.int .i64 k3, .int .i64 d3, .int .i64 wd3, .int .i64 hi3, .slice a3 n3 c3, .slice b3 m3 cc3] _ _ hres
  obtain ⟨f1, f2, f3⟩ := HF.out
  obtain ⟨g1, g2, g3, g4, g5, g6, g8⟩ := HL.out
  refine bodyPost_ret_by (results_cell_row (p := 2) (ty := 25) (by kernel_rfl) _ _ w.heap.size 25 _ (0, 0) _ rfl hs2 Try.underlying25 rfl (by kernel_rfl)) rfl
    ⟨⟨k3, d3, wd3, hi3, a3, n3, c3, cs3, b3, m3, cc3, ps3, rfl, (f1.row (by omega) _).lower (by omega), g1, g2, g3, (f2.row (by omega) _).lower (by omega), g4, g5, g6, g8⟩, f3.trans ((below_setRow _ _ _).mono (Nat.le_refl _))⟩
end Go.Proofs.Ytgeepemhmkoknaa
