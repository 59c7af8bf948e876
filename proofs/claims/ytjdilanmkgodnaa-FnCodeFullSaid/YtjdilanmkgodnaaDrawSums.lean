/- The draws of the laws on sums. -/
import Derived.Test.YtjdilanmkgodnaaDrawWalks
import Derived.Test.YtjdilanmkgodnaaCrWalks
namespace Go.Proofs.Ytjdilanmkgodnaa
open Go.RowKit

set_option maxHeartbeats 400000 in
theorem drawCrc32_any (a : Option Addr) (len cap : Nat) (w : World) (h : Code8 w a len cap) :
    Calls Try.prog 28 #[.slice a len cap] w fun e w' => (∃ t : ByteArray, e = .returned (.string t) ∧ t.size ≤ 9001) ∧ Below w.heap.size w w' := by
  go_enter Try.func28, Try.ntmps28
  go_wp2_with fail
  refine (open_any a len cap w h).mono ?_
  rintro e w1 ⟨rfl, hR, bel⟩
  go_wp2_with fail
  refine (text_any w.heap.size 0 w1 hR (by omega)).mono ?_
  rintro e w2 ⟨⟨t, rfl, ht⟩, _, bel2⟩
  go_wp2_with fail
  go_ret
  exact ⟨⟨t, rfl, ht⟩, bel.trans bel2.below⟩

theorem six_get (A B C D E F : Int) (v : Nat) (hv : (v : Int) < 6) (lo hi : Int) (ha : lo ≤ A ∧ A ≤ hi) (hb : lo ≤ B ∧ B ≤ hi) (hc : lo ≤ C ∧ C ≤ hi) (hd : lo ≤ D ∧ D ≤ hi) (he : lo ≤ E ∧ E ≤ hi) (hf : lo ≤ F ∧ F ≤ hi) :
    ∃ s : Int, (lo ≤ s ∧ s ≤ hi) ∧ (#[Value.int .i64 A, Value.int .i64 B, Value.int .i64 C, Value.int .i64 D, Value.int .i64 E, Value.int .i64 F])[v]? = some (Value.int .i64 s) := by
  have h : v = 0 ∨ v = 1 ∨ v = 2 ∨ v = 3 ∨ v = 4 ∨ v = 5 := by omega
  rcases h with rfl | rfl | rfl | rfl | rfl | rfl
  · exact ⟨A, ha, rfl⟩
  · exact ⟨B, hb, rfl⟩
  · exact ⟨C, hc, rfl⟩
  · exact ⟨D, hd, rfl⟩
  · exact ⟨E, he, rfl⟩
  · exact ⟨F, hf, rfl⟩

theorem five_get (A B C D E : Int) (v : Nat) (hv : (v : Int) < 5) (lo hi : Int) (ha : lo ≤ A ∧ A ≤ hi) (hb : lo ≤ B ∧ B ≤ hi) (hc : lo ≤ C ∧ C ≤ hi) (hd : lo ≤ D ∧ D ≤ hi) (he : lo ≤ E ∧ E ≤ hi) :
    ∃ s : Int, (lo ≤ s ∧ s ≤ hi) ∧ (#[Value.int .i64 A, Value.int .i64 B, Value.int .i64 C, Value.int .i64 D, Value.int .i64 E])[v]? = some (Value.int .i64 s) := by
  have h : v = 0 ∨ v = 1 ∨ v = 2 ∨ v = 3 ∨ v = 4 := by omega
  rcases h with rfl | rfl | rfl | rfl | rfl
  · exact ⟨A, ha, rfl⟩
  · exact ⟨B, hb, rfl⟩
  · exact ⟨C, hc, rfl⟩
  · exact ⟨D, hd, rfl⟩
  · exact ⟨E, he, rfl⟩

end Go.Proofs.Ytjdilanmkgodnaa
