/- A symbol as bits: the specification's l3Sym. -/
import Derived.Test.YtjdilanmkgodnaaTurnWalks
import Derived.Test.YtjdilanmkgodnaaIntsWalks
import Derived.StillTailTactics
namespace Go.Proofs.Ytjdilanmkgodnaa
open Go.RowKit

theorem Ints.at {w : World} {a : Option Addr} {zs : List Int} (h : Ints w a zs) {i : Nat} (hi : i < zs.length) :
    ∃ b off, a = some ⟨b, off, none⟩ ∧ b < w.heap.size ∧ w.cell? ⟨b, off + i, none⟩ = some (.int .i64 zs[i]) := by
  rcases h with h | ⟨b, off, rfl, hbB, hc⟩
  · rw [h] at hi; simp at hi
  · exact ⟨b, off, rfl, hbB, hc i hi⟩

set_option maxHeartbeats 1000000 in
set_option maxRecDepth 20000 in
theorem l3Sym_any (a1 a2 : Option Addr) (n c1 c2 k V S : Nat) (cs ls : List Int) (w : World) (h1 : Ints w a1 cs) (h2 : Ints w a2 ls) (hn1 : cs.length = n) (hn2 : ls.length = n) (hk : k < n)
    (hV : cs[k]'(by omega) = (V : Int)) (hS : ls[k]'(by omega) = (S : Int)) (hVb : V ≤ 16777216) (hSb : S ≤ 15) :
    Calls Try.prog 46 #[.slice a1 n c1, .slice a2 n c2, .int .i64 k] w fun e w' => e = .returned (.agg #[.int .i64 (turned V S : Nat), .int .i64 S]) ∧ Below w.heap.size w w' := by
  obtain ⟨b1, o1, rfl, hb1, e1⟩ := h1.at (show k < cs.length by omega)
  obtain ⟨b2, o2, rfl, hb2, e2⟩ := h2.at (show k < ls.length by omega)
  rw [hV] at e1
  rw [hS] at e2
  have hki : (k : Int) < (n : Int) := by omega
  have hk0 : (0 : Int) ≤ (k : Int) := by omega
  have HT : Hid (∀ w, Calls Try.prog 60 #[.int .i64 V, .int .i64 S] w fun e w' => e = .returned (.int .i64 (turned V S : Nat)) ∧ w' = w) := fun w => l3Turn_any V S w hVb hSb
  generalize turned V S = T at *
  clear h1 h2 hn1 hn2 hV hS
  have f1 : (w.alloc (.cells #[.int .i64 0, .int .i64 0] 40)).cell? ⟨b1, o1 + k, none⟩ = some (.int .i64 (V : Int)) := (World.cell?_alloc_past _ _ _ hb1).trans e1
  have f2 : (w.alloc (.cells #[.int .i64 0, .int .i64 0] 40)).cell? ⟨b2, o2 + k, none⟩ = some (.int .i64 (S : Int)) := (World.cell?_alloc_past _ _ _ hb2).trans e2
  have f3 : (w.alloc (.cells #[.int .i64 0, .int .i64 0] 40)).cell? ⟨w.heap.size, 0, none⟩ = some (.int .i64 0) := by rw [World.cell?_alloc_at _ _ _ _ rfl]; rfl
  have f4 : (w.alloc (.cells #[.int .i64 0, .int .i64 0] 40)).cell? ⟨w.heap.size, 1, none⟩ = some (.int .i64 0) := by rw [World.cell?_alloc_at _ _ _ _ rfl]; rfl
  have f5 : (w.alloc (.cells #[.int .i64 0, .int .i64 0] 40)).frozen? ⟨w.heap.size, 0, none⟩ = false := by rw [World.frozen?_alloc_at _ _ _ _ rfl]
  have f6 : (w.alloc (.cells #[.int .i64 0, .int .i64 0] 40)).frozen? ⟨w.heap.size, 1, none⟩ = false := by rw [World.frozen?_alloc_at _ _ _ _ rfl]
  have hbel : Below w.heap.size w (w.alloc (.cells #[.int .i64 0, .int .i64 0] 40)) := (Below.refl _ _).alloc (Nat.le_refl _) _
  have HF : Hid (_ ∧ _ ∧ _ ∧ _ ∧ _ ∧ _ ∧ _) := ⟨f1, f2, f3, f4, f5, f6, hbel⟩
  clear f1 f2 f3 f4 f5 f6 hbel
  go_enter Try.func46, Try.ntmps46
  go_wp2_with fail
  obtain ⟨f1, f2, f3, f4, f5, f6, hbel⟩ := HF.out
  clear HF e1 e2 hb1 hb2
  generalize w.alloc (.cells #[.int .i64 0, .int .i64 0] 40) = W at *
  go_still_tail 14, (by kernel_rfl)
  still_call (HT.out _)
  repeat still_step
  refine wpStill_nil ?_
  go_wp2_with fail
  refine bodyPost_ret (v := .agg #[.int .i64 (T : Int), .int .i64 (S : Int)]) (by simp [results, Try.results46, go_sem, *]) rfl ⟨rfl, (hbel.drew.setCell (p := ⟨w.heap.size, 0, none⟩) (Nat.le_refl _) _).setCell (p := ⟨w.heap.size, 1, none⟩) (Nat.le_refl _) _⟩
end Go.Proofs.Ytjdilanmkgodnaa
