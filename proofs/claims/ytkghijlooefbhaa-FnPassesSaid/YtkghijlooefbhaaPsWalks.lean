/- Lists of parts (six numbers each) in memory: held against each other, marked, and found again. -/
import Derived.Test.YtkghijlooefbhaaMarkFrom
import Derived.Deep.RegionHeld3
import Derived.Below
namespace Go.Proofs.Ytkghijlooefbhaa
open Go.RowKit

/-- six cells from a place on -/
theorem ints_six {w : World} {a : Option Addr} {l : List Int} (h : Ints w a l) {k n : Nat} (hn : l.length = n * 6) (hk : k < n) : ∃ b off, a = some ⟨b, off, none⟩ ∧ b < w.heap.size ∧
    w.cell? ⟨b, off + k * 6, none⟩ = some (.int .i64 (l.getD (k * 6) 0)) ∧ w.cell? ⟨b, off + k * 6 + 1, none⟩ = some (.int .i64 (l.getD (k * 6 + 1) 0)) ∧ w.cell? ⟨b, off + k * 6 + 2, none⟩ = some (.int .i64 (l.getD (k * 6 + 2) 0)) ∧
    w.cell? ⟨b, off + k * 6 + 3, none⟩ = some (.int .i64 (l.getD (k * 6 + 3) 0)) ∧ w.cell? ⟨b, off + k * 6 + 4, none⟩ = some (.int .i64 (l.getD (k * 6 + 4) 0)) ∧ w.cell? ⟨b, off + k * 6 + 5, none⟩ = some (.int .i64 (l.getD (k * 6 + 5) 0)) := by
  rcases h with h | ⟨b, off, rfl, hb, hc⟩
  · rw [h] at hn; simp at hn; omega
  · have H : ∀ j, j < 6 → w.cell? ⟨b, off + (k * 6 + j), none⟩ = some (.int .i64 (l.getD (k * 6 + j) 0)) := fun j hj => by
      have hlt : k * 6 + j < l.length := by omega
      rw [hc (k * 6 + j) hlt, List.getD_eq_getElem?_getD, List.getElem?_eq_getElem hlt]; rfl
    exact ⟨b, off, rfl, hb, H 0 (by omega), H 1 (by omega), H 2 (by omega), H 3 (by omega), H 4 (by omega), H 5 (by omega)⟩

theorem mixS_next (f : Nat → Int) (k n : Nat) {w : World} {b t : Nat} (h : Own w b n (mixS 1 f k)) (hk : k < n) (ht : t = 1 + k) : Own (w.setCell ⟨b, k, none⟩ (.int .i64 (t : Int))) b n (mixS 1 f (k + 1)) :=
  h.stepS (k := k) (g := mixS 1 f (k + 1)) (t : Int) hk (by rw [mixS_lt 1 f (by omega), ht]) (fun i _ hne => by
    by_cases e : i < k
    · rw [mixS_lt 1 f e, mixS_lt 1 f (by omega)]
    · rw [mixS_ge 1 f e, mixS_ge 1 f (by omega)])

theorem Own.at {w : World} {b n k : Nat} {f : Nat → Int} (h : Own w b n f) (hk : k < n) : ∃ x : Int, w.cell? ⟨b, k, none⟩ = some (.int .i64 x) ∧ w.frozen? ⟨b, k, none⟩ = false := ⟨_, h.2 k hk⟩

end Go.Proofs.Ytkghijlooefbhaa
