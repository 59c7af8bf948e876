/- A new row of ints, written cell by cell. -/
import Derived.Test.YtjmeaeimpkijmaaGreatDoorIntsWalks
namespace Go.Proofs.YtjmeaeimpkijmaaGreatDoor
open Go.RowKit

/-- a row of ints -/
def arr (l : List Int) : Array Value := (l.map (fun z => Value.int .i64 z)).toArray

theorem arr_set (l : List Int) (k : Nat) (v : Int) : (arr l).setIfInBounds k (.int .i64 v) = arr (l.set k v) := by
  unfold arr
  simp [List.map_set]
theorem arr_get (l : List Int) (k : Nat) (h : k < l.length) : (arr l)[k]? = some (.int .i64 l[k]) := by
  simp [arr, h]
theorem cp_arr (zs : List Int) : cp zs 0 = arr (List.replicate zs.length 0) := by
  apply Array.ext_getElem?
  intro j
  by_cases hj : j < zs.length
  · rw [cp_get _ _ _ hj, arr_get _ _ (by simpa using hj)]; simp
  · rw [Array.getElem?_eq_none (by rw [cp_size]; omega), Array.getElem?_eq_none (by simp [arr]; omega)]

theorem make_row (n : Nat) (hl : n ≤ 2000000) (w : World) :
    (Instr.makeSlice 26 (.int .i64 (n : Int)) (.int .i64 (n : Int))).run Tryz.prog w = .ok (.slice (some ⟨w.heap.size, 0, none⟩) n n) (w.alloc (.cells (arr (List.replicate n 0)) 3)) := by
  rw [make_ints (List.replicate n 0) n (by simp) hl w, cp_arr]; simp

/-- a list of the call's own, in a block from lo on: its cells can be written -/
def Owns (w : World) (lo : Nat) (a : Option Addr) (l : List Int) : Prop :=
  l = [] ∨ ∃ b, a = some ⟨b, 0, none⟩ ∧ lo ≤ b ∧ b < w.heap.size ∧ ∀ i (h : i < l.length), w.cell? ⟨b, i, none⟩ = some (.int .i64 l[i]) ∧ w.frozen? ⟨b, i, none⟩ = false

theorem Owns.ints {w : World} {lo : Nat} {a : Option Addr} {l : List Int} (h : Owns w lo a l) : Ints w a l := by
  rcases h with h | ⟨b, rfl, _, hb, hc⟩
  · exact .inl h
  · exact .inr ⟨b, 0, rfl, hb, fun i hi => by rw [Nat.zero_add]; exact (hc i hi).1⟩

theorem owns_arr (w : World) (l : List Int) : Owns (w.alloc (.cells (arr l) 3)) w.heap.size (some ⟨w.heap.size, 0, none⟩) l := by
  refine .inr ⟨w.heap.size, rfl, Nat.le_refl _, by simp, fun i hi => ⟨?_, ?_⟩⟩
  · rw [World.cell?_alloc_at _ _ _ _ rfl, arr_get _ _ hi]
  · rw [World.frozen?_alloc_at _ _ _ _ rfl]
end Go.Proofs.YtjmeaeimpkijmaaGreatDoor
