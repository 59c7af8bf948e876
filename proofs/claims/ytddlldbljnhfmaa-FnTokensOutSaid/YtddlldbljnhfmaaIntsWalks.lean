/- A list of ints in memory: read, copied, compared. -/
import Derived.Test.YtddlldbljnhfmaaProg
import Derived.Test.YtddlldbljnhfmaaBase
import Derived.Laws.MakeOwn
namespace Go.Proofs.Ytddlldbljnhfmaa
open Go.RowKit

/-- the slice's cells read as the list -/
def Ints (w : World) (a : Option Addr) (zs : List Int) : Prop :=
  zs = [] ∨ ∃ b off, a = some ⟨b, off, none⟩ ∧ b < w.heap.size ∧ ∀ i (h : i < zs.length), w.cell? ⟨b, off + i, none⟩ = some (.int .i64 zs[i])

theorem Ints.kept {w w' : World} {a : Option Addr} {zs : List Int} (h : Ints w a zs) (hb : Below w.heap.size w w') : Ints w' a zs := by
  rcases h with h | ⟨b, off, rfl, hbB, hc⟩
  · exact .inl h
  · exact .inr ⟨b, off, rfl, Nat.lt_of_lt_of_le hbB hb.size, fun i hi => (hb.cell (p := ⟨b, off + i, none⟩) hbB).trans (hc i hi)⟩

/-- a new row, its first k cells copied -/
def cp (zs : List Int) (k : Nat) : Array Value := ((List.range zs.length).map fun j => Value.int .i64 (if j < k then zs.getD j 0 else 0)).toArray

theorem cp_size (zs : List Int) (k : Nat) : (cp zs k).size = zs.length := by simp [cp]
theorem cp_get (zs : List Int) (k j : Nat) (h : j < zs.length) : (cp zs k)[j]? = some (Value.int .i64 (if j < k then zs.getD j 0 else 0)) := by
  simp [cp, h]
theorem cp_set (zs : List Int) (k : Nat) (h : k < zs.length) : (cp zs k).setIfInBounds k (.int .i64 zs[k]) = cp zs (k + 1) := by
  apply Array.ext_getElem?
  intro j
  rw [Array.getElem?_setIfInBounds, cp_size]
  by_cases hj : j < zs.length
  · rw [cp_get _ _ _ hj, cp_get _ _ _ hj]
    by_cases e : k = j
    · subst e; simp [h]
    · rw [if_neg e]
      by_cases l : j < k
      · rw [if_pos l, if_pos (by omega)]
      · rw [if_neg l, if_neg (by omega)]
  · rw [if_neg (by omega), Array.getElem?_eq_none (by rw [cp_size]; omega), Array.getElem?_eq_none (by rw [cp_size]; omega)]

theorem made_cp (zs : List Int) : madeCells #[Value.int .i64 0] (zs.length * 1) = cp zs 0 := by
  apply Array.ext_getElem?
  intro j
  by_cases hj : j < zs.length
  · rw [cp_get _ _ _ hj, Nat.mul_one]
    unfold madeCells
    simp [hj, Nat.mod_one]
  · rw [Array.getElem?_eq_none (by rw [size_madeCells]; omega), Array.getElem?_eq_none (by rw [cp_size]; omega)]

theorem info_int : (Try.prog.info? 3).map (fun i => (i.zero, i.size, i.bytes)) = some (some (.int .i64 0), 1, 8) := by kernel_rfl

theorem make_ints (zs : List Int) (n : Nat) (hn : zs.length = n) (hl : n ≤ 2000000) (w : World) :
    (Instr.makeSlice 33 (.int .i64 (n : Int)) (.int .i64 (n : Int))).run Try.prog w = .ok (.slice (some ⟨w.heap.size, 0, none⟩) n n) (w.alloc (.cells (cp zs 0) 3)) := by
  obtain ⟨i0, hi, hz0, hz1, hz2⟩ := info_parts info_int
  have h := run_make (P := Try.prog) w 33 3 i0 (.int .i64 0) Try.underlying33 hi hz0 .i64 .i64 (n : Int) (n : Int) (by omega) (by omega) (by rw [hz2]; omega) (by omega)
  rw [h, Int.toNat_natCast, hz1, ← made_cp, hn]
  rfl

theorem ints_cp (w : World) (zs : List Int) : Ints (w.alloc (.cells (cp zs zs.length) 3)) (some ⟨w.heap.size, 0, none⟩) zs := by
  refine .inr ⟨w.heap.size, 0, rfl, by simp, fun i hi => ?_⟩
  rw [Nat.zero_add, World.cell?_alloc_at _ _ _ _ rfl, cp_get _ _ _ hi, if_pos hi, List.getD_eq_getElem?_getD, List.getElem?_eq_getElem hi]
  rfl

end Go.Proofs.Ytddlldbljnhfmaa
