/- A new sheet. -/
import Derived.Test.YtlpfedhehfbfeaaRlMem
import Derived.Laws.MakeOwn
import Derived.StillTailTactics
import Derived.Deep.RegionHeld3
namespace Go.Proofs.Ytlpfedhehfbfeaa
open Go.RowKit

theorem info_row : (Try.prog.info? 26).map (fun i => (i.zero, i.size, i.bytes)) = some (some (.slice none 0 0), 1, 24) := by kernel_rfl
theorem info_int1 : (Try.prog.info? 3).map (fun i => (i.zero, i.size, i.bytes)) = some (some (.int .i64 0), 1, 8) := by kernel_rfl
theorem made_get (v : Value) (n i : Nat) (h : i < n) : (madeCells #[v] n)[i]? = some v := by
  unfold madeCells
  simp [h, Nat.mod_one]
theorem make_rows (n : Nat) (hl : n ≤ 2000000) (w : World) :
    (Instr.makeSlice 23 (.int .i64 (n : Int)) (.int .i64 (n : Int))).run Try.prog w = .ok (.slice (some ⟨w.heap.size, 0, none⟩) n n) (w.alloc (.cells (madeCells #[.slice none 0 0] n) 26)) := by
  obtain ⟨i0, hi, hz0, hz1, hz2⟩ := info_parts info_row
  have h := run_make (P := Try.prog) w 23 26 i0 (.slice none 0 0) Try.underlying23 hi hz0 .i64 .i64 (n : Int) (n : Int) (by omega) (by omega) (by rw [hz2]; omega) (by omega)
  rw [h, Int.toNat_natCast, hz1, Nat.mul_one]
  rfl
theorem make_nums (n : Nat) (hl : n ≤ 2000000) (w : World) :
    (Instr.makeSlice 26 (.int .i64 (n : Int)) (.int .i64 (n : Int))).run Try.prog w = .ok (.slice (some ⟨w.heap.size, 0, none⟩) n n) (w.alloc (.cells (madeCells #[.int .i64 0] n) 3)) := by
  obtain ⟨i0, hi, hz0, hz1, hz2⟩ := info_parts info_int1
  have h := run_make (P := Try.prog) w 26 3 i0 (.int .i64 0) Try.underlying26 hi hz0 .i64 .i64 (n : Int) (n : Int) (by omega) (by omega) (by rw [hz2]; omega) (by omega)
  rw [h, Int.toNat_natCast, hz1, Nat.mul_one]
  rfl

/-- so many rows are made -/
structure Ns (w : World) (R W H k : Nat) (wr : World) : Prop where
  size : wr.heap.size = R + 2 + k
  sheet : Sh wr (R + 1) (.slice (some ⟨R, 0, none⟩) H H) 0 0
  rows : ∀ y, y < H → wr.cell? ⟨R, y, none⟩ = some (if y < k then .slice (some ⟨R + 2 + y, 0, none⟩) W W else .slice none 0 0) ∧ wr.frozen? ⟨R, y, none⟩ = false
  nums : ∀ y, y < k → ∀ x, x < W → wr.cell? ⟨R + 2 + y, x, none⟩ = some (.int .i64 0) ∧ wr.frozen? ⟨R + 2 + y, x, none⟩ = false
  below : Below R w wr
def rowsAt (R H : Nat) : List Nat := (List.range H).map (fun y => R + 2 + y)
theorem rowsAt_len (R H : Nat) : (rowsAt R H).length = H := by simp [rowsAt]
theorem rowsAt_get (R H y : Nat) (h : y < (rowsAt R H).length) : (rowsAt R H)[y] = R + 2 + y := by simp [rowsAt]
theorem rowsAt_mem {R H b : Nat} (h : b ∈ rowsAt R H) : R + 2 ≤ b ∧ b < R + 2 + H := by
  simp only [rowsAt, List.mem_map, List.mem_range] at h
  obtain ⟨y, h1, rfl⟩ := h
  omega
theorem Ns.gd {w wr : World} {R W H : Nat} (h : Ns w R W H H wr) : Gd R wr R (rowsAt R H) W Rl.zero := by
  refine ⟨fun i j hi hj hne => by rw [rowsAt_get, rowsAt_get]; omega, fun b hb => by have := rowsAt_mem hb; omega, fun b hb => by have := rowsAt_mem hb; have := h.size; omega, fun y hy => ?_, fun y hy x hx => ?_⟩
  · have hy' : y < H := by rw [rowsAt_len] at hy; exact hy
    rw [rowsAt_get, (h.rows y hy').1, if_pos hy']
  · have hy' : y < H := by rw [rowsAt_len] at hy; exact hy
    rw [rowsAt_get]
    exact h.nums y hy' x hx
theorem Ns.drewN {w wr : World} {R W H k : Nat} (h : Ns w R W H k wr) (q : Nat) : Ns w R W H k (wr.drewN q) := ⟨h.size, h.sheet, h.rows, h.nums, below_drewN h.below q⟩
/-- one row more -/
theorem Ns.more {w wr : World} {R W H k : Nat} (h : Ns w R W H k wr) (hk : k < H) : Ns w R W H (k + 1) ((wr.alloc (.cells (madeCells #[.int .i64 0] W) 3)).setCell ⟨R, k, none⟩ (.slice (some ⟨wr.heap.size, 0, none⟩) W W)) := by
  have hz := h.size
  have hRl : R < wr.heap.size := by omega
  refine ⟨?_, ?_, fun y hy => ⟨?_, ?_⟩, fun y hy x hx => ⟨?_, ?_⟩, (h.below.alloc (by omega) _).setCell (p := ⟨R, k, none⟩) (Nat.le_refl _) _⟩
  · rw [World.size_setCell, World.size_alloc]; omega
  · exact (Below.heap_setCell _ ⟨R, k, none⟩ _ (R + 1) (fun e => by have e2 : R + 1 = R := e; omega)).trans ((Below.heap_alloc _ _ _ (by omega)).trans h.sheet)
  · by_cases e : y = k
    · subst e
      rw [World.cell?_setCell_same _ _ _ ((World.cell?_alloc_past _ R y hRl).trans (h.rows y hy).1), if_pos (by omega), hz]
    · rw [World.cell?_setCell_other _ _ _ _ (fun q => e (congrArg Addr.off q).symm), World.cell?_alloc_past _ R y hRl, (h.rows y hy).1]
      by_cases h2 : y < k
      · rw [if_pos h2, if_pos (by omega)]
      · rw [if_neg h2, if_neg (by omega)]
  · rw [World.frozen?_setCell, World.frozen?_alloc_past _ R y hRl]; exact (h.rows y hy).2
  · rw [World.cell?_setCell_other _ _ _ _ (fun q => by have q2 : R = R + 2 + y := congrArg Addr.block q; omega)]
    by_cases e : y = k
    · subst e
      rw [World.cell?_alloc_at _ _ _ _ (by rw [hz]), made_get _ _ _ hx]
    · rw [World.cell?_alloc_past _ _ _ (by omega)]; exact (h.nums y (by omega) x hx).1
  · rw [World.frozen?_setCell]
    by_cases e : y = k
    · subst e
      rw [World.frozen?_alloc_at _ _ _ _ (by rw [hz])]
    · rw [World.frozen?_alloc_past _ _ _ (by omega)]; exact (h.nums y (by omega) x hx).2

set_option maxHeartbeats 2000000 in
set_option maxRecDepth 20000 in
theorem newSheet_any (W H : Nat) (w : World) (hW : W ≤ 100) (hH : H ≤ 100) :
    Calls Try.prog 27 #[.int .i64 (W : Int), .int .i64 (H : Int)] w fun e w' => e = .returned (.pointer (some ⟨w.heap.size + 1, 0, none⟩)) ∧ Ns w w.heap.size W H H w' := by
  have hmk := make_rows H (by omega)
  have hmn := make_nums W (by omega)
  obtain ⟨W2, hW2⟩ : ∃ W2, W2 = (w.alloc (.cells (madeCells #[.slice none 0 0] H) 26)).alloc (.cells #[.slice (some ⟨w.heap.size, 0, none⟩) H H, .int .i64 0, .int .i64 0] 60) := ⟨_, rfl⟩
  have HN0 : Hid (Ns w w.heap.size W H 0 W2) := by
    rw [hW2]
    refine ⟨by simp, by
      have := World.alloc_heap_new (w.alloc (.cells (madeCells #[.slice none 0 0] H) 26)) (.cells #[.slice (some ⟨w.heap.size, 0, none⟩) H H, .int .i64 0, .int .i64 0] 60)
      unfold Sh; simpa using this, fun y hy => ⟨?_, ?_⟩, fun y hy => by omega, ((Below.refl _ _).alloc (Nat.le_refl _) _).alloc (by simp) _⟩
    · rw [World.cell?_alloc_past _ _ _ (by simp), World.cell?_alloc_at _ _ _ _ rfl, made_get _ _ _ hy, if_neg (by omega)]
    · rw [World.frozen?_alloc_past _ _ _ (by simp), World.frozen?_alloc_at _ _ _ _ rfl]
  have c0 := HN0.out.sheet.cells.1
  have hW2' : (w.alloc (.cells (madeCells #[.slice none 0 0] H) 26)).alloc (.cells #[.slice (some ⟨w.heap.size, 0, none⟩) H H, .int .i64 0, .int .i64 0] 60) = W2 := hW2.symm
  clear hW2
  go_enter Try.func27, Try.ntmps27
  go_wp2_with fail
  go_loopw [16] (fun i wr => ∃ k : Nat, k ≤ H ∧ i = .int .i64 (k : Int) ∧ Hid (Ns w w.heap.size W H k wr)) (fun i _ => H - (intOf i).toNat)
  case atStart => exact ⟨0, Nat.zero_le _, rfl, HN0⟩
  case round =>
    obtain ⟨k, hk, rfl, HN⟩ := hrel
    clear HN0 c0 hW2'
    by_cases hlt : k < H
    · have hki : (k : Int) < (H : Int) := by omega
      have d0 := HN.out.sheet.cells.1
      obtain ⟨e0, f0⟩ := HN.out.rows k hlt
      rw [if_neg (by omega)] at e0
      have hRl : w.heap.size < wr.heap.size := by have := HN.out.size; omega
      have e1 := (World.cell?_alloc_past (.cells (madeCells #[.int .i64 0] W) 3) w.heap.size k hRl).trans e0
      have f1 := (World.frozen?_alloc_past (.cells (madeCells #[.int .i64 0] W) 3) w.heap.size k hRl).trans f0
      have HN2 : Hid (Ns w w.heap.size W H (k + 1) ((wr.setCell ⟨w.heap.size, k, none⟩ (.slice (some ⟨wr.heap.size, 0, none⟩) W W)).alloc (.cells (madeCells #[.int .i64 0] W) 3)).drew) := by
        have h := HN.out.more hlt
        rw [World.setCell_alloc_past _ _ _ _ hRl] at h
        exact h.drewN 1
      have e2 : (wr.drew.alloc (.cells (madeCells #[.int .i64 0] W) 3)).cell? ⟨w.heap.size, k, none⟩ = some (.slice none 0 0) := e1
      have f2 : (wr.drew.alloc (.cells (madeCells #[.int .i64 0] W) 3)).frozen? ⟨w.heap.size, k, none⟩ = false := f1
      go_wp2_with fail
      go_region_held3 (fun w' => w'.cell? ⟨w.heap.size + 1, 0, none⟩ = some (.slice (some ⟨w.heap.size, 0, none⟩) H H)) (go_keep) (fail)
      clear e0 f0 e1 f1 e2 f2 d0 HN
      go_wp2_with fail
      go_roundw
      case rel => exact ⟨k + 1, by omega, by go_num, HN2.out⟩
      case measure => simp [intOf]; omega
    · have hki : ¬ (k : Int) < (H : Int) := by omega
      have hkH : k = H := by omega
      subst hkH
      go_wp2_with fail
      go_ret
      exact ⟨rfl, HN.out⟩
end Go.Proofs.Ytlpfedhehfbfeaa
