/- A list of ints in memory: read, copied, compared. -/
import Derived.Test.YtjmeaeimpkijmaaGreatDoorProg
import Derived.Test.YtjmeaeimpkijmaaGreatDoorBase
import Derived.Laws.MakeOwn
namespace Go.Proofs.YtjmeaeimpkijmaaGreatDoor
open Go.RowKit

/-- the slice's cells read as the list -/
def Ints (w : World) (a : Option Addr) (zs : List Int) : Prop :=
  zs = [] ∨ ∃ b off, a = some ⟨b, off, none⟩ ∧ b < w.heap.size ∧ ∀ i (h : i < zs.length), w.cell? ⟨b, off + i, none⟩ = some (.int .i64 zs[i])

theorem Ints.kept {w w' : World} {a : Option Addr} {zs : List Int} (h : Ints w a zs) (hb : Below w.heap.size w w') : Ints w' a zs := by
  rcases h with h | ⟨b, off, rfl, hbB, hc⟩
  · exact .inl h
  · exact .inr ⟨b, off, rfl, Nat.lt_of_lt_of_le hbB hb.size, fun i hi => (hb.cell (p := ⟨b, off + i, none⟩) hbB).trans (hc i hi)⟩

/-- a new row, its first k cells copied -/
def cp (zs : List Int) (k : Nat) : Array Value := ((List.range zs.length).map fun j => Value.int .i64 (if j < k then zs.getD j 0 else 0)).toArray

theorem cp_size (zs : List Int) (k : Nat) : (cp zs k).size = zs.length := by simp [cp]
theorem cp_get (zs : List Int) (k j : Nat) (h : j < zs.length) : (cp zs k)[j]? = some (Value.int .i64 (if j < k then zs.getD j 0 else 0)) := by
  simp [cp, h]
theorem cp_set (zs : List Int) (k : Nat) (h : k < zs.length) : (cp zs k).setIfInBounds k (.int .i64 zs[k]) = cp zs (k + 1) := by
  apply Array.ext_getElem?
  intro j
  rw [Array.getElem?_setIfInBounds, cp_size]
  by_cases hj : j < zs.length
  · rw [cp_get _ _ _ hj, cp_get _ _ _ hj]
    by_cases e : k = j
    · subst e; simp [h]
    · rw [if_neg e]
      by_cases l : j < k
      · rw [if_pos l, if_pos (by omega)]
      · rw [if_neg l, if_neg (by omega)]
  · rw [if_neg (by omega), Array.getElem?_eq_none (by rw [cp_size]; omega), Array.getElem?_eq_none (by rw [cp_size]; omega)]

theorem made_cp (zs : List Int) : madeCells #[Value.int .i64 0] (zs.length * 1) = cp zs 0 := by
  apply Array.ext_getElem?
  intro j
  by_cases hj : j < zs.length
  · rw [cp_get _ _ _ hj, Nat.mul_one]
    unfold madeCells
    simp [hj, Nat.mod_one]
  · rw [Array.getElem?_eq_none (by rw [size_madeCells]; omega), Array.getElem?_eq_none (by rw [cp_size]; omega)]

theorem info_int : (Tryz.prog.info? 3).map (fun i => (i.zero, i.size, i.bytes)) = some (some (.int .i64 0), 1, 8) := by kernel_rfl

theorem make_ints (zs : List Int) (n : Nat) (hn : zs.length = n) (hl : n ≤ 2000000) (w : World) :
    (Instr.makeSlice 26 (.int .i64 (n : Int)) (.int .i64 (n : Int))).run Tryz.prog w = .ok (.slice (some ⟨w.heap.size, 0, none⟩) n n) (w.alloc (.cells (cp zs 0) 3)) := by
  obtain ⟨i0, hi, hz0, hz1, hz2⟩ := info_parts info_int
  have h := run_make (P := Tryz.prog) w 26 3 i0 (.int .i64 0) Tryz.underlying26 hi hz0 .i64 .i64 (n : Int) (n : Int) (by omega) (by omega) (by rw [hz2]; omega) (by omega)
  rw [h, Int.toNat_natCast, hz1, ← made_cp, hn]
  rfl

theorem ints_cp (w : World) (zs : List Int) : Ints (w.alloc (.cells (cp zs zs.length) 3)) (some ⟨w.heap.size, 0, none⟩) zs := by
  refine .inr ⟨w.heap.size, 0, rfl, by simp, fun i hi => ?_⟩
  rw [Nat.zero_add, World.cell?_alloc_at _ _ _ _ rfl, cp_get _ _ _ hi, if_pos hi, List.getD_eq_getElem?_getD, List.getElem?_eq_getElem hi]
  rfl

set_option maxHeartbeats 400000 in
theorem toInts_any (a : Option Addr) (n cap : Nat) (zs : List Int) (w : World) (h : Ints w a zs) (hn : zs.length = n) (hl : n ≤ 2000000) :
    Calls Tryz.prog 25 #[.slice a n cap] w fun e w' => e = .returned (.slice (some ⟨w.heap.size, 0, none⟩) n n) ∧ Ints w' (some ⟨w.heap.size, 0, none⟩) zs ∧ Below w.heap.size w w' := by
  have hmk := fun w => make_ints zs n hn hl w
  have HN : Hid (zs.length = n) := hn
  have HI : Hid (Ints w a zs) := h
  clear h
  have hzl : zs.length ≤ n := by omega
  have hzg : n ≤ zs.length := by omega
  clear hn
  go_enter Tryz.func25, Tryz.ntmps25
  go_wp2_with fail
  go_loopw [4] (fun i wr => ∃ k : Nat, k ≤ n ∧ i = .int .i64 k ∧ wr = w.alloc (.cells (cp zs k) 3)) (fun i _ => n - (intOf i).toNat)
  case atStart => exact ⟨0, Nat.zero_le _, rfl, rfl⟩
  case round =>
    obtain ⟨k, hk, rfl, rfl⟩ := hrel
    clear hmk
    by_cases hlt : k < n
    · have hkz : k < zs.length := by omega
      have HT : Hid ((cp zs k).setIfInBounds k (.int .i64 zs[k]) = cp zs (k + 1)) := cp_set zs k hkz
      have hg : (cp zs k)[k]? = some (.int .i64 0) := by rw [cp_get _ _ _ hkz]; simp
      rcases HI.out with h | ⟨b, off, rfl, hbB, hc⟩
      · rw [h] at hkz; simp at hkz
      · have hck := (World.cell?_alloc_past (.cells (cp zs k) 3) b (off + k) hbB).trans (hc k hkz)
        have hki : (k : Int) < (n : Int) := by omega
        clear hc
        generalize cp zs k = A at *
        generalize zs[k] = x at *
        go_wp2_with fail
        go_roundw
        case rel => exact ⟨k + 1, by omega, by go_num, by rw [HT.out]⟩
        case measure => simp [intOf]; omega
    · have hk' : k = zs.length := by omega
      go_wp2_with fail
      go_ret
      subst hk'
      exact ⟨rfl, ints_cp w zs, (Below.refl _ _).alloc (Nat.le_refl _) _⟩

set_option maxHeartbeats 400000 in
theorem eqInts_same (a : Option Addr) (cap : Nat) (b : Option Addr) (cap' n : Nat) (zs : List Int) (w : World) (h : Ints w a zs) (g : Ints w b zs) (hn : zs.length = n) (hl : n ≤ 2000000) :
    Calls Tryz.prog 26 #[.slice a n cap, .slice b n cap'] w fun e w' => e = .returned (.bool true) ∧ ∃ m, w' = w.drewN m := by
  have HI : Hid (Ints w a zs) := h
  have HG : Hid (Ints w b zs) := g
  clear h g
  have hzg : n ≤ zs.length := by omega
  clear hn
  go_enter Tryz.func26, Tryz.ntmps26
  go_wp2_with fail
  go_loopw [5] (fun i wr => ∃ k m : Nat, k ≤ n ∧ i = .int .i64 k ∧ wr = w.drewN m) (fun i _ => n - (intOf i).toNat)
  case atStart => exact ⟨0, 0, Nat.zero_le _, rfl, rfl⟩
  case round =>
    obtain ⟨k, m, hk, rfl, rfl⟩ := hrel
    by_cases hlt : k < n
    · have hkz : k < zs.length := by omega
      rcases HI.out with h | ⟨b1, off1, rfl, hb1, hc1⟩
      · rw [h] at hkz; simp at hkz
      · rcases HG.out with h | ⟨b2, off2, rfl, hb2, hc2⟩
        · rw [h] at hkz; simp at hkz
        · have e1 := hc1 k hkz
          have e2 := hc2 k hkz
          have hki : (k : Int) < (n : Int) := by omega
          clear hc1 hc2
          generalize zs[k] = x at *
          go_wp2_with fail
          go_region
          all_goals go_wp2_with fail
          all_goals
            go_roundw
            case rel => exact ⟨k + 1, m + 1, by omega, by go_num, rfl⟩
            case measure => simp [intOf]; omega
    · go_wp2_with fail
      go_ret
      exact ⟨rfl, m, rfl⟩
end Go.Proofs.YtjmeaeimpkijmaaGreatDoor
