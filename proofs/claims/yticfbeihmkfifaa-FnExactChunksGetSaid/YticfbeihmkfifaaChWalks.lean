/- A list of pieces that came in: measured, copied, compared. -/
import Derived.Test.YticfbeihmkfifaaChMake
import Derived.Deep.RegionHeld3
import Derived.Test.YticfbeihmkfifaaChEq
namespace Go.Proofs.Yticfbeihmkfifaa
open Go.RowKit

set_option maxHeartbeats 400000 in
theorem toChunk_any (v s : ByteArray) (w : World) :
    Calls Try.prog 60 #[.agg #[.string v, .string s]] w fun e w' => e = .returned (.agg #[.string v, .string s]) ∧ Below w.heap.size w w' := by
  go_enter Try.func60, Try.ntmps60
  go_wp2_with fail
  refine bodyPost_ret (v := .agg #[.string v, .string s]) (by simp [results, Try.results60, go_sem]) rfl ⟨rfl, (((Below.refl _ _).alloc (Nat.le_refl _) _).alloc (by simp) _).alloc (by simp; omega) _⟩

set_option maxHeartbeats 1000000 in
theorem toChunks_any (a : Option Addr) (n cap : Nat) (l : List (ByteArray × ByteArray)) (w : World) (h : Chs2 w a l) (hn : l.length = n) (hl : n ≤ 2000000) :
    Calls Try.prog 30 #[.slice a n cap] w fun e w' => e = .returned (.slice (some ⟨w.heap.size, 0, none⟩) n n) ∧ Chs2 w' (some ⟨w.heap.size, 0, none⟩) l ∧ Below w.heap.size w w' := by
  have hmk := fun w => make_chunks n hl w
  have hO := own_chmade w l (by omega)
  rw [hn] at hO
  have HO : Hid (OwnC _ _ _ _ _) := hO
  have HN : Hid (l.length = n) := hn
  have HI : Hid (Chs2 w a l) := h
  have hzl : l.length ≤ n := by omega
  have hzg : n ≤ l.length := by omega
  clear h hO hn
  go_enter Try.func30, Try.ntmps30
  go_wp2_with fail
  go_loopw [4] (fun i wr => ∃ k : Nat, k ≤ n ∧ i = .int .i64 k ∧ OwnC wr w.heap.size (.slice (some ⟨w.heap.size, 0, none⟩) n n) n (chHalf l k) ∧ Below w.heap.size w wr) (fun i _ => n - (intOf i).toNat)
  case atStart => exact ⟨0, Nat.zero_le _, rfl, HO.out, (Below.refl _ _).alloc (Nat.le_refl _) _⟩
  case round =>
    obtain ⟨k, hk, rfl, hown, hbel⟩ := hrel
    clear hmk HO
    by_cases hlt : k < n
    · have hkl : k < l.length := by omega
      obtain ⟨b, off, rfl, hbB, hc1, hc2⟩ := HI.out.at hkl
      have e1 := (hbel.cell (p := ⟨b, off + k * 2, none⟩) hbB).trans hc1
      have e2 := (hbel.cell (p := ⟨b, off + k * 2 + 1, none⟩) hbB).trans hc2
      have HS : Hid ((chHalf l k).set k ((l[k]).1, (l[k]).2) = chHalf l (k + 1)) := chHalf_set l k hkl
      have hki : (k : Int) < (n : Int) := by omega
      have HT := fun w => toChunk_any (l[k]).1 (l[k]).2 w
      clear hc1 hc2
      generalize (l[k]).1 = v at *
      generalize (l[k]).2 = s at *
      have HTT : Hid (∀ w, Calls Try.prog 60 #[.agg #[.string v, .string s]] w fun e w' => e = .returned (.agg #[.string v, .string s]) ∧ Below w.heap.size w w') := HT
      clear HT
      go_wp2_with fail
      refine (HTT.out _).mono ?_
      rintro e w2 ⟨rfl, bel2⟩
      have hown2 : OwnC w2 w.heap.size (.slice (some ⟨w.heap.size, 0, none⟩) n n) n (chHalf l k) := hown.same (fun j hj _ => bel2.block j hj)
      have hb2 := hbel.trans (bel2.mono hbel.size)
      have hg := chHalf_get l k hkl
      have hx1 : (chCells (chHalf l k))[k * 2]? = some (.string ((chHalf l k)[k]).1) := (chCells_get _ k hg).1
      have hx2 : (chCells (chHalf l k))[k * 2 + 1]? = some (.string ((chHalf l k)[k]).2) := (chCells_get _ k hg).2
      have g1 := (World.ownsRow.cellAt hown2 (k * 2) (by omega)).trans hx1
      have g2 := (World.ownsRow.cellAt hown2 (k * 2 + 1) (by omega)).trans hx2
      have z1 := World.ownsRow.frozenAt hown2 (k * 2)
      have z2 := World.ownsRow.frozenAt hown2 (k * 2 + 1)
      have hp := hown2.put hlt v s
      rw [HS.out] at hp
      have HP : Hid (OwnC _ _ _ _ _) := hp
      generalize ((chHalf l k)[k]).1 = y1 at *
      generalize ((chHalf l k)[k]).2 = y2 at *
      clear hp hown hown2 hx1 hx2 bel2 hbel e1 e2 HTT HS hg
      go_wp2_with fail
      go_roundw
      case rel => exact ⟨k + 1, by omega, by go_num, HP.out, (hb2.setCell (p := ⟨w.heap.size, k * 2, none⟩) (Nat.le_refl _) _).setCell (p := ⟨w.heap.size, k * 2 + 1, none⟩) (Nat.le_refl _) _⟩
      case measure => simp [intOf]; omega
    · have hk' : k = l.length := by omega
      have hfin := hown
      rw [hk', chHalf_all] at hfin
      obtain ⟨ao, c, e, hB⟩ := hfin.chs
      simp only [Value.slice.injEq] at e
      obtain ⟨rfl, _, _⟩ := e
      have HBF : Hid (Chs2 wr (some ⟨w.heap.size, 0, none⟩) l) := hB
      clear hfin hown hB hk'
      go_wp2_with fail
      go_ret
      exact ⟨rfl, HBF.out, hbel⟩
end Go.Proofs.Yticfbeihmkfifaa
