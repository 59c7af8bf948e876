/- Rows that came in, copied into rows of their own. -/
import Derived.Test.YtlpfedhehfbfeaaReTop
import Derived.Test.YtlpfedhehfbfeaaRlNew
import Derived.Test.YtlpfedhehfbfeaaMarkBase
namespace Go.Proofs.Ytlpfedhehfbfeaa
open Go.RowKit

/-- so many rows are copied -/
structure Tr (w : World) (Q n : Nat) (ls : List (List Int)) (k : Nat) (wr : World) : Prop where
  below : Below Q w wr
  lt : Q < wr.heap.size
  todo : ∀ y, k ≤ y → y < n → wr.cell? ⟨Q, y, none⟩ = some (.slice none 0 0)
  free : ∀ y, y < n → wr.frozen? ⟨Q, y, none⟩ = false
  done : ∀ y (_ : y < ls.length), y < k → ∃ r, Q < r ∧ r < wr.heap.size ∧ wr.cell? ⟨Q, y, none⟩ = some (.slice (some ⟨r, 0, none⟩) ls[y].length ls[y].length) ∧ ∀ i (_ : i < ls[y].length), wr.cell? ⟨r, i, none⟩ = some (.int .i64 ls[y][i])
theorem Tr.more {w wr : World} {Q n k : Nat} {ls : List (List Int)} (h : Tr w Q n ls k wr) (hk : k < ls.length) (hn : ls.length = n) : Tr w Q n ls (k + 1) ((wr.alloc (.cells (cp ls[k] ls[k].length) 3)).setCell ⟨Q, k, none⟩ (.slice (some ⟨wr.heap.size, 0, none⟩) ls[k].length ls[k].length)) := by
  have hl := h.lt
  refine ⟨(h.below.alloc (Nat.le_of_lt hl) _).setCell (p := ⟨Q, k, none⟩) (Nat.le_refl _) _, by rw [World.size_setCell, World.size_alloc]; omega, fun y h1 h2 => ?_, fun y h1 => ?_, fun y hy h1 => ?_⟩
  · rw [World.cell?_setCell_other _ _ _ _ (fun q => by have q2 : k = y := congrArg Addr.off q; omega), World.cell?_alloc_past _ Q y hl]
    exact h.todo y (by omega) h2
  · rw [World.frozen?_setCell, World.frozen?_alloc_past _ Q y hl]; exact h.free y h1
  · by_cases e : y = k
    · subst e
      refine ⟨wr.heap.size, hl, by rw [World.size_setCell, World.size_alloc]; omega, ?_, fun i hi => ?_⟩
      · rw [World.cell?_setCell_same _ _ _ ((World.cell?_alloc_past _ Q y hl).trans (h.todo y (Nat.le_refl _) (by omega)))]
      · rw [World.cell?_setCell_other _ _ _ _ (fun q => by have q2 : Q = wr.heap.size := congrArg Addr.block q; omega), ((own_cp wr ls[y] _ rfl).2 i hi).1]
        show some (Value.int IntKind.i64 (ls[y].getD i 0)) = _
        rw [List.getD_eq_getElem?_getD, List.getElem?_eq_getElem hi]
        rfl
    · obtain ⟨r, h2, h3, h4, h5⟩ := h.done y hy (by omega)
      refine ⟨r, h2, by rw [World.size_setCell, World.size_alloc]; omega, ?_, fun i hi => ?_⟩
      · rw [World.cell?_setCell_other _ _ _ _ (fun q => e (congrArg Addr.off q).symm), World.cell?_alloc_past _ Q y hl]; exact h4
      · rw [World.cell?_setCell_other _ _ _ _ (fun q => by have q2 : Q = r := congrArg Addr.block q; omega), World.cell?_alloc_past _ r i h3]; exact h5 i hi
theorem Tr.rows {w wr : World} {Q n : Nat} {ls : List (List Int)} (h : Tr w Q n ls n wr) (hn : ls.length = n) : Rows2 wr (some ⟨Q, 0, none⟩) ls := by
  refine .inr ⟨Q, 0, rfl, h.lt, fun i hi => ?_⟩
  obtain ⟨r, h2, h3, h4, h5⟩ := h.done i hi (by omega)
  exact ⟨some ⟨r, 0, none⟩, _, by rw [Nat.zero_add]; exact h4, .inr ⟨r, 0, rfl, h3, fun j hj => by rw [Nat.zero_add]; exact h5 j hj⟩, Nat.le_refl _⟩

set_option maxHeartbeats 2000000 in
set_option maxRecDepth 20000 in
theorem toRows_any (a : Option Addr) (cap n : Nat) (ls : List (List Int)) (w : World) (h : Rows2 w a ls) (hn : ls.length = n) (hb : n ≤ 2000000) (hm : ∀ l ∈ ls, l.length ≤ 2000000) :
    Calls Try.prog 16 #[.slice a n cap] w fun e w' => e = .returned (.slice (some ⟨w.heap.size, 0, none⟩) n n) ∧ Tr w w.heap.size n ls n w' := by
  have hmk := make_rows n hb
  have HR : Hid (Rows2 w a ls) := h
  have HN : Hid (ls.length = n) := hn
  have HM : Hid (∀ l ∈ ls, l.length ≤ 2000000) := hm
  obtain ⟨W2, hW2⟩ : ∃ W2, W2 = w.alloc (.cells (madeCells #[.slice none 0 0] n) 26) := ⟨_, rfl⟩
  have HT0 : Hid (Tr w w.heap.size n ls 0 W2) := by
    rw [hW2]
    exact ⟨(Below.refl _ _).alloc (Nat.le_refl _) _, by simp, fun y _ hy => by rw [World.cell?_alloc_at _ _ _ _ rfl, made_get _ _ _ hy], fun y hy => by rw [World.frozen?_alloc_at _ _ _ _ rfl], fun y _ hy => by omega⟩
  have hW2' : w.alloc (.cells (madeCells #[.slice none 0 0] n) 26) = W2 := hW2.symm
  obtain ⟨Q, hQ⟩ : ∃ Q, Q = w.heap.size := ⟨_, rfl⟩
  have HQ : Hid (Q = w.heap.size) := hQ
  rw [← hQ] at HT0
  clear hW2 h hn hm hQ
  go_enter Try.func16, Try.ntmps16
  go_wp2_with fail
  rw [← HQ.out]
  go_loopw [4] (fun i wr => ∃ k : Nat, k ≤ n ∧ i = .int .i64 (k : Int) ∧ Hid (Tr w Q n ls k wr)) (fun i _ => n - (intOf i).toNat)
  case atStart => exact ⟨0, Nat.zero_le _, rfl, HT0⟩
  case round =>
    obtain ⟨k, hk, rfl, HT⟩ := hrel
    clear HT0 hW2' hmk
    by_cases hlt : k < n
    · have hki : (k : Int) < (n : Int) := by omega
      have hkl : k < ls.length := by rw [HN.out]; exact hlt
      have hbw : Below w.heap.size w wr := by have := HT.out.below; rw [HQ.out] at this; exact this
      obtain ⟨R, off, a', cap', rfl, hcell, hints⟩ := (HR.out.kept hbw).at hkl
      have HTI : Hid (Calls Try.prog 36 #[.slice a' ls[k].length cap'] wr fun e w' => e = .returned (.slice (some ⟨wr.heap.size, 0, none⟩) ls[k].length ls[k].length) ∧ w' = wr.alloc (.cells (cp ls[k] ls[k].length) 3)) := toInts_exact a' ls[k].length cap' ls[k] wr hints rfl (HM.out _ (List.getElem_mem hkl))
      have HT2 : Hid (Tr w Q n ls (k + 1) ((wr.alloc (.cells (cp ls[k] ls[k].length) 3)).setCell ⟨Q, k, none⟩ (.slice (some ⟨wr.heap.size, 0, none⟩) ls[k].length ls[k].length))) := HT.out.more hkl HN.out
      have hl := HT.out.lt
      have e1 := (World.cell?_alloc_past (.cells (cp ls[k] ls[k].length) 3) Q k hl).trans (HT.out.todo k (Nat.le_refl _) hlt)
      have f1 := (World.frozen?_alloc_past (.cells (cp ls[k] ls[k].length) 3) Q k hl).trans (HT.out.free k hlt)
      generalize cp ls[k] ls[k].length = C at *
      generalize ls[k].length = m at *
      obtain ⟨z, hz⟩ : ∃ z, z = wr.heap.size := ⟨_, rfl⟩
      rw [← hz] at HTI HT2
      obtain ⟨w3, hw3⟩ : ∃ w3, w3 = wr.alloc (.cells C 3) := ⟨_, rfl⟩
      rw [← hw3] at HTI HT2 e1 f1
      clear hints hbw HT hw3 hz hl
      go_wp2_with fail
      refine HTI.out.mono ?_
      rintro e w4 ⟨rfl, hw4⟩
      replace hw4 := hw4.symm
      subst hw4
      clear HTI hcell
      go_wp2_with fail
      go_roundw
      case rel => exact ⟨k + 1, by omega, by go_num, HT2⟩
      case measure => simp [intOf]; omega
    · have hki : ¬ (k : Int) < (n : Int) := by omega
      have hkn : k = n := by omega
      subst hkn
      go_wp2_with fail
      go_ret
      exact ⟨by rw [← HQ.out]; rfl, by rw [← HQ.out]; exact HT.out⟩
end Go.Proofs.Ytlpfedhehfbfeaa
