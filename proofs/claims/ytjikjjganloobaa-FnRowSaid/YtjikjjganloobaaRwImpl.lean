/- RowGet of the program, for every text, depth and count. -/
import Derived.Test.YtjikjjganloobaaBgTurn
import Derived.Test.YtjikjjganloobaaRwSpecTop
import Derived.Test.YtjikjjganloobaaMarkRow
namespace Go.Proofs.Ytjikjjganloobaa
open Go.RowKit

theorem reads_new' (w : World) (s : ByteArray) (T : TypeId) : Reads (w.alloc (.cells #[ordV true, .string s, .int .i64 0] T)) w.heap.size true s 0 := by
  refine ⟨?_, ?_, ?_, ?_⟩
  · rw [World.cell?_alloc_at _ _ _ _ rfl]; rfl
  · rw [World.cell?_alloc_at _ _ _ _ rfl]; rfl
  · rw [World.cell?_alloc_at _ _ _ _ rfl]; rfl
  · rw [World.frozen?_alloc_at _ _ _ _ rfl]

/-- k points read, noughts behind -/
def rowF (s : ByteArray) (D k i : Nat) : Int := if i < k then ((Rw.pt s D i : Nat) : Int) else 0

theorem own_new (w : World) (n : Nat) : Own (w.alloc (.cells (arr (List.replicate n 0)) 3)) w.heap.size n (fun _ => 0) := by
  refine ⟨by simp, fun i hi => ⟨?_, ?_⟩⟩
  · rw [World.cell?_alloc_at _ _ _ _ rfl, arr_get _ _ (by simpa using hi)]; simp
  · rw [World.frozen?_alloc_at _ _ _ _ rfl]

theorem Own.put {w : World} {b n k : Nat} {f g : Nat → Int} {v : Int} (h : Own w b n f) (hk : k < n) (hg : g k = v) (hf : ∀ i, i < n → i ≠ k → g i = f i) :
    Own (w.setCell ⟨b, k, none⟩ (.int .i64 v)) b n g := by
  refine ⟨by rw [World.size_setCell]; exact h.1, fun i hi => ⟨?_, ?_⟩⟩
  · by_cases e : i = k
    · subst e; rw [World.cell?_setCell_same _ _ _ (h.2 i hi).1, hg]
    · rw [World.cell?_setCell_other _ _ _ _ (fun q => e (congrArg Addr.off q).symm), (h.2 i hi).1, hf i hi e]
  · rw [World.frozen?_setCell]; exact (h.2 i hi).2

theorem own_row {w : World} {b n lo : Nat} {s : ByteArray} {D : Nat} (h : Own w b n (rowF s D n)) (hlo : lo ≤ b) : Owns w lo (some ⟨b, 0, none⟩) (Rw.row s D n) := by
  refine .inr ⟨b, rfl, hlo, h.1, fun i hi => ?_⟩
  rw [Rw.row_len] at hi
  have := h.2 i hi
  rw [Rw.row_get s D n i (by rw [Rw.row_len]; exact hi)]
  unfold rowF at this
  rw [if_pos hi] at this
  exact this

set_option maxHeartbeats 400000 in
theorem rowBytes_nat (C D P Q : Nat) (w : World) (hP : P = C * D) (hQ : Q = (P + 7) / 8) (hPb : P ≤ 100000) :
    Calls Try.prog 31 #[.int .i64 C, .int .i64 D] w fun e w' => e = .returned (.int .i64 Q) ∧ w' = w := by
  have e1 : (C : Int) * (D : Int) = (P : Int) := by rw [hP]; simp
  have e2 : ((P : Int) + 7) / 8 = (Q : Int) := by omega
  have e3 : ((P : Int) + 7).tdiv 8 = (Q : Int) := by rw [Int.tdiv_eq_ediv_of_nonneg (by omega)]; exact e2
  clear hP hQ
  go_enter Try.func31, Try.ntmps31
  go_wp2_with fail
  go_ret
  exact ⟨rfl, rfl⟩

set_option maxHeartbeats 2000000 in
set_option maxRecDepth 20000 in
theorem impl_rowGet_yes (s : ByteArray) (D C P Q : Nat) (w : World) (hd : depB (D : Int) = true) (hC : C ≤ 1000) (hD32 : D ≤ 32) (hP : P = C * D) (hQ : Q = (P + 7) / 8) (hsz : s.size = Q) :
    Calls Try.prog 10 #[.string s, .int .i64 D, .int .i64 C] w fun e w' => (∃ ao cap, e = .returned (.tuple #[.slice ao C cap, .bool true]) ∧ C ≤ cap ∧ Owns w' w.heap.size ao (Rw.row s D C)) ∧ Below w.heap.size w w' := by
  obtain ⟨hPb, hQb, hPQ⟩ := row_room hP hQ hC hD32
  have HDP : Hid (Calls Try.prog 30 #[.int .i64 (D : Int)] w fun e w' => e = .returned (.bool true) ∧ Below w.heap.size w w') := by
    have := depthOk_any (D : Int) w; rw [hd] at this; exact this
  have HRB : Hid (∀ w, Calls Try.prog 31 #[.int .i64 C, .int .i64 D] w fun e w' => e = .returned (.int .i64 Q) ∧ w' = w) := fun w => rowBytes_nat C D P Q w hP hQ (by omega)
  have d1 : decide ((C : Int) < 0) = false := by simp
  have d2 : decide ((1000 : Int) < (C : Int)) = false := by simp; omega
  have hsi : (s.size : Int) = (Q : Int) := by omega
  have HK : Hid (∀ k, k < C → k * D + D ≤ 8 * s.size) := by
    intro k hk
    have h1 : (k + 1) * D ≤ C * D := Nat.mul_le_mul_right _ hk
    rw [Nat.add_mul, Nat.one_mul, ← hP] at h1
    omega
  have hs9 : s.size ≤ 9000 := by omega
  have hmk := make_row C (by omega)
  have hord := fun w => orderOf_high w
  clear hP hQ hsz hPQ
  go_enter Try.func10, Try.ntmps10
  go_wp2_with fail
  refine HDP.out.mono ?_
  rintro e w1 ⟨rfl, b1⟩
  clear HDP
  go_wp2_with fail
  refine (HRB.out _).mono ?_
  rintro e w1 ⟨rfl, rfl⟩
  clear HRB
  go_wp2_with fail
  refine (orderOf_high _).mono ?_
  rintro e w2 ⟨rfl, hw2⟩
  subst hw2
  have hR0 := reads_new' w2 s 48
  have hO0 := own_new (w2.alloc (.cells #[ordV true, .string s, .int .i64 0] 48)) C
  have hR1 : Reads ((w2.alloc (.cells #[ordV true, .string s, .int .i64 0] 48)).alloc (.cells (arr (List.replicate C 0)) 3)) w2.heap.size true s 0 :=
    ⟨(World.cell?_alloc_past _ w2.heap.size 0 (by simp)).trans hR0.c0, (World.cell?_alloc_past _ w2.heap.size 1 (by simp)).trans hR0.c1, (World.cell?_alloc_past _ w2.heap.size 2 (by simp)).trans hR0.c2, (World.frozen?_alloc_past _ w2.heap.size 2 (by simp)).trans hR0.f2⟩
  have hb0 : Below w.heap.size w ((w2.alloc (.cells #[ordV true, .string s, .int .i64 0] 48)).alloc (.cells (arr (List.replicate C 0)) 3)) :=
    (b1.alloc b1.size _).alloc (by have := b1.size; simp; omega) _
  have HS : Hid (Reads _ w2.heap.size true s 0 ∧ Own _ _ C (fun _ => 0) ∧ Below w.heap.size w _) := ⟨hR1, hO0, hb0⟩
  have hBw : w.heap.size ≤ w2.heap.size := b1.size
  clear hR0 hO0 hR1 hb0 b1
  rw [World.size_alloc] at HS
  go_wp2_with fail
  go_loopw [40] (fun i wr => ∃ k : Nat, k ≤ C ∧ i = .int .i64 k ∧ Reads wr w2.heap.size true s (k * D) ∧ Own wr (w2.heap.size + 1) C (rowF s D k) ∧ Below w.heap.size w wr) (fun i _ => C - (intOf i).toNat)
  case atStart => exact ⟨0, Nat.zero_le _, rfl, by rw [Nat.zero_mul]; exact HS.out.1, HS.out.2.1, HS.out.2.2⟩
  case round =>
    obtain ⟨k, hk, rfl, hRd, hOw, hbel⟩ := hrel
    clear HS
    by_cases hlt : k < C
    · obtain ⟨x, hx⟩ : ∃ x, x = Rw.pt s D k := ⟨_, rfl⟩
      have HMV : Hid (Calls Try.prog 33 #[.iface 46 (.pointer (some ⟨w2.heap.size, 0, none⟩)), .func (.func 50) #[] #[], .int .i64 0, .int .i64 D] wr fun e w' => e = .returned (.tuple #[.int .i64 (x : Int), .bool true]) ∧ Reads w' w2.heap.size true s (k * D + D) ∧ Turned w2.heap.size wr w') := by
        rw [hx]; exact moveBitsT w2.heap.size (k * D) D s wr hRd hs9 (HK.out k hlt) hD32
      have HO : Hid (Own wr (w2.heap.size + 1) C (rowF s D k)) := hOw
      have HX : Hid (x = Rw.pt s D k) := hx
      clear hx hRd hOw
      have hki : (k : Int) < (C : Int) := by omega
      go_wp2_with fail
      refine HMV.out.mono ?_
      rintro e w4 ⟨rfl, hR4, hT4⟩
      have hO4 := hT4.own HO.out (by omega)
      have hb4 := hbel.trans (hT4.below hBw)
      obtain ⟨hcell, hfr⟩ := hO4.2 k hlt
      rw [show rowF s D k k = 0 from if_neg (Nat.lt_irrefl k)] at hcell
      have hO5 : Own (w4.setCell ⟨w2.heap.size + 1, k, none⟩ (.int .i64 (x : Int))) (w2.heap.size + 1) C (rowF s D (k + 1)) := by
        refine hO4.put hlt ?_ ?_
        · rw [HX.out]; exact if_pos (by omega)
        · intro i _ hne
          unfold rowF
          by_cases e : i < k
          · rw [if_pos e, if_pos (by omega)]
          · rw [if_neg e, if_neg (by omega)]
      have hT5 : Turned (w2.heap.size + 1) w4 (w4.setCell ⟨w2.heap.size + 1, k, none⟩ (.int .i64 (x : Int))) := (Turned.refl _ _).set k _
      have hR5 := hT5.reads hR4 (by omega)
      have hb5 := hb4.trans (hT5.below (by omega))
      have HN : Hid (Reads _ w2.heap.size true s (k * D + D) ∧ Own _ (w2.heap.size + 1) C (rowF s D (k + 1)) ∧ Below w.heap.size w _) := ⟨hR5, hO5, hb5⟩
      clear hR5 hO5 hb5 hT5 hO4 hb4 hR4 hT4 hbel HO HMV
      go_wp2_with fail
      go_roundw
      case rel => exact ⟨k + 1, by omega, by go_num, by rw [Nat.add_mul, Nat.one_mul]; exact HN.out.1, HN.out.2.1, HN.out.2.2⟩
      case measure => simp [intOf]; omega
    · have hk' : k = C := by omega
      subst hk'
      have HO := own_row (lo := w.heap.size) hOw (by omega)
      have H1 : Hid (Owns _ _ _ _) := HO
      clear HO hOw hRd
      go_wp2_with fail
      go_ret2
      exact ⟨⟨_, _, rfl, Nat.le_refl _, H1.out⟩, hbel⟩
end Go.Proofs.Ytjikjjganloobaa
