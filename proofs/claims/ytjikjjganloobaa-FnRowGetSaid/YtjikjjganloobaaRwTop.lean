/- RowGet of the program, whatever is asked. -/
import Derived.Test.YtjikjjganloobaaRwImpl
namespace Go.Proofs.Ytjikjjganloobaa
open Go.RowKit

set_option maxHeartbeats 1000000 in
theorem impl_rowGet (s : ByteArray) (d c : Int) (w : World) (_hs : s.size ≤ 1048576) :
    Calls Try.prog 10 #[.string s, .int .i64 d, .int .i64 c] w fun e w' => (∃ ao L cap, e = .returned (.tuple #[.slice ao L cap, .bool (Rw.thereB s.size d c)]) ∧ (Rw.ans s d c).length = L ∧ L ≤ cap ∧ Owns w' w.heap.size ao (Rw.ans s d c)) ∧ Below w.heap.size w w' := by
  by_cases hd : depB d = true
  · have HDP : Hid (Calls Try.prog 30 #[.int .i64 d] w fun e w' => e = .returned (.bool true) ∧ Below w.heap.size w w') := by
      have := depthOk_any d w; rw [hd] at this; exact this
    by_cases hc0 : c < 0
    · have HT : Hid (Rw.thereB s.size d c = false ∧ Rw.ans s d c = []) := ⟨Rw.thereB_no (fun g => by have := g.2.1; omega), Rw.ans_no (fun g => by have := g.2.1; omega)⟩
      have d1 : decide (c < 0) = true := by simpa using hc0
      go_enter Try.func10, Try.ntmps10
      go_wp2_with fail
      refine HDP.out.mono ?_
      rintro e w1 ⟨rfl, b1⟩
      clear HDP
      go_wp2_with fail
      go_ret2
      rw [HT.out.1, HT.out.2]
      exact ⟨⟨_, _, _, rfl, rfl, Nat.le_refl _, .inl rfl⟩, b1⟩
    · have d1 : decide (c < 0) = false := by simpa using hc0
      by_cases hc1 : 1000 < c
      · have HT : Hid (Rw.thereB s.size d c = false ∧ Rw.ans s d c = []) := ⟨Rw.thereB_no (fun g => by have := g.2.2.1; omega), Rw.ans_no (fun g => by have := g.2.2.1; omega)⟩
        have d2 : decide (1000 < c) = true := by simpa using hc1
        go_enter Try.func10, Try.ntmps10
        go_wp2_with fail
        refine HDP.out.mono ?_
        rintro e w1 ⟨rfl, b1⟩
        clear HDP
        go_wp2_with fail
        go_ret2
        rw [HT.out.1, HT.out.2]
        exact ⟨⟨_, _, _, rfl, rfl, Nat.le_refl _, .inl rfl⟩, b1⟩
      · have d2 : decide (1000 < c) = false := by simpa using hc1
        obtain ⟨D, rfl, hD1, hD32, hDD⟩ := Rw.dep_nat hd
        obtain ⟨C, rfl⟩ := Int.eq_ofNat_of_zero_le (show 0 ≤ c by omega)
        have hC : C ≤ 1000 := by omega
        obtain ⟨P, hP⟩ : ∃ P, P = C * D := ⟨_, rfl⟩
        obtain ⟨Q, hQ⟩ : ∃ Q, Q = (P + 7) / 8 := ⟨_, rfl⟩
        obtain ⟨hPb, hQb, hPQ⟩ := row_room hP hQ hC hD32
        have hT := there_nat (n := s.size) hP hQ hd hC
        by_cases hsz : s.size = Q
        · have HT : Hid (Rw.thereB s.size (D : Int) (C : Int) = true ∧ Rw.ans s (D : Int) (C : Int) = Rw.row s D C) := ⟨Rw.thereB_yes (hT.2 hsz), Rw.ans_yes (hT.2 hsz)⟩
          rw [HT.out.1, HT.out.2]
          refine (impl_rowGet_yes s D C P Q w hd hC hD32 hP hQ hsz).mono ?_
          rintro e w1 ⟨⟨ao, cap, rfl, hcap, hO⟩, b1⟩
          exact ⟨⟨ao, C, cap, rfl, Rw.row_len _ _ _, hcap, hO⟩, b1⟩
        · have HT : Hid (Rw.thereB s.size (D : Int) (C : Int) = false ∧ Rw.ans s (D : Int) (C : Int) = []) := ⟨Rw.thereB_no (fun g => hsz (hT.1 g)), Rw.ans_no (fun g => hsz (hT.1 g))⟩
          have HRB : Hid (∀ w, Calls Try.prog 31 #[.int .i64 C, .int .i64 D] w fun e w' => e = .returned (.int .i64 Q) ∧ w' = w) := fun w => rowBytes_nat C D P Q w hP hQ (by omega)
          have hsi : ¬ (s.size : Int) = (Q : Int) := by omega
          have hne : ((s.size : Int) == (Q : Int)) = false := by simp; omega
          clear hP hQ hT hDD hPQ hc0 hc1
          go_enter Try.func10, Try.ntmps10
          go_wp2_with fail
          refine HDP.out.mono ?_
          rintro e w1 ⟨rfl, b1⟩
          clear HDP
          go_wp2_with fail
          refine (HRB.out _).mono ?_
          rintro e w1 ⟨rfl, rfl⟩
          clear HRB
          go_wp2_with fail
          go_ret2
          rw [HT.out.1, HT.out.2]
          exact ⟨⟨_, _, _, rfl, rfl, Nat.le_refl _, .inl rfl⟩, b1⟩
  · have hd' : depB d = false := by simpa using hd
    have HDP : Hid (Calls Try.prog 30 #[.int .i64 d] w fun e w' => e = .returned (.bool false) ∧ Below w.heap.size w w') := by
      have := depthOk_any d w; rw [hd'] at this; exact this
    have HT : Hid (Rw.thereB s.size d c = false ∧ Rw.ans s d c = []) := ⟨Rw.thereB_no (fun g => hd g.1), Rw.ans_no (fun g => hd g.1)⟩
    clear hd hd'
    go_enter Try.func10, Try.ntmps10
    go_wp2_with fail
    refine HDP.out.mono ?_
    rintro e w1 ⟨rfl, b1⟩
    clear HDP
    go_wp2_with fail
    go_ret2
    rw [HT.out.1, HT.out.2]
    exact ⟨⟨_, _, _, rfl, rfl, Nat.le_refl _, .inl rfl⟩, b1⟩
end Go.Proofs.Ytjikjjganloobaa
