/- RowGet of the specification, for every text, depth and count. -/
import Derived.Test.YtjikjjganloobaaRwSpec
import Derived.Test.YtjikjjganloobaaInWalks
namespace Go.Proofs.Ytjikjjganloobaa
open Go.RowKit

theorem row_room {C D P Q : Nat} (hP : P = C * D) (hQ : Q = (P + 7) / 8) (hC : C ≤ 1000) (hD : D ≤ 32) : P ≤ 32000 ∧ Q ≤ 4000 ∧ P ≤ 8 * Q := by
  have h : P ≤ 1000 * 32 := by rw [hP]; exact Nat.mul_le_mul hC hD
  omega

theorem there_nat {n C D P Q : Nat} (hP : P = C * D) (hQ : Q = (P + 7) / 8) (hd : depB (D : Int) = true) (hC : C ≤ 1000) : Rw.There n (D : Int) (C : Int) ↔ n = Q := by
  have e1 : (C : Int) * (D : Int) = (P : Int) := by rw [hP]; simp
  unfold Rw.There
  rw [e1]
  constructor
  · intro h; have := h.2.2.2; omega
  · intro h; exact ⟨hd, by omega, by omega, by omega⟩

set_option maxHeartbeats 1000000 in
theorem spec_rowGet (s : ByteArray) (d c : Int) (w : World) (_hs : s.size ≤ 1048576) :
    Calls Try.prog 9 #[.string s, .int .i64 d, .int .i64 c] w fun e w' => (∃ ao L cap, e = .returned (.tuple #[.slice ao L cap, .bool (Rw.thereB s.size d c)]) ∧ (Rw.ans s d c).length = L ∧ Ints w' ao (Rw.ans s d c)) ∧ Below w.heap.size w w' := by
  by_cases hd : depB d = true
  · have HB : Hid (Calls Try.prog 26 #[.int .i64 d] w fun e w' => e = .returned (.bool true) ∧ w' = w) := by
      have := l8Bits_any d w; rw [hd] at this; exact this
    by_cases hc : 0 ≤ c ∧ c ≤ 1000
    · obtain ⟨hc0, hc1⟩ := hc
      obtain ⟨D, rfl, hD1, hD32, hDD⟩ := Rw.dep_nat hd
      obtain ⟨C, rfl⟩ := Int.eq_ofNat_of_zero_le hc0
      have hC : C ≤ 1000 := by omega
      obtain ⟨P, hP⟩ : ∃ P, P = C * D := ⟨_, rfl⟩
      obtain ⟨Q, hQ⟩ : ∃ Q, Q = (P + 7) / 8 := ⟨_, rfl⟩
      obtain ⟨hPb, hQb, hPQ⟩ := row_room hP hQ hC hD32
      have hT := there_nat (n := s.size) hP hQ hd hC
      have HY : Hid (∀ w : World, Calls Try.prog 28 #[.int .i64 C, .int .i64 D] w fun e w' => e = .returned (.int .i64 (Q : Int)) ∧ w' = w) := fun w => l8Bytes_any C D P Q w hP hQ hPb
      by_cases hsz : s.size = Q
      · have HT : Hid (Rw.thereB s.size (D : Int) (C : Int) = true ∧ Rw.ans s (D : Int) (C : Int) = Rw.row s D C) := ⟨Rw.thereB_yes (hT.2 hsz), Rw.ans_yes (hT.2 hsz)⟩
        have HPT : Hid (∀ w : World, Calls Try.prog 29 #[.string s, .int .i64 D, .int .i64 C] w fun e w' => (∃ ao c, e = .returned (.slice ao C c) ∧ Ints w' ao (Rw.row s D C)) ∧ Below w.heap.size w w') := by
          intro w
          rcases hDD with h | h
          · exact l8Points_small s D C w h (by rw [← hP]; omega) (by omega) hC
          · subst h; exact l8Points_32 s C w (by rw [← hP]; omega) (by omega) hC
        have hne : ((s.size : Int) == (Q : Int)) = true := by rw [hsz]; simp
        have hsi : (s.size : Int) = (Q : Int) := by omega
        clear hP hQ hT hDD hPQ hPb hsz
        go_enter Try.func9, Try.ntmps9
        go_wp2_with fail
        refine HB.out.mono ?_
        rintro e w1 ⟨rfl, hw1⟩
        subst hw1
        go_wp2_with fail
        refine (l1In_yes _ _ _ _ hc0 hc1).mono ?_
        rintro e w2 ⟨rfl, hw2⟩
        subst hw2
        go_wp2_with fail
        refine (HY.out _).mono ?_
        rintro e w3 ⟨rfl, hw3⟩
        subst hw3
        go_wp2_with fail
        refine (HPT.out _).mono ?_
        rintro e w4 ⟨⟨ao, cap, rfl, hI⟩, bel⟩
        have HI : Hid (Ints _ ao _) := hI
        clear hI
        go_wp2_with fail
        go_ret2
        rw [HT.out.1, HT.out.2]
        exact ⟨⟨_, _, _, rfl, Rw.row_len _ _ _, HI.out⟩, bel⟩
      · have HT : Hid (Rw.thereB s.size (D : Int) (C : Int) = false ∧ Rw.ans s (D : Int) (C : Int) = []) := ⟨Rw.thereB_no (fun g => hsz (hT.1 g)), Rw.ans_no (fun g => hsz (hT.1 g))⟩
        have hne : ((s.size : Int) == (Q : Int)) = false := by simp; omega
        have hsi : ¬ (s.size : Int) = (Q : Int) := by omega
        clear hP hQ hT hDD hPQ hPb
        go_enter Try.func9, Try.ntmps9
        go_wp2_with fail
        refine HB.out.mono ?_
        rintro e w1 ⟨rfl, hw1⟩
        subst hw1
        go_wp2_with fail
        refine (l1In_yes _ _ _ _ hc0 hc1).mono ?_
        rintro e w2 ⟨rfl, hw2⟩
        subst hw2
        go_wp2_with fail
        refine (HY.out _).mono ?_
        rintro e w3 ⟨rfl, hw3⟩
        subst hw3
        go_wp2_with fail
        go_ret2
        rw [HT.out.1, HT.out.2]
        exact ⟨⟨_, _, _, rfl, rfl, .inl rfl⟩, (Below.refl _ _).alloc (Nat.le_refl _) _⟩
    · have HT : Hid (Rw.thereB s.size d c = false ∧ Rw.ans s d c = []) := ⟨Rw.thereB_no (fun g => hc ⟨g.2.1, g.2.2.1⟩), Rw.ans_no (fun g => hc ⟨g.2.1, g.2.2.1⟩)⟩
      go_enter Try.func9, Try.ntmps9
      go_wp2_with fail
      refine HB.out.mono ?_
      rintro e w1 ⟨rfl, hw1⟩
      subst hw1
      go_wp2_with fail
      refine (l1In_no _ _ _ _ hc).mono ?_
      rintro e w2 ⟨rfl, hw2⟩
      subst hw2
      go_wp2_with fail
      go_ret2
      rw [HT.out.1, HT.out.2]
      exact ⟨⟨_, _, _, rfl, rfl, .inl rfl⟩, (Below.refl _ _).alloc (Nat.le_refl _) _⟩
  · have hd' : depB d = false := by simpa using hd
    have HB : Hid (Calls Try.prog 26 #[.int .i64 d] w fun e w' => e = .returned (.bool false) ∧ w' = w) := by
      have := l8Bits_any d w; rw [hd'] at this; exact this
    have HT : Hid (Rw.thereB s.size d c = false ∧ Rw.ans s d c = []) := ⟨Rw.thereB_no (fun g => hd g.1), Rw.ans_no (fun g => hd g.1)⟩
    clear hd hd'
    go_enter Try.func9, Try.ntmps9
    go_wp2_with fail
    refine HB.out.mono ?_
    rintro e w1 ⟨rfl, hw1⟩
    subst hw1
    go_wp2_with fail
    go_ret2
    rw [HT.out.1, HT.out.2]
    exact ⟨⟨_, _, _, rfl, rfl, .inl rfl⟩, (Below.refl _ _).alloc (Nat.le_refl _) _⟩
end Go.Proofs.Ytjikjjganloobaa
