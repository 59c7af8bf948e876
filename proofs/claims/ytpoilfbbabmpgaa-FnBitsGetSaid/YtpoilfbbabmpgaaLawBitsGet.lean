/- The law on some bits and some more behind, walked. -/
import Derived.Test.YtpoilfbbabmpgaaBgTop
import Derived.Test.YtpoilfbbabmpgaaBgMath2
import Derived.Test.YtpoilfbbabmpgaaLawCrcBit
namespace Go.Proofs.Ytpoilfbbabmpgaa
open Go.RowKit

set_option maxHeartbeats 1000000 in
theorem drawBitsGet_any (a : Option Addr) (len cap : Nat) (w : World) (h : Code8 w a len cap) :
    Calls Try.prog 13 #[.slice a len cap] w fun e w' => (∃ (t : ByteArray) (p z : Int) (hi : Bool), e = .returned (.tuple #[.string t, .int .i64 p, .int .i64 z, .bool hi]) ∧ t.size ≤ 9001 ∧ -1 ≤ p ∧ p ≤ 80000 ∧ 0 ≤ z ∧ z ≤ 25) ∧ Below w.heap.size w w' := by
  go_enter Try.func13, Try.ntmps13
  go_wp2_with fail
  refine (open_any a len cap w h).mono ?_
  rintro e w1 ⟨rfl, hR, bel⟩
  clear h
  go_wp2_with fail
  refine (text_any w.heap.size 0 w1 hR (by omega)).mono ?_
  rintro e w2 ⟨⟨t, rfl, ht⟩, ⟨q, hq, hR2⟩, hO2⟩
  have bel2 := bel.trans hO2.below
  clear bel hO2 hR
  go_wp2_with fail
  refine (pick_named w.heap.size q _ w2 hR2 (by omega) (by omega) (by omega)).mono ?_
  rintro e w3 ⟨v, rfl, hv, hR3, hO3, hs3⟩
  have bel3 := bel2.trans hO3.below
  clear bel2 hO3 hs3 hR2
  go_wp2_with fail
  refine (pick_named w.heap.size (q + 1) _ w3 hR3 (by omega) (by omega) (by omega)).mono ?_
  rintro e w4 ⟨z, rfl, hz, hR4, hO4, hs4⟩
  have bel4 := bel3.trans hO4.below
  clear bel3 hO4 hs4 hR3
  go_wp2_with fail
  refine (pick_named w.heap.size (q + 1 + 1) _ w4 hR4 (by omega) (by omega) (by omega)).mono ?_
  rintro e w5 ⟨y, rfl, hy, hR5, hO5, hs5⟩
  have bel5 := bel4.trans hO5.below
  clear bel4 hO5 hs5 hR4 hR5
  go_wp2_with fail
  exact bodyPost_ret (v := .tuple #[.string t, .int .i64 ((v : Int) - 1), .int .i64 (z : Int), .bool ((y : Int) == 0)]) (by simp [results, Try.results13, go_sem]) rfl ⟨⟨t, (v : Int) - 1, z, ((y : Int) == 0), rfl, ht, by omega, by omega, by omega, by omega⟩, bel5⟩

theorem cut_low (s : ByteArray) (A S k : Nat) (hk : k ≤ S) : Bg.low (fun i => bitAt s false (A + i)) S = Bg.low (fun i => bitAt s false (A + i)) k + Bg.low (fun i => bitAt s false (A + k + i)) (S - k) * 2 ^ k := by
  have h := Bg.low_add (fun i => bitAt s false (A + i)) k (S - k)
  rw [show k + (S - k) = S from by omega] at h
  rw [h]
  simp only [Nat.add_assoc]
theorem cut_big (s : ByteArray) (A S k : Nat) (hk : k ≤ S) : Bg.big (fun i => bitAt s true (A + i)) S = Bg.big (fun i => bitAt s true (A + i)) k * 2 ^ (S - k) + Bg.big (fun i => bitAt s true (A + k + i)) (S - k) := by
  have h := Bg.big_add (fun i => bitAt s true (A + i)) k (S - k)
  rw [show k + (S - k) = S from by omega] at h
  rw [h]
  simp only [Nat.add_assoc]

set_option maxRecDepth 20000 in
set_option maxHeartbeats 2000000 in
theorem lawBitsGet (a0 : Option Addr) (len0 cap0 : Nat) (w : World) (h0 : Code8 w a0 len0 cap0) :
    Calls Try.prog 4 #[.slice a0 len0 cap0] w fun e w' => e = .returned (.bool true) ∧ Below w.heap.size w w' := by
  have hl0 : len0 ≤ 9223372036854775807 := Nat.le_trans h0.1 h0.2.1
  by_cases b0 : 1048576 < len0
  · clear h0
    go_enter Try.func4, Try.ntmps4
    go_wp2_with fail
    go_ret
    exact ⟨rfl, Below.refl _ _⟩
  · go_enter Try.func4, Try.ntmps4
    go_wp2_with fail
    refine (drawBitsGet_any a0 len0 cap0 w h0).mono ?_
    rintro e w1 ⟨⟨s, p, z, hi, rfl, hs, hp1, hp2, hz1, hz2⟩, bel⟩
    clear h0
    by_cases hT : BitsThere s.size p z
    · obtain ⟨A, rfl⟩ := Int.eq_ofNat_of_zero_le hT.2.2.2.1
      obtain ⟨S, rfl⟩ := Int.eq_ofNat_of_zero_le hT.1
      obtain ⟨t1, t2, t3, t4, t5⟩ := hT
      have HT : Hid (BitsThere s.size A S) := ⟨t1, t2, t3, t4, t5⟩
      go_wp2_with fail
      refine (impl_bitsGet_yes s A S hi w1 HT.out).mono ?_
      rintro e w2 ⟨rfl, bel2⟩
      have bel' := bel.trans (bel2.mono bel.size)
      clear bel bel2
      go_wp2_with fail
      refine (spec_bitsGet_yes s A S hi w2 HT.out).mono ?_
      rintro e w3 ⟨rfl, m3, hw3⟩
      have b3 : Below w2.heap.size w2 w3 := by rw [hw3]; exact below_drewN (Below.refl _ _) _
      have bel := bel'.trans (b3.mono bel'.size)
      clear bel' b3 hw3
      obtain ⟨V, hV⟩ : ∃ V, V = Bg.num (fun i => bitAt s hi (A + i)) S hi := ⟨_, rfl⟩
      have HVV : Hid (V = Bg.num (fun i => bitAt s hi (A + i)) S hi) := hV
      rw [← hV]
      clear hV
      cases hi
      · go_wp2_with fail
        go_loopw [11] (fun i wr => ∃ k : Nat, k ≤ S + 1 ∧ i = .int .i64 k ∧ Below w.heap.size w wr) (fun i _ => S + 1 - (intOf i).toNat)
        case atStart => exact ⟨0, Nat.zero_le _, rfl, bel⟩
        case round =>
          obtain ⟨k, hk, rfl, hbel⟩ := hrel
          clear bel
          by_cases hlt : k ≤ S
          · have hX : Hid (BitsThere s.size A k) := ⟨by omega, by omega, t3, t4, by omega⟩
            have hY : Hid (BitsThere s.size ((A + k : Nat) : Int) ((S - k : Nat) : Int)) := ⟨by omega, by omega, t3, by omega, by omega⟩
            have x1 := Bg.num_lt (fun i => bitAt s false (A + i)) (fun i => bitAt_lt _ _ _) k false
            have y1 := Bg.num_lt (fun i => bitAt s false (A + k + i)) (fun i => bitAt_lt _ _ _) (S - k) false
            have hc := cut_low s A S k hlt
            have hp3 : 2 ^ k ≤ 2 ^ 24 := Nat.pow_le_pow_right (by omega) (by omega)
            have hp4 : 2 ^ (S - k) ≤ 2 ^ 24 := Nat.pow_le_pow_right (by omega) (by omega)
            have g1 : Hid (∀ w, Calls Try.prog 12 #[.string s, .int .i64 A, .int .i64 k, .bool false] w fun e w' => e = .returned (.tuple #[.int .i64 (Bg.low (fun i => bitAt s false (A + i)) k : Nat), .bool true]) ∧ Below w.heap.size w w') := fun w => impl_bitsGet_yes s A k false w hX.out
            have g2 : Hid (∀ (x y : Int) w, x = ((A + k : Nat) : Int) → y = ((S - k : Nat) : Int) → Calls Try.prog 12 #[.string s, .int .i64 x, .int .i64 y, .bool false] w fun e w' => e = .returned (.tuple #[.int .i64 (Bg.low (fun i => bitAt s false (A + k + i)) (S - k) : Nat), .bool true]) ∧ Below w.heap.size w w') := fun x y w hx hy => by rw [hx, hy]; exact impl_bitsGet_yes s (A + k) (S - k) false w hY.out
            have hVc : V = Bg.low (fun i => bitAt s false (A + i)) S := HVV.out
            rw [hc] at hVc
            have x2 : Bg.low (fun i => bitAt s false (A + i)) k < 2 ^ k := x1
            have y2 : Bg.low (fun i => bitAt s false (A + k + i)) (S - k) < 2 ^ (S - k) := y1
            clear x1 y1 hc hX hY
            generalize Bg.low (fun i => bitAt s false (A + i)) k = X at *
            generalize Bg.low (fun i => bitAt s false (A + k + i)) (S - k) = Y at *
            obtain ⟨P, hP⟩ : ∃ P, P = 2 ^ k := ⟨_, rfl⟩
            have HP : Hid (∀ w : World, Calls Try.prog 15 #[.int .i64 (k : Int)] w fun e w' => e = .returned (.int .i64 (P : Int)) ∧ w' = w) := by
              intro w; rw [hP]; exact wiPow_any k w (by omega)
            rw [← hP] at hVc hp3 x2
            have hYb : Y ≤ 16777216 := by omega
            have hXb : X ≤ 16777216 := by omega
            have hPb : P ≤ 16777216 := by omega
            obtain ⟨R, hR⟩ : ∃ R, R = Y * P := ⟨_, rfl⟩
            have hRb : R ≤ 281474976710656 := by rw [hR]; exact Nat.le_trans (Nat.mul_le_mul hYb hPb) (by decide)
            have hYP : (Y : Int) * (P : Int) = (R : Int) := by rw [hR]; simp
            rw [← hR] at hVc
            have hwr : wrap64 ((Y : Int) * (P : Int)) = (R : Int) := by rw [hYP]; unfold wrap64; omega
            have hVi : Hid ((V : Int) = (X : Int) + (R : Int)) := by show _ = _; omega
            have hne : ((V : Int) != (X : Int) + (R : Int)) = false := by rw [hVi.out]; simp
            clear hVc hP hR x2 y2 hp3 hp4
            go_wp2_with fail
            refine (g1.out _).mono ?_
            rintro e w4 ⟨rfl, b4⟩
            have hb' := hbel.trans (b4.mono hbel.size)
            clear hbel b4
            go_wp2_with fail
            refine (g2.out _ _ _ (by omega) (by omega)).mono ?_
            rintro e w5 ⟨rfl, b5⟩
            have hbel := hb'.trans (b5.mono hb'.size)
            clear hb' b5
            go_wp2_with fail
            refine (HP.out _).mono ?_
            rintro e w6 ⟨rfl, rfl⟩
            clear hYP g1 g2 HP HVV hVi
            go_wp2_with fail
            go_roundw
            case rel => exact ⟨k + 1, by omega, by go_num, hbel⟩
            case measure => simp [intOf]; omega
          · have hkk : k = S + 1 := by omega
            subst hkk
            go_wp2_with fail
            go_ret
            exact ⟨rfl, hbel⟩
      · go_wp2_with fail
        go_loopw [11] (fun i wr => ∃ k : Nat, k ≤ S + 1 ∧ i = .int .i64 k ∧ Below w.heap.size w wr) (fun i _ => S + 1 - (intOf i).toNat)
        case atStart => exact ⟨0, Nat.zero_le _, rfl, bel⟩
        case round =>
          obtain ⟨k, hk, rfl, hbel⟩ := hrel
          clear bel
          by_cases hlt : k ≤ S
          · have hX : Hid (BitsThere s.size A k) := ⟨by omega, by omega, t3, t4, by omega⟩
            have hY : Hid (BitsThere s.size ((A + k : Nat) : Int) ((S - k : Nat) : Int)) := ⟨by omega, by omega, t3, by omega, by omega⟩
            have x1 := Bg.num_lt (fun i => bitAt s true (A + i)) (fun i => bitAt_lt _ _ _) k true
            have y1 := Bg.num_lt (fun i => bitAt s true (A + k + i)) (fun i => bitAt_lt _ _ _) (S - k) true
            have hc := cut_big s A S k hlt
            have hp3 : 2 ^ k ≤ 2 ^ 24 := Nat.pow_le_pow_right (by omega) (by omega)
            have hp4 : 2 ^ (S - k) ≤ 2 ^ 24 := Nat.pow_le_pow_right (by omega) (by omega)
            have g1 : Hid (∀ w, Calls Try.prog 12 #[.string s, .int .i64 A, .int .i64 k, .bool true] w fun e w' => e = .returned (.tuple #[.int .i64 (Bg.big (fun i => bitAt s true (A + i)) k : Nat), .bool true]) ∧ Below w.heap.size w w') := fun w => impl_bitsGet_yes s A k true w hX.out
            have g2 : Hid (∀ (x y : Int) w, x = ((A + k : Nat) : Int) → y = ((S - k : Nat) : Int) → Calls Try.prog 12 #[.string s, .int .i64 x, .int .i64 y, .bool true] w fun e w' => e = .returned (.tuple #[.int .i64 (Bg.big (fun i => bitAt s true (A + k + i)) (S - k) : Nat), .bool true]) ∧ Below w.heap.size w w') := fun x y w hx hy => by rw [hx, hy]; exact impl_bitsGet_yes s (A + k) (S - k) true w hY.out
            have hVc : V = Bg.big (fun i => bitAt s true (A + i)) S := HVV.out
            rw [hc] at hVc
            have x2 : Bg.big (fun i => bitAt s true (A + i)) k < 2 ^ k := x1
            have y2 : Bg.big (fun i => bitAt s true (A + k + i)) (S - k) < 2 ^ (S - k) := y1
            clear x1 y1 hc hX hY
            generalize Bg.big (fun i => bitAt s true (A + i)) k = X at *
            generalize Bg.big (fun i => bitAt s true (A + k + i)) (S - k) = Y at *
            obtain ⟨P, hP⟩ : ∃ P, P = 2 ^ (S - k) := ⟨_, rfl⟩
            have HP : Hid (∀ (x : Int) (w : World), x = ((S - k : Nat) : Int) → Calls Try.prog 15 #[.int .i64 x] w fun e w' => e = .returned (.int .i64 (P : Int)) ∧ w' = w) := by
              intro x w hx; rw [hP, hx]; exact wiPow_any (S - k) w (by omega)
            rw [← hP] at hVc hp4 y2
            have hYb : Y ≤ 16777216 := by omega
            have hXb : X ≤ 16777216 := by omega
            have hPb : P ≤ 16777216 := by omega
            obtain ⟨R, hR⟩ : ∃ R, R = X * P := ⟨_, rfl⟩
            have hRb : R ≤ 281474976710656 := by rw [hR]; exact Nat.le_trans (Nat.mul_le_mul hXb hPb) (by decide)
            have hYP : (X : Int) * (P : Int) = (R : Int) := by rw [hR]; simp
            rw [← hR] at hVc
            have hwr : wrap64 ((X : Int) * (P : Int)) = (R : Int) := by rw [hYP]; unfold wrap64; omega
            have hVi : Hid ((V : Int) = (R : Int) + (Y : Int)) := by show _ = _; omega
            have hne : ((V : Int) != (R : Int) + (Y : Int)) = false := by rw [hVi.out]; simp
            clear hVc hP hR x2 y2 hp3 hp4
            go_wp2_with fail
            refine (g1.out _).mono ?_
            rintro e w4 ⟨rfl, b4⟩
            have hb' := hbel.trans (b4.mono hbel.size)
            clear hbel b4
            go_wp2_with fail
            refine (g2.out _ _ _ (by omega) (by omega)).mono ?_
            rintro e w5 ⟨rfl, b5⟩
            have hbel := hb'.trans (b5.mono hb'.size)
            clear hb' b5
            go_wp2_with fail
            refine (HP.out _ _ (by omega)).mono ?_
            rintro e w6 ⟨rfl, rfl⟩
            clear hYP g1 g2 HP HVV hVi
            go_wp2_with fail
            go_roundw
            case rel => exact ⟨k + 1, by omega, by go_num, hbel⟩
            case measure => simp [intOf]; omega
          · have hkk : k = S + 1 := by omega
            subst hkk
            go_wp2_with fail
            go_ret
            exact ⟨rfl, hbel⟩
    · go_wp2_with fail
      refine (impl_bitsGet_no s p z hi w1 (by omega) (by omega) hT).mono ?_
      rintro e w2 ⟨rfl, bel2⟩
      have bel' := bel.trans (bel2.mono bel.size)
      clear bel bel2
      go_wp2_with fail
      refine (spec_bitsGet_no s p z hi w2 (by omega) hT).mono ?_
      rintro e w3 ⟨rfl, hw3⟩
      subst hw3
      go_wp2_with fail
      go_ret
      exact ⟨rfl, bel'⟩
end Go.Proofs.Ytpoilfbbabmpgaa
