/- Filters of the specification: what is taken away from a byte. -/
import Derived.Test.YtjikjjganloobabInWalks
import Derived.Test.YtjikjjganloobabFlMath
import Derived.Deep.RegionHeld3
namespace Go.Proofs.Ytjikjjganloobab
open Go.RowKit

theorem bool_or (b : Bool) : b = true ∨ b = false := by cases b <;> simp

set_option maxHeartbeats 400000 in
theorem l9Abs_sub (p a : Int) (w : World) (hp1 : -600 ≤ p) (hp2 : p ≤ 600) (ha1 : -600 ≤ a) (ha2 : a ≤ 600) (z : Int) (hz : z = p - a) :
    Calls Try.prog 89 #[.int .i64 z] w fun e w' => e = .returned (.int .i64 (Fl.ap p a)) ∧ w' = w := by
  have hzb : -1200 ≤ z ∧ z ≤ 1200 := by omega
  by_cases h : z < 0
  · have hd : decide (z < 0) = true := by simpa using h
    have HE : Hid (-z = Fl.ap p a) := by show _ = _; unfold Fl.ap; rw [if_pos (by omega)]; omega
    clear hz
    go_enter Try.func89, Try.ntmps89
    go_wp2_with fail
    go_ret
    exact ⟨by rw [← HE.out]; go_num, rfl⟩
  · have hd : decide (z < 0) = false := by simpa using h
    have HE : Hid (z = Fl.ap p a) := by show _ = _; unfold Fl.ap; rw [if_neg (by omega)]; omega
    clear hz
    go_enter Try.func89, Try.ntmps89
    go_wp2_with fail
    go_ret
    exact ⟨by rw [← HE.out]; rfl, rfl⟩

set_option maxHeartbeats 1000000 in
theorem l9Near_any (a b c : Nat) (w : World) (ha : a < 256) (hb : b < 256) (hc : c < 256) :
    Calls Try.prog 81 #[.int .i64 a, .int .i64 b, .int .i64 c] w fun e w' => e = .returned (.int .i64 (Fl.near a b c : Nat)) ∧ w' = w := by
  obtain ⟨p, hp⟩ : ∃ p : Int, p = (a : Int) + b - c := ⟨_, rfl⟩
  have HA : Hid (∀ w : World, Calls Try.prog 89 #[.int .i64 (p - a)] w fun e w' => e = .returned (.int .i64 (Fl.ap p a)) ∧ w' = w) := fun w => l9Abs_sub p a w (by omega) (by omega) (by omega) (by omega) _ rfl
  have HB : Hid (∀ w : World, Calls Try.prog 89 #[.int .i64 (p - b)] w fun e w' => e = .returned (.int .i64 (Fl.ap p b)) ∧ w' = w) := fun w => l9Abs_sub p b w (by omega) (by omega) (by omega) (by omega) _ rfl
  have HC : Hid (∀ w : World, Calls Try.prog 89 #[.int .i64 (p - c)] w fun e w' => e = .returned (.int .i64 (Fl.ap p c)) ∧ w' = w) := fun w => l9Abs_sub p c w (by omega) (by omega) (by omega) (by omega) _ rfl
  have HN : Hid (Fl.near a b c = if Fl.ap p a ≤ Fl.ap p b ∧ Fl.ap p a ≤ Fl.ap p c then a else if Fl.ap p b ≤ Fl.ap p c then b else c) := by show _ = _; unfold Fl.near; rw [hp]
  have hpb : -600 ≤ p ∧ p ≤ 600 := by omega
  generalize Fl.ap p a = x at *
  generalize Fl.ap p b = y at *
  generalize Fl.ap p c = z at *
  have hp' := hp.symm
  clear hp
  by_cases h1 : x ≤ y
  · have d1 : decide (x ≤ y) = true := by simpa using h1
    by_cases h2 : x ≤ z
    · have d2 : decide (x ≤ z) = true := by simpa using h2
      have HE : Hid (Fl.near a b c = a) := by show _ = _; rw [HN.out, if_pos ⟨h1, h2⟩]
      clear HN
      go_enter Try.func81, Try.ntmps81
      go_wp2_with fail
      refine (HA.out _).mono ?_
      rintro e w1 ⟨rfl, hw⟩; subst hw
      go_wp2_with fail
      refine (HB.out _).mono ?_
      rintro e w1 ⟨rfl, hw⟩; subst hw
      go_wp2_with fail
      refine (HC.out _).mono ?_
      rintro e w1 ⟨rfl, hw⟩; subst hw
      go_wp2_with fail
      go_ret
      exact ⟨by rw [HE.out]; rfl, rfl⟩
    · have d2 : decide (x ≤ z) = false := by simpa using h2
      have d3 : decide (y ≤ z) = false := by simp; omega
      have HE : Hid (Fl.near a b c = c) := by show _ = _; rw [HN.out, if_neg (by omega), if_neg (by omega)]
      clear HN
      go_enter Try.func81, Try.ntmps81
      go_wp2_with fail
      refine (HA.out _).mono ?_
      rintro e w1 ⟨rfl, hw⟩; subst hw
      go_wp2_with fail
      refine (HB.out _).mono ?_
      rintro e w1 ⟨rfl, hw⟩; subst hw
      go_wp2_with fail
      refine (HC.out _).mono ?_
      rintro e w1 ⟨rfl, hw⟩; subst hw
      go_wp2_with fail
      go_ret
      exact ⟨by rw [HE.out]; rfl, rfl⟩
  · have d1 : decide (x ≤ y) = false := by simpa using h1
    by_cases h3 : y ≤ z
    · have d3 : decide (y ≤ z) = true := by simpa using h3
      have HE : Hid (Fl.near a b c = b) := by show _ = _; rw [HN.out, if_neg (by omega), if_pos h3]
      clear HN
      go_enter Try.func81, Try.ntmps81
      go_wp2_with fail
      refine (HA.out _).mono ?_
      rintro e w1 ⟨rfl, hw⟩; subst hw
      go_wp2_with fail
      refine (HB.out _).mono ?_
      rintro e w1 ⟨rfl, hw⟩; subst hw
      go_wp2_with fail
      refine (HC.out _).mono ?_
      rintro e w1 ⟨rfl, hw⟩; subst hw
      go_wp2_with fail
      go_ret
      exact ⟨by rw [HE.out]; rfl, rfl⟩
    · have d3 : decide (y ≤ z) = false := by simpa using h3
      have HE : Hid (Fl.near a b c = c) := by show _ = _; rw [HN.out, if_neg (by omega), if_neg h3]
      clear HN
      go_enter Try.func81, Try.ntmps81
      go_wp2_with fail
      refine (HA.out _).mono ?_
      rintro e w1 ⟨rfl, hw⟩; subst hw
      go_wp2_with fail
      refine (HB.out _).mono ?_
      rintro e w1 ⟨rfl, hw⟩; subst hw
      go_wp2_with fail
      refine (HC.out _).mono ?_
      rintro e w1 ⟨rfl, hw⟩; subst hw
      go_wp2_with fail
      go_ret
      exact ⟨by rw [HE.out]; rfl, rfl⟩

set_option maxHeartbeats 400000 in
theorem l9Byte_any (s : ByteArray) (z : Int) (w : World) (hs : s.size ≤ 2000000) (_hz : -2000000 ≤ z ∧ z ≤ 2000000) :
    Calls Try.prog 69 #[.string s, .int .i64 z] w fun e w' => e = .returned (.int .i64 (Fl.by_ (byteAt s) z : Nat)) ∧ w' = w := by
  by_cases h : 0 ≤ z ∧ z ≤ (s.size : Int) - 1
  · obtain ⟨k, rfl⟩ := Int.eq_ofNat_of_zero_le h.1
    have hk : k < s.size := by omega
    have HI : Hid (∀ w : World, Calls Try.prog 36 #[.int .i64 (k : Int), .int .i64 0, .int .i64 ((s.size : Int) - 1)] w fun e w' => e = .returned (.bool true) ∧ w' = w) := fun w => l1In_yes _ _ _ w h.1 h.2
    have hbe := byteAt_eq s k hk
    have hbl := byteAt_lt s k
    have HE : Hid (Fl.by_ (byteAt s) (k : Int) = byteAt s k) := Fl.by_nat _ _
    generalize byteAt s k = x at hbe hbl HE
    clear h
    go_enter Try.func69, Try.ntmps69
    go_wp2_with fail
    refine (HI.out _).mono ?_
    rintro e w1 ⟨rfl, hw⟩; subst hw
    go_wp2_with fail
    go_ret
    exact ⟨by rw [HE.out]; go_num, rfl⟩
  · have HI : Hid (∀ w : World, Calls Try.prog 36 #[.int .i64 z, .int .i64 0, .int .i64 ((s.size : Int) - 1)] w fun e w' => e = .returned (.bool false) ∧ w' = w) := fun w => l1In_no _ _ _ w h
    have HE : Hid (Fl.by_ (byteAt s) z = 0) := by
      show _ = _
      by_cases hz : z < 0
      · exact Fl.by_neg _ _ hz
      · obtain ⟨k, rfl⟩ := Int.eq_ofNat_of_zero_le (show 0 ≤ z by omega)
        rw [Fl.by_nat]
        unfold byteAt
        rw [List.getD_eq_getElem?_getD, List.getElem?_eq_none (by simp; omega)]; rfl
    clear h
    go_enter Try.func69, Try.ntmps69
    go_wp2_with fail
    refine (HI.out _).mono ?_
    rintro e w1 ⟨rfl, hw⟩; subst hw
    go_wp2_with fail
    go_ret
    exact ⟨by rw [HE.out]; rfl, rfl⟩

set_option maxHeartbeats 400000 in
theorem l9Beside_any (K a b c : Nat) (w : World) (hK : K ≤ 4) (ha : a < 256) (hb : b < 256) (hc : c < 256) :
    Calls Try.prog 68 #[.int .i64 K, .int .i64 a, .int .i64 b, .int .i64 c] w fun e w' => e = .returned (.int .i64 (Fl.beside K a b c : Nat)) ∧ w' = w := by
  have h5 : K = 0 ∨ K = 1 ∨ K = 2 ∨ K = 3 ∨ K = 4 := by omega
  rcases h5 with rfl | rfl | rfl | rfl | rfl
  · have HE : Hid (Fl.beside 0 a b c = 0) := rfl
    go_enter Try.func68, Try.ntmps68
    go_wp2_with fail
    go_ret
    exact ⟨by rw [HE.out]; rfl, rfl⟩
  · have HE : Hid (Fl.beside 1 a b c = a) := rfl
    go_enter Try.func68, Try.ntmps68
    go_wp2_with fail
    go_ret
    exact ⟨by rw [HE.out]; rfl, rfl⟩
  · have HE : Hid (Fl.beside 2 a b c = b) := rfl
    go_enter Try.func68, Try.ntmps68
    go_wp2_with fail
    go_ret
    exact ⟨by rw [HE.out]; rfl, rfl⟩
  · have HE : Hid (Fl.beside 3 a b c = (a + b) / 2) := rfl
    obtain ⟨q, hq⟩ : ∃ q, q = (a + b) / 2 := ⟨_, rfl⟩
    have e2 : ((a : Int) + (b : Int)) / 2 = (q : Int) := by omega
    have e3 : ((a : Int) + (b : Int)).tdiv 2 = (q : Int) := by rw [Int.tdiv_eq_ediv_of_nonneg (by omega)]; exact e2
    have HQ : Hid (Fl.beside 3 a b c = q) := by show _ = _; rw [HE.out, hq]
    have hqb : q < 256 := by omega
    clear HE hq
    go_enter Try.func68, Try.ntmps68
    go_wp2_with fail
    go_ret
    exact ⟨by rw [HQ.out]; first | rfl | go_num, rfl⟩
  · have HE : Hid (Fl.beside 4 a b c = Fl.near a b c) := rfl
    have HN : Hid (∀ w : World, Calls Try.prog 81 #[.int .i64 a, .int .i64 b, .int .i64 c] w fun e w' => e = .returned (.int .i64 (Fl.near a b c : Nat)) ∧ w' = w) := fun w => l9Near_any a b c w ha hb hc
    go_enter Try.func68, Try.ntmps68
    go_wp2_with fail
    refine (HN.out _).mono ?_
    rintro e w1 ⟨rfl, hw⟩; subst hw
    go_wp2_with fail
    go_ret
    exact ⟨by rw [HE.out]; rfl, rfl⟩
end Go.Proofs.Ytjikjjganloobab
