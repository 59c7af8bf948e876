/- Bytes put out that stand so far back. -/
import Derived.Test.YtmfnepibhhhdcaaOtWalks
import Derived.Test.YtmfnepibhhhdcaaToSpec
import Derived.StillTailTactics
namespace Go.Proofs.Ytmfnepibhhhdcaa
open Go.RowKit

/-- the bytes that are put out so far, behind a world -/
def Kst (w5 : World) (O base : Nat) (x : List UInt8) (wr : World) : Prop := ∃ v, Ot wr O v 5000 ∧ OwnT wr base v x.length x ∧ Off O O base w5 wr ∧ base ≤ wr.heap.size
/-- how it ends -/
def AgEnd (w : World) (O base D S : Nat) (q : List UInt8) (e : Ending) (w' : World) : Prop :=
  (q.length + S ≤ 5000 ∧ e = .returned (.tuple #[]) ∧ Kst w O base (To.again q D S) w') ∨ (¬ q.length + S ≤ 5000 ∧ e = fault 3 ∧ Off O O base w w')

set_option maxHeartbeats 4000000 in
set_option maxRecDepth 100000 in
theorem again_any (O base D S : Nat) (q : List UInt8) (w : World) (h : Kst w O base q w) (hO : O < base) (hD1 : 1 ≤ D) (hD2 : D ≤ q.length) (hq : q.length ≤ 5000) (hS : S ≤ 258) :
    Calls Try.prog 93 #[.pointer (some ⟨O, 0, none⟩), .int .i64 (S : Int), .int .i64 (D : Int)] w (AgEnd w O base D S q) := by
  obtain ⟨v0, hv1, hv2, hv3, hv4⟩ := h
  obtain ⟨ao0, cp0, rfl⟩ := hv2.shape
  obtain ⟨c0, c1, f0⟩ := hv1.cells
  have HK : Hid (Kst w O base q w) := ⟨_, hv1, hv2, hv3, hv4⟩
  obtain ⟨m, hm⟩ : ∃ m, m = q.length := ⟨_, rfl⟩
  have HM : Hid (m = q.length) := hm
  rw [← hm] at c0 hD2 hq
  have hdi : (D : Int) ≤ (m : Int) := by omega
  clear hv1 hv2 hv3 hv4 f0 hm
  go_enter Try.func93, Try.ntmps93
  go_wp2_with fail
  refine (insist_of _ 1 _ (by first | rfl | simp <;> omega)).mono ?_
  rintro e w1 ⟨rfl, hw1⟩
  replace hw1 := hw1.symm
  subst hw1
  clear c0 c1
  go_wp2_with fail
  go_loopw [15] (fun i wr => ∃ (c : Nat) (r : List UInt8) (N : Nat), c ≤ S ∧ i = .int .i64 (c : Int) ∧ Hid (r = To.again q D c ∧ N = r.length) ∧ N ≤ m + c ∧ m + c ≤ N ∧ N ≤ 5000 ∧ Hid (Kst w O base r wr)) (fun i _ => S - (intOf i).toNat)
  case atStart => exact ⟨0, q, m, Nat.zero_le _, rfl, ⟨rfl, HM.out⟩, Nat.le_refl _, Nat.le_refl _, hq, HK⟩
  case round =>
    obtain ⟨c, r, N, hc, rfl, HR, hN1, hN2, hN5, HX⟩ := hrel
    clear HK
    by_cases hcS : c < S
    · have hci : (c : Int) < (S : Int) := by omega
      obtain ⟨v, a1, a2, a3, a4⟩ := HX.out
      rw [← HR.out.2] at a2
      obtain ⟨ao, cp, rfl⟩ := a2.shape
      obtain ⟨J, hJ⟩ : ∃ J, J + D = N := ⟨N - D, by omega⟩
      have eJ : (N : Int) - (D : Int) = (J : Int) := by omega
      have hJw : IntKind.i64.wrap ((N : Int) - (D : Int)) = (J : Int) := by rw [eJ]; exact wrap_i64_nat J (by omega)
      have hJw2 : IntKind.i64.wrap (J : Int) = (J : Int) := wrap_i64_nat J (by omega)
      have hJN : J < N := by omega
      have hJi : (J : Int) < (N : Int) := by omega
      obtain ⟨g2, rfl, hcell⟩ := ToT.at a2 hJN
      obtain ⟨x, hx⟩ : ∃ x, x = r.getD J 0 := ⟨_, rfl⟩
      rw [← hx] at hcell
      obtain ⟨k0, k1, _⟩ := a1.cells
      have HR2 : Hid (r ++ [x] = To.again q D (c + 1) ∧ N + 1 = (r ++ [x]).length) := by
        have hJ' : J = r.length - D := by have := HR.out.2; omega
        refine ⟨?_, by rw [List.length_append, ← HR.out.2]; rfl⟩
        show r ++ [x] = To.again q D c ++ [(To.again q D c).getD ((To.again q D c).length - D) 0]
        rw [← HR.out.1, ← hJ', hx]
      have HPY : Hid (N < 5000 → Calls Try.prog 92 #[.pointer (some ⟨O, 0, none⟩), .int .u8 ((x.toNat : Nat) : Int)] wr.drew (fun e w' => e = .returned (.tuple #[]) ∧ Kst w O base (r ++ [x]) w')) := fun hr => by
        refine (put_yes O base 5000 N _ r x wr.drew a1 a2 hO a4 hr (Nat.le_refl _)).mono ?_
        rintro e w' ⟨rfl, v', b1, b2, b3, b4⟩
        exact ⟨rfl, v', b1, by rw [← HR2.out.2]; exact b2, (a3.drewN 1).trans b3, b4⟩
      have HPN : Hid (5000 ≤ N → Calls Try.prog 92 #[.pointer (some ⟨O, 0, none⟩), .int .u8 ((x.toNat : Nat) : Int)] wr.drew (fun e w' => e = fault 3 ∧ Off O O base w w')) := fun hr => by
        refine (put_no O base 5000 N _ r _ wr.drew a1 a2 hr).mono ?_
        rintro e w' ⟨rfl, qq, rfl⟩
        exact ⟨rfl, (a3.drewN 1).drewN qq⟩
      obtain ⟨z, hz⟩ : ∃ z : Int, z = ((x.toNat : Nat) : Int) := ⟨_, rfl⟩
      rw [← hz] at hcell HPY HPN
      clear a1 a2 a3 a4 hx hz hJ HX
      by_cases hroom : N < 5000
      · have HP := HPY.out hroom
        have HPH : Hid (Calls Try.prog 92 #[.pointer (some ⟨O, 0, none⟩), .int .u8 z] wr.drew (fun e w' => e = .returned (.tuple #[]) ∧ Kst w O base (r ++ [x]) w')) := HP
        clear HP HPY HPN
        go_wp2_with fail
        go_still_tail 14, (by kernel_rfl)
        repeat still_step
        go_wp2_with fail
        refine HPH.out.mono ?_
        rintro e w4 ⟨rfl, hk4⟩
        have HK4 : Hid (Kst w O base (r ++ [x]) w4) := hk4
        clear hk4 HPH k0 k1 hcell
        go_wp2_with fail
        go_roundw
        case rel => exact ⟨c + 1, r ++ [x], N + 1, by omega, by go_num, HR2, by omega, by omega, by omega, HK4⟩
        case measure => simp [intOf]; omega
      · have HP := HPN.out (by omega)
        have HPH : Hid (Calls Try.prog 92 #[.pointer (some ⟨O, 0, none⟩), .int .u8 z] wr.drew (fun e w' => e = fault 3 ∧ Off O O base w w')) := HP
        have hno : ¬ q.length + S ≤ 5000 := by rw [← HM.out]; omega
        clear HP HPY HPN
        go_wp2_with fail
        go_still_tail 14, (by kernel_rfl)
        repeat still_step
        go_wp2_with fail
        refine HPH.out.mono ?_
        rintro e w4 ⟨rfl, hk4⟩
        have HF : Hid (AgEnd w O base D S q (fault 3) w4) := .inr ⟨hno, rfl, hk4⟩
        clear hk4 HPH k0 k1 hcell
        unfold fault
        go_wp2_with fail
        exact ⟨rfl, HF.out⟩
    · have hci : ¬ (c : Int) < (S : Int) := by omega
      have hcS2 : c = S := by omega
      have HF : Hid (AgEnd w O base D S q (.returned (.tuple #[])) wr) := .inl ⟨by rw [← HM.out]; omega, rfl, by rw [← hcS2, ← HR.out.1]; exact HX.out⟩
      clear hcS2 HX
      go_wp2_with fail
      go_end0
      exact HF.out
end Go.Proofs.Ytmfnepibhhhdcaa
