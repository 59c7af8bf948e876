/- How many bytes are alike; the three bytes at a place. -/
import Derived.Test.YtmfnepibhhhdcaaTyMath
import Derived.Below
import Derived.BigQuiet
import Derived.Deep.QuietTactic
import Derived.Test.YtmfnepibhhhdcaaBase
namespace Go.Proofs.Ytmfnepibhhhdcaa
open Go.RowKit

set_option maxHeartbeats 2000000 in
set_option maxRecDepth 20000 in
theorem alike_is (s : ByteArray) (a c : Nat) (w : World) (hs : s.size ≤ 9001) (hab : a ≤ c) (hb : c ≤ s.size) :
    Calls Try.prog 115 #[.string s, .int .i64 (a : Int), .int .i64 (c : Int)] w fun e w' => e = .returned (.int .i64 ((Ty.mat s a c 258 : Nat) : Int)) ∧ ∃ q, w' = w.drewN q := by
  go_enter Try.func115, Try.ntmps115
  go_wp2_with fail
  go_loopw [7] (fun i wr => ∃ n q : Nat, n ≤ 258 ∧ c + n ≤ s.size ∧ i = .int .i64 (n : Int) ∧ Hid (Ty.mat s a c 258 = n + Ty.mat s (a + n) (c + n) (258 - n)) ∧ Hid (wr = w.drewN q)) (fun i _ => 258 - (intOf i).toNat)
  case atStart => exact ⟨0, 0, by omega, by omega, rfl, by show _ = _; simp, rfl⟩
  case round =>
    obtain ⟨n, q, hn, hbn, rfl, HM, HW⟩ := hrel
    by_cases h1 : n < 258
    · have d1 : decide ((n : Int) < 258) = true := decide_eq_true (by omega)
      obtain ⟨B, hB⟩ : ∃ B, B = c + n := ⟨_, rfl⟩
      have eB : (c : Int) + (n : Int) = (B : Int) := by omega
      have fB := wrap_i64_nat B (by omega)
      obtain ⟨A, hA⟩ : ∃ A, A = a + n := ⟨_, rfl⟩
      have eA : (a : Int) + (n : Int) = (A : Int) := by omega
      have fA := wrap_i64_nat A (by omega)
      by_cases h2 : B < s.size
      · have d2 : decide ((B : Int) < (s.size : Int)) = true := decide_eq_true (by omega)
        have hA2 : A < s.size := by omega
        have hAi : (A : Int) < (s.size : Int) := by omega
        have hBi : (B : Int) < (s.size : Int) := by omega
        have hBn : c + (n + 1) ≤ s.size := by omega
        by_cases h3 : (s[A]).toNat = (s[B]).toNat
        · have HM2 : Hid (Ty.mat s a c 258 = (n + 1) + Ty.mat s (a + (n + 1)) (c + (n + 1)) (258 - (n + 1))) := by
            show _ = _
            rw [HM.out, show 258 - n = (258 - (n + 1)) + 1 by omega, Ty.mat_yes (by omega) (by rw [← hA, ← hB, Ty.b_at hA2, Ty.b_at h2, h3]), show a + n + 1 = a + (n + 1) by omega, show c + n + 1 = c + (n + 1) by omega]
            omega
          have d3 : (((s[A]).toNat : Int) == ((s[B]).toNat : Int)) = true := by rw [beq_iff_eq]; omega
          clear h3 hB hA HM
          go_wp2_with fail
          go_quiet (fail)
          go_wp2_with fail
          go_roundw
          case rel => exact ⟨n + 1, q + nq, by omega, hBn, by go_num, HM2, by show _ = _; rw [HW.out, World.drewN_drewN]⟩
          case measure => simp [intOf]; omega
        · have HM2 : Hid (Ty.mat s a c 258 = n) := by
            show _ = _
            rw [HM.out, Ty.mat_no (by rw [← hA, ← hB, Ty.b_at hA2, Ty.b_at h2]; exact fun h => h3 h.2)]; rfl
          have d3 : (((s[A]).toNat : Int) == ((s[B]).toNat : Int)) = false := by rw [beq_eq_false_iff_ne]; omega
          clear h3 hB hA HM
          go_wp2_with fail
          go_quiet (fail)
          go_wp2_with fail
          go_ret
          exact ⟨by rw [HM2.out]; rfl, q + nq, by rw [HW.out, World.drewN_drewN]⟩
      · have d2 : decide ((B : Int) < (s.size : Int)) = false := decide_eq_false (by omega)
        have HM2 : Hid (Ty.mat s a c 258 = n) := by
          show _ = _
          rw [HM.out, Ty.mat_no (by rw [← hB]; exact fun h => h2 h.1)]; rfl
        clear hB hA HM
        go_wp2_with fail
        go_quiet (fail)
        go_wp2_with fail
        go_ret
        exact ⟨by rw [HM2.out]; rfl, q + nq, by rw [HW.out, World.drewN_drewN]⟩
    · have d1 : decide ((n : Int) < 258) = false := decide_eq_false (by omega)
      have HM2 : Hid (Ty.mat s a c 258 = n) := by
        show _ = _
        rw [HM.out, show 258 - n = 0 by omega]; rfl
      clear HM
      go_wp2_with fail
      go_quiet (fail)
      go_wp2_with fail
      go_ret
      exact ⟨by rw [HM2.out]; rfl, q + nq, by rw [HW.out, World.drewN_drewN]⟩
end Go.Proofs.Ytmfnepibhhhdcaa
