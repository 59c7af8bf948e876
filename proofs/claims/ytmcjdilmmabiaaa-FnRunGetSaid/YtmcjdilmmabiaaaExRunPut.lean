/- The exact law of RunPut, walked. -/
import Derived.Test.YtmcjdilmmabiaaaRtSpec
import Derived.Test.YtmcjdilmmabiaaaRtImpl
import Derived.Test.YtmcjdilmmabiaaaRow64
import Derived.Test.YtmcjdilmmabiaaaInWalks
import Derived.Test.YtmcjdilmmabiaaaPowWalks
namespace Go.Proofs.Ytmcjdilmmabiaaa
open Go.RowKit

def Rt.yes (s : Int) (l : List Int) : Bool := decide (1 ≤ s ∧ s ≤ 4) && decide (l.length ≤ 1000) && Rt.fit s.toNat l
def Rt.ans (s : Int) (l : List Int) : List UInt8 := if Rt.yes s l then Rt.all s.toNat l else []

theorem Rt.pow_lt {S : Nat} (h : S ≤ 4) : 256 ^ S ≤ 4294967296 := Nat.le_trans (Nat.pow_le_pow_right (by omega) h) (by decide)

set_option maxHeartbeats 400000 in
theorem l7Run_nil (a : Option Addr) (cap S : Nat) (w : World) :
    Calls Try.prog 40 #[.slice a 0 cap, .int .i64 (S : Int)] w fun e w' => e = .returned (.string ⟨([] : List UInt8).toArray⟩) ∧ w' = w := by
  go_enter Try.func40, Try.ntmps40
  go_wp2_with fail
  go_loop [5, 6] (fun o i => o = .string ⟨#[]⟩ ∧ i = .int .i64 0) (fun _ _ => 0)
  case atStart => exact ⟨rfl, rfl⟩
  case round =>
    obtain ⟨rfl, rfl⟩ := hrel
    go_wp2_with fail
    go_ret
    exact ⟨rfl, rfl⟩

set_option maxHeartbeats 1000000 in
theorem spec_runPut (a : Option Addr) (n cap : Nat) (s : Int) (l : List Int) (w : World) (hl : Ints w a l) (hn : l.length = n) (hnb : n ≤ 1048576) :
    Calls Try.prog 15 #[.slice a n cap, .int .i64 s] w fun e w' => e = .returned (.string ⟨(Rt.ans s l).toArray⟩) ∧ Below w.heap.size w w' := by
  by_cases h1 : 1 ≤ s ∧ s ≤ 4
  · obtain ⟨S, rfl⟩ := Int.eq_ofNat_of_zero_le (show 0 ≤ s by omega)
    have hS : S ≤ 4 := by omega
    have HIn : Hid (Calls Try.prog 34 #[.int .i64 (S : Int), .int .i64 1, .int .i64 4] w fun e w' => e = .returned (.bool true) ∧ w' = w) := l1In_yes _ _ _ w h1.1 h1.2
    by_cases h2 : n ≤ 1000
    · have HE : Hid (Rt.ans (S : Int) l = if Rt.fit S l then Rt.all S l else []) := by
        show _ = _
        unfold Rt.ans Rt.yes
        rw [decide_eq_true h1, decide_eq_true (show l.length ≤ 1000 by omega), Int.toNat_natCast]; rfl
      have d2 : decide ((n : Int) > 1000) = false := by simp; omega
      have HL : Hid (Ints w a l) := hl
      have HN : Hid (l.length = n) := hn
      obtain ⟨B, hB⟩ : ∃ B, B = 8 * S := ⟨_, rfl⟩
      have e8 : (8 : Int) * (S : Int) = (B : Int) := by omega
      obtain ⟨P, hP⟩ : ∃ P : Nat, P = 256 ^ S := ⟨_, rfl⟩
      have HP : Hid (P = 256 ^ S) := hP
      have HPow : Hid (∀ w : World, Calls Try.prog 36 #[.int .i64 (B : Int)] w fun e w' => e = .returned (.int .i64 (P : Int)) ∧ w' = w) := fun w => by
        have := l1Pow_any B w (by omega)
        rw [hB, pow8, ← hP] at this; rw [hB]; exact this
      have hPb : P ≤ 4294967296 := by rw [hP]; exact Rt.pow_lt hS
      have hP0 : 1 ≤ P := by rw [hP]; exact Nat.one_le_pow _ _ (by omega)
      have hb32 : B ≤ 32 := by omega
      clear hl hn hB hP
      go_enter Try.func15, Try.ntmps15
      go_wp2_with fail
      refine HIn.out.mono ?_
      rintro e w1 ⟨rfl, rfl⟩
      clear HIn
      go_wp2_with fail
      go_loopw [5] (fun i wr => ∃ k : Nat, k ≤ n ∧ i = .int .i64 (k : Int) ∧ (∀ j (hj : j < l.length), j < k → 0 ≤ l[j] ∧ l[j] < ((256 ^ S : Nat) : Int)) ∧ ∃ q, wr = w1.drewN q) (fun i _ => n - (intOf i).toNat)
      case atStart => exact ⟨0, Nat.zero_le _, rfl, fun j _ hj => by omega, 0, rfl⟩
      case round =>
        obtain ⟨k, hk, rfl, hall, q, hq⟩ := hrel
        have HQ : Hid (wr = w1.drewN q) := hq
        have HLr : Hid (Ints wr a l) := by rw [hq]; exact HL.out
        clear hq
        have HA : Hid (∀ j (hj : j < l.length), j < k → 0 ≤ l[j] ∧ l[j] < ((256 ^ S : Nat) : Int)) := hall
        clear hall
        by_cases hlt : k < n
        · have hkl : k < l.length := by rw [HN.out]; exact hlt
          rcases HLr.out with h | ⟨b, off, rfl, hb, hc⟩
          · rw [h] at hkl; simp at hkl
          have hcx := hc k hkl
          by_cases hz : 0 ≤ l[k] ∧ l[k] < ((256 ^ S : Nat) : Int)
          · have HG : Hid (∀ j (hj : j < l.length), j < k + 1 → 0 ≤ l[j] ∧ l[j] < ((256 ^ S : Nat) : Int)) := fun j hj hjk => by
              by_cases e : j = k
              · subst e; exact hz
              · exact HA.out j hj (by omega)
            rw [← HP.out] at hz
            have HI2 : Hid (∀ w : World, Calls Try.prog 34 #[.int .i64 l[k], .int .i64 0, .int .i64 ((P : Int) - 1)] w fun e w' => e = .returned (.bool true) ∧ w' = w) := fun w => l1In_yes _ _ _ w hz.1 (by omega)
            generalize l[k] = z at *
            clear hc HA HL HLr hz
            have eB : IntKind.i64.wrap (B : Int) = (B : Int) := wrap_i64_nat B (by omega)
            have eP : IntKind.i64.wrap ((P : Int) - 1) = (P : Int) - 1 := by simp [IntKind.wrap, IntKind.bits, IntKind.signed]; omega
            go_wp2_with fail
            go_quiet (first | (go_at_call 36; exact Calls.quiet_of_same (HPow.out _)) | (go_at_call 34; exact Calls.quiet_of_same (HI2.out _)))
            go_wp2_with fail
            go_roundw
            case rel => exact ⟨k + 1, by omega, by go_num, HG.out, q + nq, by rw [HQ.out, World.drewN_drewN]⟩
            case measure => simp [intOf]; omega
          · have HF : Hid (Rt.fit S l = false) := Rt.fit_no k hkl hz
            rw [← HP.out] at hz
            have HI2 : Hid (∀ w : World, Calls Try.prog 34 #[.int .i64 l[k], .int .i64 0, .int .i64 ((P : Int) - 1)] w fun e w' => e = .returned (.bool false) ∧ w' = w) := fun w => l1In_no _ _ _ w (by omega)
            generalize l[k] = z at *
            clear hc HA HL HLr hz
            have eB : IntKind.i64.wrap (B : Int) = (B : Int) := wrap_i64_nat B (by omega)
            have eP : IntKind.i64.wrap ((P : Int) - 1) = (P : Int) - 1 := by simp [IntKind.wrap, IntKind.bits, IntKind.signed]; omega
            go_wp2_with fail
            go_quiet (first | (go_at_call 36; exact Calls.quiet_of_same (HPow.out _)) | (go_at_call 34; exact Calls.quiet_of_same (HI2.out _)))
            go_wp2_with fail
            go_ret
            exact ⟨by rw [HE.out, HF.out]; rfl, by rw [HQ.out]; exact below_drewN (below_drewN (Below.refl _ _) q) _⟩
        · have HF : Hid (Rt.fit S l = true) := Rt.fit_yes (fun i hi => HA.out i hi (by have := HN.out; omega))
          clear HA
          have HC : Hid (Calls Try.prog 40 #[.slice a n cap, .int .i64 (S : Int)] wr fun e w' => e = .returned (.string ⟨(Rt.all S l).toArray⟩) ∧ Below w1.heap.size w1 w') := by
            rcases HL.out with h | ⟨b, off, rfl, hb, hc⟩
            · have hn0 : n = 0 := by rw [← HN.out, h]; rfl
              show Calls _ _ _ _ _
              rw [HQ.out, show Rt.all S l = [] by rw [h]; rfl, hn0]
              exact (l7Run_nil a cap S _).mono (fun e w' h => ⟨h.1, h.2 ▸ below_drewN (Below.refl _ _) q⟩)
            · show Calls _ _ _ _ _
              rw [HQ.out]
              exact (l7Run_any b off cap n S l (w1.drewN q) ⟨hb, hc⟩ HN.out h2 hS HF.out).mono (fun e w' h => ⟨h.1, (below_drewN (Below.refl _ _) q).trans h.2⟩)
          clear HL HLr
          go_wp2_with fail
          refine HC.out.mono ?_
          rintro e w2 ⟨rfl, b2⟩
          go_wp2_with fail
          go_ret
          exact ⟨by rw [HE.out, HF.out]; rfl, b2⟩
    · have HE : Hid (Rt.ans (S : Int) l = []) := by
        show _ = _
        unfold Rt.ans Rt.yes
        rw [decide_eq_false (show ¬ l.length ≤ 1000 by omega)]; simp
      have d2 : decide ((n : Int) > 1000) = true := by simp; omega
      clear hl hn
      go_enter Try.func15, Try.ntmps15
      go_wp2_with fail
      refine HIn.out.mono ?_
      rintro e w1 ⟨rfl, rfl⟩
      go_wp2_with fail
      go_ret
      exact ⟨by rw [HE.out]; rfl, Below.refl _ _⟩
  · have HE : Hid (Rt.ans s l = []) := by
      show _ = _
      unfold Rt.ans Rt.yes
      rw [decide_eq_false h1]; rfl
    have HIn : Hid (Calls Try.prog 34 #[.int .i64 s, .int .i64 1, .int .i64 4] w fun e w' => e = .returned (.bool false) ∧ w' = w) := l1In_no _ _ _ w h1
    clear hl hn h1
    go_enter Try.func15, Try.ntmps15
    go_wp2_with fail
    refine HIn.out.mono ?_
    rintro e w1 ⟨rfl, rfl⟩
    go_wp2_with fail
    go_ret
    exact ⟨by rw [HE.out]; rfl, Below.refl _ _⟩

set_option maxHeartbeats 1000000 in
theorem impl_runPut (a : Option Addr) (n cap : Nat) (s : Int) (l : List Int) (w : World) (hl : Ints w a l) (hn : l.length = n) (hnb : n ≤ 1048576) (hcap : n ≤ cap) :
    Calls Try.prog 14 #[.slice a n cap, .int .i64 s] w fun e w' => e = .returned (.string ⟨(Rt.ans s l).toArray⟩) ∧ Below w.heap.size w w' := by
  cases hy : Rt.yes s l
  · have HE : Hid (Rt.ans s l = []) := by show _ = _; unfold Rt.ans; rw [hy]; rfl
    by_cases h1 : s < 1
    · have d1 : decide (s < 1) = true := by simpa using h1
      clear hl hn hy
      go_enter Try.func14, Try.ntmps14
      go_wp2_with fail
      go_ret
      exact ⟨by rw [HE.out]; rfl, (Below.refl _ _).alloc (Nat.le_refl _) _⟩
    · have d1 : decide (s < 1) = false := by simpa using h1
      by_cases h4 : s > 4
      · have d4 : decide (s > 4) = true := by simpa using h4
        clear hl hn hy
        go_enter Try.func14, Try.ntmps14
        go_wp2_with fail
        go_ret
        exact ⟨by rw [HE.out]; rfl, (Below.refl _ _).alloc (Nat.le_refl _) _⟩
      · have d4 : decide (s > 4) = false := by simpa using h4
        by_cases h2 : n ≤ 1000
        · have d3 : decide ((n : Int) > 1000) = false := by simp; omega
          obtain ⟨S, rfl⟩ := Int.eq_ofNat_of_zero_le (show 0 ≤ s by omega)
          have hF : Rt.fit S l = false := by
            unfold Rt.yes at hy
            rw [decide_eq_true (show 1 ≤ (S : Int) ∧ (S : Int) ≤ 4 by omega), decide_eq_true (show l.length ≤ 1000 by omega), Int.toNat_natCast] at hy
            simpa using hy
          obtain ⟨B, hB⟩ : ∃ B, B = 8 * S := ⟨_, rfl⟩
          have e8 : (8 : Int) * (S : Int) = (B : Int) := by omega
          have HNF : Hid (∀ X : World, Below w.heap.size w X → Calls Try.prog 37 #[.slice a n cap, .int .i64 (B : Int)] X fun e w' => e = .returned (.bool false) ∧ w' = X) := fun X hX => by
            have := numbersFit_any a n cap B S l X (hl.kept hX) hn (by omega) hB (by omega)
            rw [hF] at this; exact this
          clear hl hn hy hF hB
          go_enter Try.func14, Try.ntmps14
          go_wp2_with fail
          refine (HNF.out _ ((Below.refl _ _).alloc (Nat.le_refl _) _)).mono ?_
          rintro e w1 ⟨rfl, rfl⟩
          go_wp2_with fail
          go_ret
          exact ⟨by rw [HE.out]; rfl, (Below.refl _ _).alloc (Nat.le_refl _) _⟩
        · have d3 : decide ((n : Int) > 1000) = true := by simp; omega
          clear hl hn hy
          go_enter Try.func14, Try.ntmps14
          go_wp2_with fail
          go_ret
          exact ⟨by rw [HE.out]; rfl, (Below.refl _ _).alloc (Nat.le_refl _) _⟩
  · have hE : Rt.ans s l = Rt.all s.toNat l := by unfold Rt.ans; rw [hy]; rfl
    unfold Rt.yes at hy
    simp only [Bool.and_eq_true, decide_eq_true_eq] at hy
    obtain ⟨⟨⟨h1, h4⟩, h2⟩, hf⟩ := hy
    obtain ⟨S, rfl⟩ := Int.eq_ofNat_of_zero_le (show 0 ≤ s by omega)
    rw [Int.toNat_natCast] at hf hE
    rw [hE]
    exact callsIn_wide.1 (impl_runPut_in a n cap S l w hl hn (by omega) hcap (by omega) (by omega) hf)

end Go.Proofs.Ytmcjdilmmabiaaa
