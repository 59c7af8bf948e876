/- The law on numbers in bytes, walked: what was written is there, the other way round it is the other way round, and what was read is written again as it stood. -/
import Derived.Test.YtoocijfkckjbfaaNumPutFacts
import Derived.Deep.RegionHeld3
namespace Go.Proofs.Ytoocijfkckjbfaa
open Go.RowKit

set_option maxHeartbeats 2000000 in
theorem lawNumPut (a0 : Option Addr) (len0 cap0 : Nat) (a1 : Option Addr) (len1 cap1 : Nat) (w : World) (h0 : Code8 w a0 len0 cap0) (h1 : Code8 w a1 len1 cap1) :
    Calls Try.prog 5 #[.slice a0 len0 cap0, .slice a1 len1 cap1] w fun e w' => e = .returned (.bool true) ∧ Below w.heap.size w w' := by
  have hl0 : len0 ≤ 9223372036854775807 := Nat.le_trans h0.1 h0.2.1
  have hl1 : len1 ≤ 9223372036854775807 := Nat.le_trans h1.1 h1.2.1
  by_cases b0 : 1048576 < len0
  · clear h0 h1
    go_enter Try.func5, Try.ntmps5
    go_wp2_with fail
    go_ret
    exact ⟨rfl, Below.refl _ _⟩
  · have d0 : decide ((1048576 : Int) < (len0 : Int)) = false := by simp; omega
    by_cases b1 : 1048576 < len1
    · clear h0 h1
      go_enter Try.func5, Try.ntmps5
      go_wp2_with fail
      go_ret
      exact ⟨rfl, Below.refl _ _⟩
    · have d1 : decide ((1048576 : Int) < (len1 : Int)) = false := by simp; omega
      go_enter Try.func5, Try.ntmps5
      go_wp2_with fail
      refine (drawNumPut_any a0 len0 cap0 w h0).mono ?_
      rintro e w1 ⟨⟨n, z, hi, rfl, hn1, hn2, hz1, hz2⟩, bel1⟩
      have h1' := h1.kept bel1
      clear h0 h1
      by_cases hF : NumFits n z
      · have hn0 : 0 ≤ n := hF.2.2.1
        obtain ⟨N, rfl⟩ := Int.eq_ofNat_of_zero_le hn0
        obtain ⟨S, rfl⟩ := Int.eq_ofNat_of_zero_le hz1
        obtain ⟨hS1, hS4, hfit⟩ := fits_nat hF
        obtain ⟨s, hs⟩ : ∃ s, s = ByteArray.mk (Pt.num N S hi).toArray := ⟨_, rfl⟩
        obtain ⟨o, ho⟩ : ∃ o, o = ByteArray.mk (Pt.num N S (!hi)).toArray := ⟨_, rfl⟩
        have hW : Wrote N S hi s o := ⟨by rw [hs], by rw [ho], hfit⟩
        have HI : Hid (∀ w, Calls Try.prog 17 #[.int .i64 N, .int .i64 S, .bool hi] w fun e w' => e = .returned (.string s) ∧ Below w.heap.size w w') := by
          intro w; rw [hs]; exact impl_numPut_yes N S hi w hF
        have HS : Hid (∀ w, Calls Try.prog 21 #[.int .i64 N, .int .i64 S, .bool hi] w fun e w' => e = .returned (.string s) ∧ Below w.heap.size w w') := by
          intro w; rw [hs]; exact spec_numPut_yes N S hi w hF
        have HO : Hid (∀ w, Calls Try.prog 17 #[.int .i64 N, .int .i64 S, .bool (!hi)] w fun e w' => e = .returned (.string o) ∧ Below w.heap.size w w') := by
          intro w; rw [ho]; exact impl_numPut_yes N S (!hi) w hF
        clear hs ho
        have hemp := hW.full hS1
        have hsz := hW.size
        have hsz2 := hW.size2
        have hszb : ((s.size : Int) == (S : Int)) = true := by rw [hsz]; simp
        have GB : Hid (∀ w, Calls Try.prog 19 #[.string s, .int .i64 0, .int .i64 S, .bool hi] w fun e w' => e = .returned (.tuple #[.int .i64 (N : Int), .bool true]) ∧ Below w.heap.size w w') := by
          intro w
          have := impl_numGet_yes s 0 S hi w ⟨by omega, by omega, by omega, by omega, by omega⟩
          rw [Int.toNat_natCast, hW.back] at this
          exact this
        have hszle : s.size ≤ 4 := by omega
        have hszge : S ≤ s.size := by omega
        have hsoge : S ≤ o.size := by omega
        clear hsz hsz2
        go_wp2_with fail
        refine (HI.out _).mono ?_
        rintro e w2 ⟨rfl, bel2⟩
        have bel := bel1.trans (bel2.mono bel1.size)
        have h1 := h1'.kept bel2
        clear h1' bel1 bel2
        go_wp2_with fail
        refine (drawNumGet_any a1 len1 cap1 w2 h1).mono ?_
        rintro e w3 ⟨⟨t, p, c, hi2, rfl, ht, hp1, hp2, hc1, hc2⟩, bel3⟩
        have bel' := bel.trans (bel3.mono bel.size)
        clear bel bel3 h1
        by_cases hT : NumThere t.size p c
        · have hp0 : 0 ≤ p := hT.2.2.2.1
          obtain ⟨A, rfl⟩ := Int.eq_ofNat_of_zero_le hp0
          obtain ⟨C, rfl⟩ := Int.eq_ofNat_of_zero_le hc1
          have hAC : A + C ≤ t.size := by have := hT.2.2.2.2; omega
          have hag := again t A C hi2 hAC
          have hVl := num_lt (fun i => byteAt t (A + i)) (fun i => byteAt_lt _ _) C hi2
          have gI := impl_numGet_yes t A C hi2
          have gS := spec_numGet_yes t A C hi2
          simp only [Int.toNat_natCast] at gI gS
          obtain ⟨V, hV⟩ : ∃ V, V = Nm.num (fun i => byteAt t (A + i)) C hi2 := ⟨_, rfl⟩
          rw [← hV] at gI gS hag hVl
          have GI := show Hid (∀ w, NumThere t.size A C → Calls Try.prog 19 #[.string t, .int .i64 A, .int .i64 C, .bool hi2] w fun e w' => e = .returned (.tuple #[.int .i64 (V : Int), .bool true]) ∧ Below w.heap.size w w') from gI
          have GS := show Hid (∀ w, NumThere t.size A C → Calls Try.prog 20 #[.string t, .int .i64 A, .int .i64 C, .bool hi2] w fun e w' => e = .returned (.tuple #[.int .i64 (V : Int), .bool true]) ∧ w' = w) from gS
          have GP : Hid (∀ w, Calls Try.prog 17 #[.int .i64 V, .int .i64 C, .bool hi2] w fun e w' => e = .returned (.string ⟨(Pt.num V C hi2).toArray⟩) ∧ Below w.heap.size w w') :=
            fun w => impl_numPut_yes V C hi2 w ⟨hT.1, hT.2.1, by omega, by rw [Int.toNat_natCast, Int.toNat_natCast]; exact hVl⟩
          clear gI gS hV hVl
          obtain ⟨D, hD⟩ : ∃ D, D = A + C := ⟨_, rfl⟩
          have hwD : IntKind.i64.wrap ((A : Int) + (C : Int)) = (D : Int) := by
            rw [← wrap_i64_nat D (by omega), hD]; congr 1
          rw [← hD] at hag
          have hAD : A ≤ D := by omega
          have hDt : D ≤ t.size := by omega
          have hADi : (A : Int) ≤ (D : Int) := by omega
          have hDti : (D : Int) ≤ (t.size : Int) := by omega
          clear hD
          generalize ByteArray.mk (Pt.num V C hi2).toArray = u at *
          go_wp2_with fail
          refine (GI.out _ hT).mono ?_
          rintro e w4 ⟨rfl, bel4⟩
          have bel := bel'.trans (bel4.mono bel'.size)
          clear bel' bel4
          go_wp2_with fail
          refine (GS.out _ hT).mono ?_
          rintro e w5 ⟨rfl, rfl⟩
          go_wp2_with fail
          refine (HS.out _).mono ?_
          rintro e w6 ⟨rfl, bel6⟩
          have bel' := bel.trans (bel6.mono bel.size)
          clear bel bel6 hT
          go_wp2_with fail
          have PK : Hid ((∀ w, Calls Try.prog 17 #[.int .i64 N, .int .i64 S, .bool (!hi)] w fun e w' => e = .returned (.string o) ∧ Below w.heap.size w w') ∧ Wrote N S hi s o) := ⟨HO.out, hW⟩
          clear HO HI HS GI GS hW
          go_region_held3 (fun _ => True) (trivial) ((go_at_call 17; refine (GP.out _).mono ?_; rintro e w9 ⟨rfl, bel9⟩))
          have HO : Hid (∀ w, Calls Try.prog 17 #[.int .i64 N, .int .i64 S, .bool (!hi)] w fun e w' => e = .returned (.string o) ∧ Below w.heap.size w w') := PK.out.1
          have hW := PK.out.2
          have bel := bel'.trans ((Below.refl _ _).drew.trans bel9 |>.mono bel'.size)
          clear bel' bel9 hag hAD hDt hADi hDti hwD PK GP
          focus
            go_wp2_with fail
            refine (GB.out _).mono ?_
            rintro e w7 ⟨rfl, bel7⟩
            have bel8 := bel.trans (bel7.mono bel.size)
            clear bel bel7
            go_wp2_with fail
            refine (HO.out _).mono ?_
            rintro e w8 ⟨rfl, bel9⟩
            have bel := bel8.trans (bel9.mono bel8.size)
            clear bel8 bel9
            go_wp2_with fail
            go_loopw [20] (fun i wr => ∃ k m : Nat, k ≤ S ∧ i = .int .i64 k ∧ wr = w8.drewN m) (fun i _ => S - (intOf i).toNat)
            case atStart => exact ⟨0, 0, Nat.zero_le _, rfl, rfl⟩
            case round =>
              obtain ⟨k, m, hk, rfl, rfl⟩ := hrel
              by_cases hlt : k < S
              · have hks : k < s.size := by omega
                have hjo : S - 1 - k < o.size := by omega
                have hmir := hW.mirror k (S - 1 - k) hks hjo (by omega)
                have hki : (k : Int) < (s.size : Int) := by omega
                obtain ⟨S1, hS1e⟩ : ∃ S1, S = S1 + 1 := ⟨S - 1, by omega⟩
                obtain ⟨j, hje⟩ : ∃ j, j = S - 1 - k := ⟨_, rfl⟩
                have hw1 : IntKind.i64.wrap ((S : Int) - 1) = (S1 : Int) := by rw [← wrap_i64_nat S1 (by omega)]; congr 1; omega
                have hw2 : IntKind.i64.wrap ((S1 : Int) - (k : Int)) = (j : Int) := by rw [← wrap_i64_nat j (by omega)]; congr 1; omega
                have hjo' : j < o.size := by omega
                have hji : (j : Int) < (o.size : Int) := by omega
                have hmir' : (s[k]).toNat = (o[j]).toNat := hW.mirror k j hks hjo' (by omega)
                have HJ : Hid (k < S ∧ k + 1 ≤ S) := ⟨hlt, hlt⟩
                clear hmir hje hS1e hjo
                go_wp2_with fail
                go_region_held3 (fun _ => True) (trivial) (fail)
                all_goals go_wp2_with fail
                all_goals
                  go_roundw
                  case rel => exact ⟨k + 1, m + 1, HJ.out.2, by go_num, rfl⟩
                  case measure => have := HJ.out; simp [intOf]; omega
              · go_wp2_with fail
                go_ret
                exact ⟨rfl, below_drewN bel _⟩
        · have GI : Hid (∀ w, Calls Try.prog 19 #[.string t, .int .i64 p, .int .i64 c, .bool hi2] w fun e w' => e = .returned (.tuple #[.int .i64 0, .bool false]) ∧ w' = w) := fun w => impl_numGet_no t p c hi2 w (by omega) hT
          have GS : Hid (∀ w, Calls Try.prog 20 #[.string t, .int .i64 p, .int .i64 c, .bool hi2] w fun e w' => e = .returned (.tuple #[.int .i64 0, .bool false]) ∧ w' = w) := fun w => spec_numGet_no t p c hi2 w (by omega) hT
          go_wp2_with fail
          refine (GI.out _).mono ?_
          rintro e w4 ⟨rfl, rfl⟩
          go_wp2_with fail
          refine (GS.out _).mono ?_
          rintro e w5 ⟨rfl, rfl⟩
          go_wp2_with fail
          refine (HS.out _).mono ?_
          rintro e w6 ⟨rfl, bel6⟩
          have bel := bel'.trans (bel6.mono bel'.size)
          clear bel' bel6 hT
          go_wp2_with fail
          clear HI HS GI GS
          go_region
          have bel0 := bel.drew
          clear bel
          have bel := bel0
          clear bel0
          focus
            go_wp2_with fail
            refine (GB.out _).mono ?_
            rintro e w7 ⟨rfl, bel7⟩
            have bel8 := bel.trans (bel7.mono bel.size)
            clear bel bel7
            go_wp2_with fail
            refine (HO.out _).mono ?_
            rintro e w8 ⟨rfl, bel9⟩
            have bel := bel8.trans (bel9.mono bel8.size)
            clear bel8 bel9
            go_wp2_with fail
            go_loopw [20] (fun i wr => ∃ k m : Nat, k ≤ S ∧ i = .int .i64 k ∧ wr = w8.drewN m) (fun i _ => S - (intOf i).toNat)
            case atStart => exact ⟨0, 0, Nat.zero_le _, rfl, rfl⟩
            case round =>
              obtain ⟨k, m, hk, rfl, rfl⟩ := hrel
              by_cases hlt : k < S
              · have hks : k < s.size := by omega
                have hjo : S - 1 - k < o.size := by omega
                have hmir := hW.mirror k (S - 1 - k) hks hjo (by omega)
                have hki : (k : Int) < (s.size : Int) := by omega
                obtain ⟨S1, hS1e⟩ : ∃ S1, S = S1 + 1 := ⟨S - 1, by omega⟩
                obtain ⟨j, hje⟩ : ∃ j, j = S - 1 - k := ⟨_, rfl⟩
                have hw1 : IntKind.i64.wrap ((S : Int) - 1) = (S1 : Int) := by rw [← wrap_i64_nat S1 (by omega)]; congr 1; omega
                have hw2 : IntKind.i64.wrap ((S1 : Int) - (k : Int)) = (j : Int) := by rw [← wrap_i64_nat j (by omega)]; congr 1; omega
                have hjo' : j < o.size := by omega
                have hji : (j : Int) < (o.size : Int) := by omega
                have hmir' : (s[k]).toNat = (o[j]).toNat := hW.mirror k j hks hjo' (by omega)
                have HJ : Hid (k < S ∧ k + 1 ≤ S) := ⟨hlt, hlt⟩
                clear hmir hje hS1e hjo
                go_wp2_with fail
                go_region_held3 (fun _ => True) (trivial) (fail)
                all_goals go_wp2_with fail
                all_goals
                  go_roundw
                  case rel => exact ⟨k + 1, m + 1, HJ.out.2, by go_num, rfl⟩
                  case measure => have := HJ.out; simp [intOf]; omega
              · go_wp2_with fail
                go_ret
                exact ⟨rfl, below_drewN bel _⟩
      · have HI : Hid (∀ w, Calls Try.prog 17 #[.int .i64 n, .int .i64 z, .bool hi] w fun e w' => e = .returned (.string ⟨#[]⟩) ∧ w' = w) := fun w => impl_numPut_no n z hi w hF
        have HS : Hid (∀ w, Calls Try.prog 21 #[.int .i64 n, .int .i64 z, .bool hi] w fun e w' => e = .returned (.string ⟨#[]⟩) ∧ w' = w) := fun w => spec_numPut_no n z hi w hF
        clear hF
        go_wp2_with fail
        refine (HI.out _).mono ?_
        rintro e w2 ⟨rfl, hw2⟩
        subst hw2
        go_wp2_with fail
        refine (drawNumGet_any a1 len1 cap1 w2 h1').mono ?_
        rintro e w3 ⟨⟨t, p, c, hi2, rfl, ht, hp1, hp2, hc1, hc2⟩, bel3⟩
        have bel' := bel1.trans (bel3.mono bel1.size)
        clear bel1 bel3 h1'
        by_cases hT : NumThere t.size p c
        · have hp0 : 0 ≤ p := hT.2.2.2.1
          obtain ⟨A, rfl⟩ := Int.eq_ofNat_of_zero_le hp0
          obtain ⟨C, rfl⟩ := Int.eq_ofNat_of_zero_le hc1
          have hAC : A + C ≤ t.size := by have := hT.2.2.2.2; omega
          have hag := again t A C hi2 hAC
          have hVl := num_lt (fun i => byteAt t (A + i)) (fun i => byteAt_lt _ _) C hi2
          have gI := impl_numGet_yes t A C hi2
          have gS := spec_numGet_yes t A C hi2
          simp only [Int.toNat_natCast] at gI gS
          obtain ⟨V, hV⟩ : ∃ V, V = Nm.num (fun i => byteAt t (A + i)) C hi2 := ⟨_, rfl⟩
          rw [← hV] at gI gS hag hVl
          have GI := show Hid (∀ w, NumThere t.size A C → Calls Try.prog 19 #[.string t, .int .i64 A, .int .i64 C, .bool hi2] w fun e w' => e = .returned (.tuple #[.int .i64 (V : Int), .bool true]) ∧ Below w.heap.size w w') from gI
          have GS := show Hid (∀ w, NumThere t.size A C → Calls Try.prog 20 #[.string t, .int .i64 A, .int .i64 C, .bool hi2] w fun e w' => e = .returned (.tuple #[.int .i64 (V : Int), .bool true]) ∧ w' = w) from gS
          have GP : Hid (∀ w, Calls Try.prog 17 #[.int .i64 V, .int .i64 C, .bool hi2] w fun e w' => e = .returned (.string ⟨(Pt.num V C hi2).toArray⟩) ∧ Below w.heap.size w w') :=
            fun w => impl_numPut_yes V C hi2 w ⟨hT.1, hT.2.1, by omega, by rw [Int.toNat_natCast, Int.toNat_natCast]; exact hVl⟩
          clear gI gS hV hVl
          obtain ⟨D, hD⟩ : ∃ D, D = A + C := ⟨_, rfl⟩
          have hwD : IntKind.i64.wrap ((A : Int) + (C : Int)) = (D : Int) := by
            rw [← wrap_i64_nat D (by omega), hD]; congr 1
          rw [← hD] at hag
          have hAD : A ≤ D := by omega
          have hDt : D ≤ t.size := by omega
          have hADi : (A : Int) ≤ (D : Int) := by omega
          have hDti : (D : Int) ≤ (t.size : Int) := by omega
          clear hD
          generalize ByteArray.mk (Pt.num V C hi2).toArray = u at *
          go_wp2_with fail
          refine (GI.out _ hT).mono ?_
          rintro e w4 ⟨rfl, bel4⟩
          have bel := bel'.trans (bel4.mono bel'.size)
          clear bel' bel4
          go_wp2_with fail
          refine (GS.out _ hT).mono ?_
          rintro e w5 ⟨rfl, rfl⟩
          go_wp2_with fail
          refine (HS.out _).mono ?_
          rintro e w6 ⟨rfl, hw6⟩
          subst hw6
          clear hT
          go_wp2_with fail
          clear HI HS GI GS
          go_region_held3 (fun _ => True) (trivial) ((go_at_call 17; refine (GP.out _).mono ?_; rintro e w9 ⟨rfl, bel9⟩))
          have bel8 := bel.trans ((Below.refl _ _).drew.trans bel9 |>.mono bel.size)
          clear bel bel9 hag hAD hDt hADi hDti hwD GP
          go_wp2_with fail
          go_ret
          exact ⟨rfl, bel8⟩
        · have GI : Hid (∀ w, Calls Try.prog 19 #[.string t, .int .i64 p, .int .i64 c, .bool hi2] w fun e w' => e = .returned (.tuple #[.int .i64 0, .bool false]) ∧ w' = w) := fun w => impl_numGet_no t p c hi2 w (by omega) hT
          have GS : Hid (∀ w, Calls Try.prog 20 #[.string t, .int .i64 p, .int .i64 c, .bool hi2] w fun e w' => e = .returned (.tuple #[.int .i64 0, .bool false]) ∧ w' = w) := fun w => spec_numGet_no t p c hi2 w (by omega) hT
          go_wp2_with fail
          refine (GI.out _).mono ?_
          rintro e w4 ⟨rfl, rfl⟩
          go_wp2_with fail
          refine (GS.out _).mono ?_
          rintro e w5 ⟨rfl, rfl⟩
          go_wp2_with fail
          refine (HS.out _).mono ?_
          rintro e w6 ⟨rfl, hw6⟩
          subst hw6
          clear hT
          go_wp2_with fail
          clear HI HS GI GS
          go_region
          have bel8 := bel'.drew
          clear bel'
          go_wp2_with fail
          go_ret
          exact ⟨rfl, bel8⟩
end Go.Proofs.Ytoocijfkckjbfaa
