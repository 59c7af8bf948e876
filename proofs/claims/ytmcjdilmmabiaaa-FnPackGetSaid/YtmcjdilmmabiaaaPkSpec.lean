/- PackPut of the specification. -/
import Derived.Test.YtmcjdilmmabiaaaPkMath
import Derived.Test.YtmcjdilmmabiaaaBkSpec
namespace Go.Proofs.Ytmcjdilmmabiaaa
open Go.RowKit

theorem below_drewN {B : Nat} {w w' : World} (h : Below B w w') (n : Nat) : Below B w (w'.drewN n) := ⟨h.os, h.tape, h.output, h.size, h.block⟩

theorem Pk.drop_at (s : ByteArray) (A k : Nat) (h : A + k < s.size) : ((Pk.ints s.data.toList).drop A)[k]? = some ((byteAt s (A + k) : Nat) : Int) := by
  rw [List.getElem?_drop, List.getElem?_eq_getElem (by rw [Pk.ints_len, bytes_len]; exact h), Pk.ints_at]
  rfl
theorem Pk.drop_len (s : ByteArray) (A : Nat) : ((Pk.ints s.data.toList).drop A).length = s.size - A := by
  rw [List.length_drop, Pk.ints_len, bytes_len]

set_option maxHeartbeats 1000000 in
theorem l7Alike_any (s : ByteArray) (A m : Nat) (w : World) (hs : s.size ≤ 5000) (hA : A < s.size) (hm : m ≤ 1000) (hm1 : 1 ≤ m) :
    Calls Try.prog 26 #[.string s, .int .i64 (A : Int), .int .i64 (m : Int)] w fun e w' => e = .returned (.int .i64 ((Rn.same ((Pk.ints s.data.toList).drop A) m : Nat) : Int)) ∧ ∃ q, w' = w.drewN q := by
  obtain ⟨L, hL⟩ : ∃ L, L = (Pk.ints s.data.toList).drop A := ⟨_, rfl⟩
  have HL : Hid (∀ k, A + k < s.size → L[k]? = some ((byteAt s (A + k) : Nat) : Int)) := fun k hk => by rw [hL]; exact Pk.drop_at s A k hk
  have HN : Hid (L.length = s.size - A) := by show _ = _; rw [hL]; exact Pk.drop_len s A
  rw [← hL]
  clear hL
  have hbA := byteAt_eq s A hA
  have HY : Hid (L[0]? = some ((byteAt s A : Nat) : Int)) := HL.out 0 (by omega)
  have H0 : Hid (Rn.sameP L m 0 = true) := by
    show _ = _
    unfold Rn.sameP; rw [HN.out]; simp; omega
  generalize byteAt s A = y at *
  have hAi : (A : Int) < (s.size : Int) := by omega
  go_enter Try.func26, Try.ntmps26
  go_wp2_with fail
  go_loopw [7] (fun i wr => ∃ k : Nat, 1 ≤ k ∧ A + k ≤ s.size ∧ k ≤ m ∧ i = .int .i64 (k : Int) ∧ (∀ j, j < k → Rn.sameP L m j = true) ∧ ∃ q, wr = w.drewN q) (fun i _ => s.size - (intOf i).toNat)
  case atStart => exact ⟨1, Nat.le_refl _, by omega, by omega, rfl, fun j hj => (by rw [show j = 0 by omega]; exact H0.out), 0, rfl⟩
  case round =>
    obtain ⟨k, hk1, hk, hkm, rfl, hall, q, rfl⟩ := hrel
    have HA : Hid (∀ j, j < k → Rn.sameP L m j = true) := hall
    clear hall
    have HE : Hid ((Rn.sameP L m k = false) → k = Rn.same L m) := fun h => Rn.same_eq h HA.out (by rw [HN.out]; omega)
    obtain ⟨j, hj⟩ : ∃ j, j = A + k := ⟨_, rfl⟩
    have e1 : (A : Int) + (k : Int) = (j : Int) := by omega
    have e2 := wrap_i64_nat j (by omega)
    by_cases h2 : k < m
    · have d2 : decide ((k : Int) < (m : Int)) = true := by simp; exact h2
      by_cases h1 : j < s.size
      · have d1 : decide ((j : Int) < (s.size : Int)) = true := by simp; exact h1
        have hbj := byteAt_eq s j h1
        have HX : Hid (L[k]? = some ((byteAt s j : Nat) : Int)) := by rw [hj]; exact HL.out k (by omega)
        have hkn : k < s.size - A := by omega
        have hji : (j : Int) < (s.size : Int) := by omega
        have HJ : Hid (j = A + k) := hj
        clear hj
        generalize byteAt s j = x at *
        by_cases h3 : x = y
        · subst h3
          have HS : Hid (Rn.sameP L m k = true) := by
            show _ = _
            unfold Rn.sameP; rw [HX.out, HY.out, HN.out]; simp [hkn, h2]
          clear HX HL HY
          go_wp2_with fail
          go_region
          all_goals go_wp2_with fail
          all_goals
            go_roundw
            case rel => exact ⟨k + 1, by omega, by have := HJ.out; omega, by omega, by go_num, fun j hj => (by
              by_cases e : j = k
              · rw [e]; exact HS.out
              · exact HA.out j (by omega)), q + 1, rfl⟩
            case measure => simp [intOf]; omega
        · have HS : Hid (k = Rn.same L m) := HE.out (by unfold Rn.sameP; rw [HX.out, HY.out]; simp; intros; omega)
          have d3 : decide (x = y) = false := by simp [h3]
          have d3' : ((x : Int) == (y : Int)) = false := by simp; omega
          clear HX HL HY HE
          go_wp2_with fail
          go_region
          all_goals go_wp2_with fail
          all_goals
            go_ret
            exact ⟨by rw [← HS.out]; rfl, q + 1, rfl⟩
      · have HS : Hid (k = Rn.same L m) := HE.out (by simp [Rn.sameP, HN.out]; omega)
        have d1 : decide ((j : Int) < (s.size : Int)) = false := by simp; omega
        clear HL HE hj
        go_wp2_with fail
        go_region
        all_goals go_wp2_with fail
        all_goals
          go_ret
          exact ⟨by rw [← HS.out]; rfl, q + 1, rfl⟩
    · have HS : Hid (k = Rn.same L m) := HE.out (by simp [Rn.sameP, h2])
      have d2 : decide ((k : Int) < (m : Int)) = false := by simp; omega
      clear HL HE hj
      go_wp2_with fail
      go_region
      all_goals go_wp2_with fail
      all_goals
        go_ret
        exact ⟨by rw [← HS.out]; rfl, q + 1, rfl⟩

set_option maxHeartbeats 1000000 in
theorem l7Fresh_any (s : ByteArray) (A m : Nat) (w : World) (hs : s.size ≤ 5000) (hA : A < s.size) (hm : m ≤ 1000) :
    Calls Try.prog 27 #[.string s, .int .i64 (A : Int), .int .i64 (m : Int)] w fun e w' => e = .returned (.int .i64 ((Rn.fresh ((Pk.ints s.data.toList).drop A) 3 m : Nat) : Int)) ∧ ∃ q, w' = w.drewN q := by
  obtain ⟨L, hL⟩ : ∃ L, L = (Pk.ints s.data.toList).drop A := ⟨_, rfl⟩
  have HL : Hid (∀ (k : Nat) (w : World), A + k < s.size → Calls Try.prog 26 #[.string s, .int .i64 ((A + k : Nat) : Int), .int .i64 3] w fun e w' => e = .returned (.int .i64 ((Rn.same (L.drop k) 3 : Nat) : Int)) ∧ ∃ q, w' = w.drewN q) := fun k w hk => by
    rw [hL, List.drop_drop]
    exact l7Alike_any s (A + k) 3 w hs hk (by omega) (by omega)
  have HN : Hid (L.length = s.size - A) := by show _ = _; rw [hL]; exact Pk.drop_len s A
  rw [← hL]
  clear hL
  go_enter Try.func27, Try.ntmps27
  go_wp2_with fail
  go_loopw [7] (fun i wr => ∃ k : Nat, 1 ≤ k ∧ A + k ≤ s.size ∧ i = .int .i64 (k : Int) ∧ (∀ j, 1 ≤ j → j < k → Rn.freshP L 3 m j = true) ∧ ∃ q, wr = w.drewN q) (fun i _ => s.size - (intOf i).toNat)
  case atStart => exact ⟨1, Nat.le_refl _, by omega, rfl, fun j _ hj => by omega, 0, rfl⟩
  case round =>
    obtain ⟨k, hk1, hk, rfl, hall, q, rfl⟩ := hrel
    have HA : Hid (∀ j, 1 ≤ j → j < k → Rn.freshP L 3 m j = true) := hall
    clear hall
    have HE : Hid ((Rn.freshP L 3 m k = false) → k = Rn.fresh L 3 m) := fun h => Rn.fresh_eq h hk1 HA.out (by rw [HN.out]; omega)
    obtain ⟨j, hj⟩ : ∃ j, j = A + k := ⟨_, rfl⟩
    have e1 : (A : Int) + (k : Int) = (j : Int) := by omega
    have e2 := wrap_i64_nat j (by omega)
    by_cases h2 : k < m
    · have d2 : decide ((k : Int) < (m : Int)) = true := by simp; exact h2
      by_cases h1 : j < s.size
      · have d1 : decide ((j : Int) < (s.size : Int)) = true := by simp; exact h1
        have HC : Hid (∀ w : World, Calls Try.prog 26 #[.string s, .int .i64 (j : Int), .int .i64 3] w fun e w' => e = .returned (.int .i64 ((Rn.same (L.drop k) 3 : Nat) : Int)) ∧ ∃ q, w' = w.drewN q) := fun w => by rw [hj]; exact HL.out k w (by omega)
        have HP : Hid (Rn.freshP L 3 m k = decide (Rn.same (L.drop k) 3 < 3)) := by
          show _ = _
          unfold Rn.freshP; rw [HN.out]; simp [h2]; intros; omega
        have HJ : Hid (j = A + k) := hj
        clear hj HL
        generalize Rn.same (L.drop k) 3 = z at *
        by_cases hz : z < 3
        · have d3 : decide ((z : Int) < 3) = true := by simp; omega
          go_wp2_with fail
          refine (HC.out _).mono ?_
          rintro e w1 ⟨rfl, q1, hw⟩
          clear HC
          subst hw
          go_wp2_with fail
          go_roundw
          case rel => exact ⟨k + 1, by omega, by have := HJ.out; omega, by go_num, fun j hj1 hj => (by
              by_cases e : j = k
              · rw [e, HP.out]; simp [hz]
              · exact HA.out j hj1 (by omega)), q + q1, rfl⟩
          case measure => simp [intOf]; omega
        · have d3 : decide ((z : Int) < 3) = false := by simp; omega
          have HS : Hid (k = Rn.fresh L 3 m) := HE.out (by rw [HP.out]; simp; omega)
          go_wp2_with fail
          refine (HC.out _).mono ?_
          rintro e w1 ⟨rfl, q1, hw⟩
          clear HC HE
          subst hw
          go_wp2_with fail
          go_ret
          exact ⟨by rw [← HS.out]; rfl, q + q1, rfl⟩
      · have HS : Hid (k = Rn.fresh L 3 m) := HE.out (by simp [Rn.freshP, HN.out]; omega)
        have d1 : decide ((j : Int) < (s.size : Int)) = false := by simp; omega
        clear HL HE hj
        go_wp2_with fail
        go_ret
        exact ⟨by rw [← HS.out]; rfl, q, rfl⟩
    · have HS : Hid (k = Rn.fresh L 3 m) := HE.out (by simp [Rn.freshP, h2])
      have d2 : decide ((k : Int) < (m : Int)) = false := by simp; omega
      clear HL HE hj
      go_wp2_with fail
      go_ret
      exact ⟨by rw [← HS.out]; rfl, q, rfl⟩
theorem Pk.piece_again (l : List UInt8) (A z : Nat) (hA : A < l.length) : Pk.piece l (A, z, true) = UInt8.ofNat (257 - z) :: (l.drop A).take (A + 1 - A) := by
  show [UInt8.ofNat (257 - z), l.getD A 0] = _
  rw [show A + 1 - A = 1 by omega, List.drop_eq_getElem_cons hA, List.take_succ_cons, List.take_zero, List.getD_eq_getElem?_getD, List.getElem?_eq_getElem hA]
  rfl
theorem Pk.piece_fresh (l : List UInt8) (A z : Nat) : Pk.piece l (A, z, false) = UInt8.ofNat (z - 1) :: (l.drop A).take (A + z - A) := by
  show UInt8.ofNat (z - 1) :: (l.drop A).take z = _
  rw [show A + z - A = z by omega]

set_option maxHeartbeats 4000000 in
set_option maxRecDepth 20000 in
theorem spec_packPut_yes (s : ByteArray) (w : World) (hs : s.size ≤ 5000) :
    Calls Try.prog 9 #[.string s] w fun e w' => e = .returned (.string ⟨(Pk.all s.data.toList).toArray⟩) ∧ Below w.heap.size w w' := by
  obtain ⟨l, hl⟩ : ∃ l, l = s.data.toList := ⟨_, rfl⟩
  have HLN : Hid (l.length = s.size) := by show _ = _; rw [hl]; exact bytes_len s
  have HAl : Hid (∀ (A : Nat) (w : World), A < s.size → Calls Try.prog 26 #[.string s, .int .i64 (A : Int), .int .i64 128] w fun e w' => e = .returned (.int .i64 ((Rn.same ((Pk.ints l).drop A) 128 : Nat) : Int)) ∧ ∃ q, w' = w.drewN q) := fun A w hA => by rw [hl]; exact l7Alike_any s A 128 w hs hA (by omega) (by omega)
  have HFr : Hid (∀ (A : Nat) (w : World), A < s.size → Calls Try.prog 27 #[.string s, .int .i64 (A : Int), .int .i64 128] w fun e w' => e = .returned (.int .i64 ((Rn.fresh ((Pk.ints l).drop A) 3 128 : Nat) : Int)) ∧ ∃ q, w' = w.drewN q) := fun A w hA => by rw [hl]; exact l7Fresh_any s A 128 w hs hA (by omega)
  have HX : Hid (∀ i j, s.extract i j = ⟨((l.drop i).take (j - i)).toArray⟩) := fun i j => by rw [hl]; exact Bk.extract_part s i j
  rw [← hl]
  clear hl
  have hd : decide ((s.size : Int) > 5000) = false := by simp; omega
  go_enter Try.func9, Try.ntmps9
  go_wp2_with fail
  go_loopw [3, 4] (fun o i wr => ∃ (A : Nat) (pre : List (Nat × Nat × Bool)) (q : List UInt8), A ≤ s.size ∧ i = .int .i64 (A : Int) ∧ o = .string ⟨q.toArray⟩ ∧ Hid (q = Pk.flat l pre ∧ Rn.from_ 3 128 (Pk.ints l) 0 = pre ++ Rn.from_ 3 128 (Pk.ints l) A ∧ q.length ≤ 129 * A) ∧ Below w.heap.size w wr) (fun _ i _ => s.size - (intOf i).toNat)
  case atStart => exact ⟨0, [], [], Nat.zero_le _, rfl, rfl, ⟨rfl, rfl, Nat.le_refl _⟩, Below.refl _ _⟩
  case round =>
    obtain ⟨A, pre, q, hA, rfl, rfl, HQ, hbel⟩ := hrel
    have hbs := hbel.size
    by_cases hlt : A < s.size
    · have hdl : 0 < ((Pk.ints l).drop A).length := by rw [List.length_drop, Pk.ints_len, HLN.out]; omega
      have hsz := Rn.size_ends (l := (Pk.ints l).drop A) (least := 3) (m := 128) hdl (by omega)
      have HF := Rn.from_step (least := 3) (m := 128) (l := Pk.ints l) (k := A) (by omega) (by rw [Pk.ints_len, HLN.out]; exact hlt)
      have hszd : Rn.size 3 128 ((Pk.ints l).drop A) = if 3 ≤ Rn.same ((Pk.ints l).drop A) 128 then Rn.same ((Pk.ints l).drop A) 128 else Rn.fresh ((Pk.ints l).drop A) 3 128 := rfl
      have hagd : Rn.again 3 128 ((Pk.ints l).drop A) = decide (3 ≤ Rn.same ((Pk.ints l).drop A) 128) := rfl
      rw [List.length_drop, Pk.ints_len, HLN.out] at hsz
      have HA1 : Hid (∀ w : World, Calls Try.prog 26 #[.string s, .int .i64 (A : Int), .int .i64 128] w fun e w' => e = .returned (.int .i64 ((Rn.same ((Pk.ints l).drop A) 128 : Nat) : Int)) ∧ ∃ q, w' = w.drewN q) := fun w => HAl.out A w hlt
      have HF1 : Hid (∀ w : World, Calls Try.prog 27 #[.string s, .int .i64 (A : Int), .int .i64 128] w fun e w' => e = .returned (.int .i64 ((Rn.fresh ((Pk.ints l).drop A) 3 128 : Nat) : Int)) ∧ ∃ q, w' = w.drewN q) := fun w => HFr.out A w hlt
      generalize hzs : Rn.size 3 128 ((Pk.ints l).drop A) = z at *
      generalize hza : Rn.again 3 128 ((Pk.ints l).drop A) = ag at *
      generalize Rn.same ((Pk.ints l).drop A) 128 = sm at *
      generalize Rn.fresh ((Pk.ints l).drop A) 3 128 = fr at *
      obtain ⟨hz1, hz2, hz3⟩ := hsz
      have HXp : Hid (Rn.from_ 3 128 (Pk.ints l) 0 = (pre ++ [(A, z, ag)]) ++ Rn.from_ 3 128 (Pk.ints l) (A + z)) := by
        show _ = _
        rw [HQ.out.2.1, HF]; simp
      clear HF hdl hzs hza HAl HFr
      have HPl : Hid ((Pk.piece l (A, z, ag)).length ≤ 129 * z) := by
        show _ ≤ _
        unfold Pk.piece
        split <;> simp <;> omega
      by_cases hag : 3 ≤ sm
      · rw [if_pos hag] at hszd
        subst hszd
        rw [show decide (3 ≤ z) = true by simp; exact hag] at hagd
        subst hagd
        have d3 : decide ((z : Int) ≥ 3) = true := by simp; omega
        obtain ⟨c, hc⟩ : ∃ c : Nat, c = 257 - z := ⟨_, rfl⟩
        have e1 : (257 : Int) - (z : Int) = (c : Int) := by omega
        have hcb : c < 256 := by omega
        obtain ⟨p, hp⟩ : ∃ p, p = (l.drop A).take (A + 1 - A) := ⟨_, rfl⟩
        have hex : s.extract A (A + 1) = ⟨p.toArray⟩ := by rw [HX.out, hp]
        have HN : Hid (q ++ UInt8.ofNat c :: p = Pk.flat l (pre ++ [(A, z, true)])) := by
          show _ = _
          rw [Pk.flat_snoc, ← HQ.out.1, Pk.piece_again l A z (by rw [HLN.out]; exact hlt), hp, hc]
        have HG : Hid ((q ++ UInt8.ofNat c :: p).length ≤ 129 * (A + z)) := by
          show _ ≤ _
          rw [HN.out, Pk.flat_snoc, List.length_append, ← HQ.out.1]
          have := HPl.out; have := HQ.out.2.2; omega
        have hql : q.length ≤ 645000 := by have := HQ.out.2.2; omega
        have hplb : p.length ≤ 1 := by rw [hp, List.length_take]; omega
        clear hc hp HX HQ HPl HF1
        go_wp2_with fail
        refine (HA1.out _).mono ?_
        rintro e w1 ⟨rfl, q1, hw⟩
        subst hw
        have htx : Sem.run Try.prog (convert 22 9 (.slice (some ⟨wr.heap.size, 0, none⟩) 1 1)) ((wr.drewN (q1 + 1)).alloc (.cells #[.int .u8 (c : Int)] 5)) = .ok (.string ⟨#[UInt8.ofNat c]⟩) ((wr.drewN (q1 + 1)).alloc (.cells #[.int .u8 (c : Int)] 5)) := run_text1 (wr.drewN (q1 + 1)) c wr.heap.size rfl
        clear HA1
        go_wp2_with fail
        go_region
        all_goals go_wp2_with fail
        all_goals
          go_roundw
          case rel => exact ⟨A + z, _, _, by omega, by go_num, congrArg Value.string (str_mid _ _ _), ⟨HN.out, HXp.out, HG.out⟩, (below_drewN hbel (q1 + 1)).alloc hbs _⟩
          case measure => simp [intOf]; omega
      · rw [if_neg hag] at hszd
        subst hszd
        rw [show decide (3 ≤ sm) = false by simp; omega] at hagd
        subst hagd
        have d3 : decide ((sm : Int) ≥ 3) = false := by simp; omega
        obtain ⟨c, hc⟩ : ∃ c : Nat, c = z - 1 := ⟨_, rfl⟩
        have e1 : (z : Int) - 1 = (c : Int) := by omega
        have hcb : c < 256 := by omega
        obtain ⟨T, hT⟩ : ∃ T : Nat, T = A + z := ⟨_, rfl⟩
        have e2 : (A : Int) + (z : Int) = (T : Int) := by omega
        have e3 := wrap_i64_nat T (by omega)
        obtain ⟨p, hp⟩ : ∃ p, p = (l.drop A).take (A + z - A) := ⟨_, rfl⟩
        have hex : s.extract A T = ⟨p.toArray⟩ := by rw [HX.out, hp, hT]
        have HN : Hid (q ++ UInt8.ofNat c :: p = Pk.flat l (pre ++ [(A, z, false)])) := by
          show _ = _
          rw [Pk.flat_snoc, ← HQ.out.1, Pk.piece_fresh l A z, hp, hc]
        have HG : Hid ((q ++ UInt8.ofNat c :: p).length ≤ 129 * (A + z)) := by
          show _ ≤ _
          rw [HN.out, Pk.flat_snoc, List.length_append, ← HQ.out.1]
          have := HPl.out; have := HQ.out.2.2; omega
        have hql : q.length ≤ 645000 := by have := HQ.out.2.2; omega
        have hplb : p.length ≤ 128 := by rw [hp, List.length_take]; omega
        have hTs : T ≤ s.size := by omega
        have hAT : A ≤ T := by omega
        have HT : Hid (T = A + z) := hT
        rw [← hT] at HXp HG
        clear hc hp HX HQ HPl hT
        go_wp2_with fail
        refine (HA1.out _).mono ?_
        rintro e w1 ⟨rfl, q1, hw⟩
        subst hw
        clear HA1
        go_wp2_with fail
        refine (HF1.out _).mono ?_
        rintro e w1 ⟨rfl, q2, hw⟩
        subst hw
        clear HF1
        have htx : Sem.run Try.prog (convert 22 9 (.slice (some ⟨wr.heap.size, 0, none⟩) 1 1)) ((wr.drewN (q1 + q2 + 1)).alloc (.cells #[.int .u8 (c : Int)] 5)) = .ok (.string ⟨#[UInt8.ofNat c]⟩) ((wr.drewN (q1 + q2 + 1)).alloc (.cells #[.int .u8 (c : Int)] 5)) := run_text1 (wr.drewN (q1 + q2 + 1)) c wr.heap.size rfl
        go_wp2_with fail
        go_region
        all_goals go_wp2_with fail
        all_goals
          go_roundw
          case rel => exact ⟨T, _, _, by omega, by go_num, congrArg Value.string (str_mid _ _ _), ⟨HN.out, HXp.out, HG.out⟩, (below_drewN hbel (q1 + q2 + 1)).alloc hbs _⟩
          case measure => simp [intOf]; omega
    · obtain rfl : A = s.size := by omega
      have HE : Hid (q = Pk.all l) := by
        have h := HQ.out.2.1
        rw [Rn.from_end (k := s.size) (by rw [Pk.ints_len, HLN.out]; exact Nat.le_refl _), List.append_nil] at h
        show _ = _
        unfold Pk.all
        rw [h]; exact HQ.out.1
      clear HQ HX HAl HFr
      go_wp2_with fail
      go_ret
      exact ⟨by rw [← HE.out]; rfl, hbel⟩

set_option maxHeartbeats 400000 in
theorem spec_packPut (s : ByteArray) (w : World) (hs : s.size ≤ 1048576) :
    Calls Try.prog 9 #[.string s] w fun e w' => e = .returned (.string ⟨(if s.size ≤ 5000 then Pk.all s.data.toList else []).toArray⟩) ∧ Below w.heap.size w w' := by
  by_cases h : s.size ≤ 5000
  · rw [if_pos h]; exact spec_packPut_yes s w h
  · rw [if_neg h]
    go_enter Try.func9, Try.ntmps9
    go_wp2_with fail
    go_ret
    exact ⟨rfl, Below.refl _ _⟩
end Go.Proofs.Ytmcjdilmmabiaaa
