/- RunGet of the specification. -/
import Derived.Test.YtmcjdilmmabiaaaRgTop
import Derived.Test.YtmcjdilmmabiaaaInWalks
import Derived.Test.YtmcjdilmmabiaaaAppOne
namespace Go.Proofs.Ytmcjdilmmabiaaa
open Go.RowKit

/-- how RunGet of the specification ends -/
def RgInt (w : World) (s : ByteArray) (at_ sz ct : Int) (e : Ending) (w' : World) : Prop :=
  (∃ ao cap, e = .returned (.tuple #[.slice ao (Rg.ansL s at_ sz ct).length cap, .int .i64 (Rg.ansE s at_ sz ct), .bool (Rg.ansB s at_ sz ct)]) ∧ Ints w' ao (Rg.ansL s at_ sz ct)) ∧ Below w.heap.size w w'
theorem rgInt_mk {w w' : World} {s : ByteArray} {at_ sz ct : Int} {e : Ending} (ao : Option Addr) (cap : Nat) (h1 : e = .returned (.tuple #[.slice ao (Rg.ansL s at_ sz ct).length cap, .int .i64 (Rg.ansE s at_ sz ct), .bool (Rg.ansB s at_ sz ct)])) (h2 : Ints w' ao (Rg.ansL s at_ sz ct)) (h3 : Below w.heap.size w w') : RgInt w s at_ sz ct e w' := ⟨⟨ao, cap, h1, h2⟩, h3⟩

set_option maxHeartbeats 4000000 in
set_option maxRecDepth 20000 in
theorem spec_runGet (s : ByteArray) (at_ sz ct : Int) (w : World) (hs : s.size ≤ 1048576) :
    Calls Try.prog 19 #[.string s, .int .i64 at_, .int .i64 sz, .int .i64 ct] w (RgInt w s at_ sz ct) := by
  by_cases h0 : 1 ≤ sz ∧ sz ≤ 4
  · have HI0 : Hid (∀ w : World, Calls Try.prog 34 #[.int .i64 sz, .int .i64 1, .int .i64 4] w fun e w' => e = .returned (.bool true) ∧ w' = w) := fun w => l1In_yes _ _ _ w h0.1 h0.2
    by_cases h1 : 0 ≤ ct ∧ ct ≤ 1000
    · have HI1 : Hid (∀ w : World, Calls Try.prog 34 #[.int .i64 ct, .int .i64 0, .int .i64 1000] w fun e w' => e = .returned (.bool true) ∧ w' = w) := fun w => l1In_yes _ _ _ w h1.1 h1.2
      by_cases h2 : (s.size : Int) > 9000
      · have d2 : decide ((s.size : Int) > 9000) = true := decide_eq_true h2
        have hbad : ¬ Rg.Valid s at_ sz ct := fun h => by unfold Rg.Valid at h; omega
        have HF : Hid (Rg.ansL s at_ sz ct = [] ∧ Rg.ansE s at_ sz ct = 0 ∧ Rg.ansB s at_ sz ct = false) := Rg.res_bad hbad
        clear hbad
        go_enter Try.func19, Try.ntmps19
        go_wp2_with fail
        refine (HI0.out _).mono ?_
        rintro e v0 ⟨rfl, hv0⟩
        replace hv0 := hv0.symm
        subst hv0
        go_wp2_with fail
        refine (HI1.out _).mono ?_
        rintro e v1 ⟨rfl, hv1⟩
        replace hv1 := hv1.symm
        subst hv1
        go_wp2_with fail
        refine bodyPost_ret (v := .tuple #[.slice (some ⟨w.heap.size, 0, none⟩) 0 0, .int .i64 0, .bool false]) (by simp [results, Try.results19, go_sem]) rfl (rgInt_mk _ 0 (by rw [HF.out.1, HF.out.2.1, HF.out.2.2]; rfl) (.inl HF.out.1) ?_)
        exact (Below.refl _ _).alloc (Nat.le_refl _) _
      · have d2 : decide ((s.size : Int) > 9000) = false := decide_eq_false h2
        by_cases h3 : 0 ≤ at_ ∧ at_ ≤ (s.size : Int)
        · have HI3 : Hid (∀ w : World, Calls Try.prog 34 #[.int .i64 at_, .int .i64 0, .int .i64 (s.size : Int)] w fun e w' => e = .returned (.bool true) ∧ w' = w) := fun w => l1In_yes _ _ _ w h3.1 h3.2
          obtain ⟨S, rfl⟩ := Int.eq_ofNat_of_zero_le (show 0 ≤ sz by omega)
          obtain ⟨N, rfl⟩ := Int.eq_ofNat_of_zero_le (show 0 ≤ ct by omega)
          obtain ⟨A0, rfl⟩ := Int.eq_ofNat_of_zero_le (show 0 ≤ at_ by omega)
          have hval : Rg.Valid s A0 S N := by unfold Rg.Valid; omega
          have hres := Rg.res_ok hval
          rw [Int.toNat_natCast, Int.toNat_natCast, Int.toNat_natCast] at hres
          have HRES : Hid (Rg.res s A0 S N = Rg.get s S A0 N) := hres
          clear hval hres
          have hS4 : S ≤ 4 := by omega
          have hN : N ≤ 1000 := by omega
          have hA : A0 ≤ s.size := by omega
          have hs9 : s.size ≤ 9000 := by omega
          have HE := ownI_none w
          go_enter Try.func19, Try.ntmps19
          go_wp2_with fail
          refine (HI0.out _).mono ?_
          rintro e v0 ⟨rfl, hv0⟩
          replace hv0 := hv0.symm
          subst hv0
          go_wp2_with fail
          refine (HI1.out _).mono ?_
          rintro e v1 ⟨rfl, hv1⟩
          replace hv1 := hv1.symm
          subst hv1
          go_wp2_with fail
          refine (HI3.out _).mono ?_
          rintro e v3 ⟨rfl, hv3⟩
          replace hv3 := hv3.symm
          subst hv3
          go_wp2_with fail
          clear HI0 HI1 HI3 h0 h1 h2 h3 d2
          go_loopw [1, 11] (fun a v wr => ∃ (l : List Int) (n A : Nat), A ≤ s.size ∧ a = .int .i64 (A : Int) ∧ Rg.Reach s S A0 N l A n ∧ OwnI wr w.heap.size v l.length l ∧ A ≤ s.size ∧ Below w.heap.size w wr) (fun _ v _ => N - sliceLen (some v))
          case atStart => exact ⟨[], N, A0, hA, rfl, Rg.reach_start s S A0 N, HE, hA, (Below.refl _ _).alloc (Nat.le_refl _) _⟩
          case round =>
            obtain ⟨l, n, A, hAs, rfl, hR, hOw, _, hbel⟩ := hrel
            clear HE
            have hl : l.length + n = N := hR.1
            have HR : Hid (Rg.Reach s S A0 N l A n) := hR
            obtain ⟨ao, cap, rfl, _⟩ := hOw.owns
            obtain ⟨n0, hn0'⟩ : ∃ n0, n0 = l.length := ⟨_, rfl⟩
            rw [← hn0'] at hOw hl
            rw [← hn0']
            have HOw : Hid (OwnI wr w.heap.size (.slice ao n0 cap) n0 l) := hOw
            have HL0 : Hid (n0 = l.length) := hn0'
            clear hR hOw hn0'
            by_cases hlt : n0 < N
            · have hn0 : 0 < n := by omega
              have hli : (n0 : Int) < (N : Int) := by omega
              by_cases hlA : A < s.size
              · have hai : ¬ (s.size : Int) ≤ (A : Int) := by omega
                have hat : (A : Int) < (s.size : Int) := by omega
                have hby := byteAt_eq s A hlA
                have hH256 := byteAt_lt s A
                obtain ⟨H, hH⟩ : ∃ H, H = byteAt s A := ⟨_, rfl⟩
                rw [← hH] at hby hH256
                have hbi : ((s[A]'hlA).toNat : Int) = (H : Int) := by rw [hby]
                clear hby
                by_cases hag : 128 ≤ H
                · obtain ⟨C, hC⟩ : ∃ C : Nat, C = H - 127 := ⟨_, rfl⟩
                  obtain ⟨nd, hnd⟩ : ∃ nd : Nat, nd = S := ⟨_, rfl⟩
                  have hcnt : Rg.cnt H = C := by unfold Rg.cnt; rw [if_pos hag, hC]
                  have hneed : Rg.need S H = nd := by unfold Rg.need; rw [if_pos hag, hnd]
                  have hoff : ∀ i, Rg.off S H i = 0 := fun i => by unfold Rg.off; rw [if_pos hag]
                  have eC : (H : Int) % 128 + 1 = (C : Int) := by omega
                  have hgi : (128 : Int) ≤ (H : Int) := by omega
                  obtain ⟨M, hM⟩ : ∃ M : Nat, M = C * S := ⟨_, rfl⟩
                  have hMb : M ≤ 512 := by rw [hM]; calc C * S ≤ 128 * 4 := Nat.mul_le_mul (by omega) hS4
                                                    _ = 512 := rfl
                  have eM : (C : Int) * (S : Int) = (M : Int) := by rw [hM]; simp
                  skip
                  skip
                  have hndb : nd ≤ 512 := by omega
                  clear hM
                  obtain ⟨A1, hA1⟩ : ∃ A1, A1 = A + 1 := ⟨_, rfl⟩
                  have eA : (A : Int) + 1 = (A1 : Int) := by omega
                  by_cases ht : Rg.There s S A n
                  · have hle1 : ¬ (s.size : Int) < (A1 : Int) + (S : Int) := by have := ht.2.2; rw [← hH, hneed] at this; omega
                    have hle2 : ¬ (N : Int) < (n0 : Int) + (C : Int) := by have := ht.2.1; rw [← hH, hcnt] at this; omega
                    have hC0 : 1 ≤ C ∧ C ≤ n := ⟨by omega, by have := ht.2.1; rw [← hH, hcnt] at this; exact this⟩
                    have HTH : Hid (Rg.There s S A n) := ht
                    have HNX : Hid (Rg.Reach s S A0 N (l ++ Rg.nums s S A) (A1 + nd) (n - C) ∧ A1 + nd ≤ s.size) := by
                      have h1 := HR.out.step hn0 ht
                      have h2 := ht.2.2
                      rw [← hH, hcnt, hneed, ← hA1] at h1
                      rw [← hH, hneed, ← hA1] at h2
                      exact ⟨h1, h2⟩
                    have hzl : (Rg.nums s S A).length = C := by rw [Rg.nums_len, ← hH, hcnt]
                    have HZ : Hid (∀ i, i < C → (Rg.nums s S A).take (i + 1) = (Rg.nums s S A).take i ++ [Rg.num s S (A1 + 0)]) := fun i hi => by
                      rw [List.take_succ_eq_append_getElem (by rw [hzl]; exact hi), Rg.nums_at, ← hH, hoff, hA1]
                    have HZ2 : Hid ((Rg.nums s S A).take C = Rg.nums s S A) := by show _ = _; rw [List.take_of_length_le (by rw [hzl]; exact Nat.le_refl _)]
                    have hsum : A1 + S ≤ s.size := by have := HNX.out.2; omega
                    generalize Rg.nums s S A = zs at *
                    have hndS : nd = S := hnd
                    have HND : Hid (nd = S) := hndS
                    clear ht hzl hcnt hneed hoff hH hC hA1 hnd hndS
                    go_wp2_with fail
                    generalize hgw : wr = ow at *
                    clear hgw
                    go_loopw [11, 15] (fun v i wr => ∃ (k : Nat) (q : List Int), k ≤ C ∧ i = .int .i64 (k : Int) ∧ Hid (q = l ++ zs.take k) ∧ OwnI wr w.heap.size v (n0 + k) q ∧ Below w.heap.size w wr) (fun _ i _ => C - (intOf i).toNat)
                    case atStart => exact ⟨0, l, Nat.zero_le _, rfl, by show _ = _; rw [List.take_zero, List.append_nil], HOw.out, hbel⟩
                    case round =>
                      obtain ⟨k, q, hk, rfl, HQq, hown, hbel2⟩ := hrel
                      clear hbel HOw
                      by_cases hkC : k < C
                      · have hki : (k : Int) < (C : Int) := by omega
                        obtain ⟨P, hP⟩ : ∃ P, P = A1 + 0 := ⟨_, rfl⟩
                        have hPS : P + S ≤ s.size := by
                          omega
                        have eP : (A1 : Int) = (P : Int) := by omega
                        skip
                        skip
                        skip
                        have hz : Rg.num s S P = Rg.num s S (A1 + 0) := by rw [hP]
                        have HT : Hid (q ++ [Rg.num s S P] = l ++ zs.take (k + 1)) := by show _ = _; rw [HZ.out k hkC, hz, ← List.append_assoc, ← HQq.out]
                        have HFd : Hid (∀ w : World, Calls Try.prog 43 #[.string s, .int .i64 (P : Int), .int .i64 (S : Int), .bool false] w fun e w' => e = .returned (.int .i64 (Rg.num s S P)) ∧ w' = w) := fun w => l1Field_low s P S w hPS hs9 hS4
                        have HFd2 : Hid (∀ w : World, Calls Try.prog 43 #[.string s, .int .i64 (A1 : Int), .int .i64 (S : Int), .bool false] w fun e w2 => e = .returned (.int .i64 (Rg.num s S P)) ∧ w2 = w) := fun w => by rw [eP]; exact HFd.out w
                        generalize Rg.num s S P = z at *
                        clear hz hP eP HFd
                        go_wp2_with fail
                        refine (HFd2.out _).mono ?_
                        rintro e w3 ⟨rfl, hw3⟩
                        replace hw3 := hw3.symm
                        subst hw3
                        go_wp2_with (at_builtin; refine wpList_app1 wr (by rfl) _ _ (by rfl) w.heap.size _ (n0 + k) q z (by rfl) hown (by rfl) (by omega) hbel2.size ?_)
                        intro g cap w4 hown4 hgr
                        have hb4 : Below w.heap.size w w4 := hgr.below hbel2 (Nat.le_refl _) hbel2.size
                        have HO4 : Hid (OwnI w4 w.heap.size (.slice (some ⟨g, 0, none⟩) (n0 + (k + 1)) cap) (n0 + (k + 1)) (q ++ [z])) := hown4
                        clear hown hown4 hgr hbel2 HQq
                        go_wp2_with fail
                        go_roundw
                        case rel => exact ⟨k + 1, q ++ [z], by omega, by go_num, HT, HO4.out, hb4⟩
                        case measure => simp [intOf]; omega
                      · obtain rfl : k = C := by omega
                        have HO5 : Hid (OwnI wr w.heap.size u11 (n0 + k) q) := hown
                        have HQ5 : Hid (q = l ++ zs) := by show _ = _; rw [HQq.out, HZ2.out]
                        obtain ⟨a5, c5, e5, _⟩ := hown.owns
                        subst e5
                        clear hown HZ HZ2 HQq
                        obtain ⟨E, hE⟩ : ∃ E, E = A1 + nd := ⟨_, rfl⟩
                        have eE : (A1 : Int) + (S : Int) = (E : Int) := by have := HND.out; omega
                        rw [← hE] at HNX
                        clear hE HND
                        go_wp2_with fail
                        exact ⟨⟨l ++ zs, n - k, E, HNX.out.2, rfl, HNX.out.1, by have := HO5.out.len; rw [← HQ5.out, this]; exact HO5.out, HNX.out.2, hbel2⟩, by simp only [sliceLen]; omega⟩
                  · have HN : Hid (Rg.ansL s A0 S N = [] ∧ Rg.ansE s A0 S N = 0 ∧ Rg.ansB s A0 S N = false) := Rg.ans_none (by rw [HRES.out]; exact HR.out.stuck hn0 ht)
                    by_cases hle1 : s.size < A1 + nd
                    · have hl1 : (s.size : Int) < (A1 : Int) + (S : Int) := by omega
                      clear ht hcnt hneed hoff hH hC hA1 hnd HOw
                      go_wp2_with fail
                      refine bodyPost_ret (v := .tuple #[.slice (some ⟨wr.heap.size, 0, none⟩) 0 0, .int .i64 0, .bool false]) (by simp [results, Try.results19, go_sem]) rfl (rgInt_mk _ 0 (by rw [HN.out.1, HN.out.2.1, HN.out.2.2]; rfl) (.inl HN.out.1) ?_)
                      exact hbel.alloc hbel.size _
                    · have hl1 : ¬ (s.size : Int) < (A1 : Int) + (S : Int) := by omega
                      have hl2 : (N : Int) < (n0 : Int) + (C : Int) := by
                        have h2 : ¬ C ≤ n := fun h => ht ⟨hlA, by rw [← hH, hcnt]; exact h, by rw [← hH, hneed, ← hA1]; omega⟩
                        omega
                      clear ht hcnt hneed hoff hH hC hA1 hnd HOw
                      go_wp2_with fail
                      refine bodyPost_ret (v := .tuple #[.slice (some ⟨wr.heap.size, 0, none⟩) 0 0, .int .i64 0, .bool false]) (by simp [results, Try.results19, go_sem]) rfl (rgInt_mk _ 0 (by rw [HN.out.1, HN.out.2.1, HN.out.2.2]; rfl) (.inl HN.out.1) ?_)
                      exact hbel.alloc hbel.size _
                · obtain ⟨C, hC⟩ : ∃ C : Nat, C = H + 1 := ⟨_, rfl⟩
                  obtain ⟨nd, hnd⟩ : ∃ nd : Nat, nd = C * S := ⟨_, rfl⟩
                  have hcnt : Rg.cnt H = C := by unfold Rg.cnt; rw [if_neg hag, hC]
                  have hneed : Rg.need S H = nd := by unfold Rg.need; rw [if_neg hag, hnd, hC]
                  have hoff : ∀ i, Rg.off S H i = i * S := fun i => by unfold Rg.off; rw [if_neg hag]
                  have eC : (H : Int) % 128 + 1 = (C : Int) := by omega
                  have hgi : ¬ (128 : Int) ≤ (H : Int) := by omega
                  obtain ⟨M, hM⟩ : ∃ M : Nat, M = C * S := ⟨_, rfl⟩
                  have hMb : M ≤ 512 := by rw [hM]; calc C * S ≤ 128 * 4 := Nat.mul_le_mul (by omega) hS4
                                                    _ = 512 := rfl
                  have eM : (C : Int) * (S : Int) = (M : Int) := by rw [hM]; simp
                  have hMn : M = nd := by rw [hM, hnd]
                  rw [hMn] at eM
                  have hndb : nd ≤ 512 := by omega
                  clear hM hMn
                  obtain ⟨A1, hA1⟩ : ∃ A1, A1 = A + 1 := ⟨_, rfl⟩
                  have eA : (A : Int) + 1 = (A1 : Int) := by omega
                  by_cases ht : Rg.There s S A n
                  · have hle1 : ¬ (s.size : Int) < (A1 : Int) + (nd : Int) := by have := ht.2.2; rw [← hH, hneed] at this; omega
                    have hle2 : ¬ (N : Int) < (n0 : Int) + (C : Int) := by have := ht.2.1; rw [← hH, hcnt] at this; omega
                    have hC0 : 1 ≤ C ∧ C ≤ n := ⟨by omega, by have := ht.2.1; rw [← hH, hcnt] at this; exact this⟩
                    have HTH : Hid (Rg.There s S A n) := ht
                    have HNX : Hid (Rg.Reach s S A0 N (l ++ Rg.nums s S A) (A1 + nd) (n - C) ∧ A1 + nd ≤ s.size) := by
                      have h1 := HR.out.step hn0 ht
                      have h2 := ht.2.2
                      rw [← hH, hcnt, hneed, ← hA1] at h1
                      rw [← hH, hneed, ← hA1] at h2
                      exact ⟨h1, h2⟩
                    have hzl : (Rg.nums s S A).length = C := by rw [Rg.nums_len, ← hH, hcnt]
                    have HZ : Hid (∀ i, i < C → (Rg.nums s S A).take (i + 1) = (Rg.nums s S A).take i ++ [Rg.num s S (A1 + i * S)]) := fun i hi => by
                      rw [List.take_succ_eq_append_getElem (by rw [hzl]; exact hi), Rg.nums_at, ← hH, hoff, hA1]
                    have HZ2 : Hid ((Rg.nums s S A).take C = Rg.nums s S A) := by show _ = _; rw [List.take_of_length_le (by rw [hzl]; exact Nat.le_refl _)]
                    have hsum : A1 + C * S ≤ s.size := by have := HNX.out.2; rw [hnd] at this; exact this
                    generalize Rg.nums s S A = zs at *
                    have hndS : True := trivial
                    have HND : Hid (True) := hndS
                    clear ht hzl hcnt hneed hoff hH hC hA1 hnd hndS
                    go_wp2_with fail
                    generalize hgw : wr = ow at *
                    clear hgw
                    go_loopw [11, 15] (fun v i wr => ∃ (k : Nat) (q : List Int), k ≤ C ∧ i = .int .i64 (k : Int) ∧ Hid (q = l ++ zs.take k) ∧ OwnI wr w.heap.size v (n0 + k) q ∧ Below w.heap.size w wr) (fun _ i _ => C - (intOf i).toNat)
                    case atStart => exact ⟨0, l, Nat.zero_le _, rfl, by show _ = _; rw [List.take_zero, List.append_nil], HOw.out, hbel⟩
                    case round =>
                      obtain ⟨k, q, hk, rfl, HQq, hown, hbel2⟩ := hrel
                      clear hbel HOw
                      by_cases hkC : k < C
                      · have hki : (k : Int) < (C : Int) := by omega
                        obtain ⟨P, hP⟩ : ∃ P, P = A1 + k * S := ⟨_, rfl⟩
                        have hPS : P + S ≤ s.size := by
                          have := Nat.mul_le_mul_right S (show k + 1 ≤ C by omega); rw [Nat.add_mul, Nat.one_mul] at this; omega
                        obtain ⟨Q, hQ⟩ : ∃ Q, Q = k * S := ⟨_, rfl⟩
                        have eQ : (k : Int) * (S : Int) = (Q : Int) := by rw [hQ]; simp
                        have eP : (A1 : Int) + (Q : Int) = (P : Int) := by rw [hP, ← hQ]; simp
                        have hQb : Q ≤ 9000 := by omega
                        have hz : Rg.num s S P = Rg.num s S (A1 + k * S) := by rw [hP]
                        have HT : Hid (q ++ [Rg.num s S P] = l ++ zs.take (k + 1)) := by show _ = _; rw [HZ.out k hkC, hz, ← List.append_assoc, ← HQq.out]
                        have HFd : Hid (∀ w : World, Calls Try.prog 43 #[.string s, .int .i64 (P : Int), .int .i64 (S : Int), .bool false] w fun e w' => e = .returned (.int .i64 (Rg.num s S P)) ∧ w' = w) := fun w => l1Field_low s P S w hPS hs9 hS4
                        skip
                        generalize Rg.num s S P = z at *
                        clear hz hP hQ hPS
                        go_wp2_with fail
                        refine (HFd.out _).mono ?_
                        rintro e w3 ⟨rfl, hw3⟩
                        replace hw3 := hw3.symm
                        subst hw3
                        go_wp2_with (at_builtin; refine wpList_app1 wr (by rfl) _ _ (by rfl) w.heap.size _ (n0 + k) q z (by rfl) hown (by rfl) (by omega) hbel2.size ?_)
                        intro g cap w4 hown4 hgr
                        have hb4 : Below w.heap.size w w4 := hgr.below hbel2 (Nat.le_refl _) hbel2.size
                        have HO4 : Hid (OwnI w4 w.heap.size (.slice (some ⟨g, 0, none⟩) (n0 + (k + 1)) cap) (n0 + (k + 1)) (q ++ [z])) := hown4
                        clear hown hown4 hgr hbel2 HQq
                        go_wp2_with fail
                        go_roundw
                        case rel => exact ⟨k + 1, q ++ [z], by omega, by go_num, HT, HO4.out, hb4⟩
                        case measure => simp [intOf]; omega
                      · obtain rfl : k = C := by omega
                        have HO5 : Hid (OwnI wr w.heap.size u11 (n0 + k) q) := hown
                        have HQ5 : Hid (q = l ++ zs) := by show _ = _; rw [HQq.out, HZ2.out]
                        obtain ⟨a5, c5, e5, _⟩ := hown.owns
                        subst e5
                        clear hown HZ HZ2 HQq
                        obtain ⟨E, hE⟩ : ∃ E, E = A1 + nd := ⟨_, rfl⟩
                        have eE : (A1 : Int) + (nd : Int) = (E : Int) := by have := HND.out; omega
                        rw [← hE] at HNX
                        clear hE HND
                        go_wp2_with fail
                        exact ⟨⟨l ++ zs, n - k, E, HNX.out.2, rfl, HNX.out.1, by have := HO5.out.len; rw [← HQ5.out, this]; exact HO5.out, HNX.out.2, hbel2⟩, by simp only [sliceLen]; omega⟩
                  · have HN : Hid (Rg.ansL s A0 S N = [] ∧ Rg.ansE s A0 S N = 0 ∧ Rg.ansB s A0 S N = false) := Rg.ans_none (by rw [HRES.out]; exact HR.out.stuck hn0 ht)
                    by_cases hle1 : s.size < A1 + nd
                    · have hl1 : (s.size : Int) < (A1 : Int) + (nd : Int) := by omega
                      clear ht hcnt hneed hoff hH hC hA1 hnd HOw
                      go_wp2_with fail
                      refine bodyPost_ret (v := .tuple #[.slice (some ⟨wr.heap.size, 0, none⟩) 0 0, .int .i64 0, .bool false]) (by simp [results, Try.results19, go_sem]) rfl (rgInt_mk _ 0 (by rw [HN.out.1, HN.out.2.1, HN.out.2.2]; rfl) (.inl HN.out.1) ?_)
                      exact hbel.alloc hbel.size _
                    · have hl1 : ¬ (s.size : Int) < (A1 : Int) + (nd : Int) := by omega
                      have hl2 : (N : Int) < (n0 : Int) + (C : Int) := by
                        have h2 : ¬ C ≤ n := fun h => ht ⟨hlA, by rw [← hH, hcnt]; exact h, by rw [← hH, hneed, ← hA1]; omega⟩
                        omega
                      clear ht hcnt hneed hoff hH hC hA1 hnd HOw
                      go_wp2_with fail
                      refine bodyPost_ret (v := .tuple #[.slice (some ⟨wr.heap.size, 0, none⟩) 0 0, .int .i64 0, .bool false]) (by simp [results, Try.results19, go_sem]) rfl (rgInt_mk _ 0 (by rw [HN.out.1, HN.out.2.1, HN.out.2.2]; rfl) (.inl HN.out.1) ?_)
                      exact hbel.alloc hbel.size _
              · have hai : (s.size : Int) ≤ (A : Int) := by omega
                have HN : Hid (Rg.ansL s A0 S N = [] ∧ Rg.ansE s A0 S N = 0 ∧ Rg.ansB s A0 S N = false) := Rg.ans_none (by rw [HRES.out]; exact HR.out.stuck hn0 (fun h => hlA h.1))
                clear HOw
                go_wp2_with fail
                refine bodyPost_ret (v := .tuple #[.slice (some ⟨wr.heap.size, 0, none⟩) 0 0, .int .i64 0, .bool false]) (by simp [results, Try.results19, go_sem]) rfl (rgInt_mk _ 0 (by rw [HN.out.1, HN.out.2.1, HN.out.2.2]; rfl) (.inl HN.out.1) ?_)
                exact hbel.alloc hbel.size _
            · have hli : ¬ (n0 : Int) < (N : Int) := by omega
              obtain rfl : n = 0 := by omega
              have HANS : Hid (Rg.ansL s A0 S N = l ∧ Rg.ansE s A0 S N = (A : Int) ∧ Rg.ansB s A0 S N = true) := Rg.ans_some (by rw [HRES.out]; exact HR.out.done)
              have HII : Hid (Ints wr ao l) := by
                obtain ⟨a2, c2, e, h⟩ := HOw.out.owns
                cases e
                exact h.ints
              clear HOw
              go_wp2_with fail
              refine bodyPost_ret (v := .tuple #[.slice ao n0 cap, .int .i64 (A : Int), .bool true]) (by simp [results, Try.results19, go_sem]) rfl (rgInt_mk ao cap (by rw [HANS.out.1, HANS.out.2.1, HANS.out.2.2, HL0.out]) (by rw [HANS.out.1]; exact HII.out) hbel)
        · have HI3 : Hid (∀ w : World, Calls Try.prog 34 #[.int .i64 at_, .int .i64 0, .int .i64 (s.size : Int)] w fun e w' => e = .returned (.bool false) ∧ w' = w) := fun w => l1In_no _ _ _ w h3
          have hbad : ¬ Rg.Valid s at_ sz ct := fun h => by unfold Rg.Valid at h; omega
          have HF : Hid (Rg.ansL s at_ sz ct = [] ∧ Rg.ansE s at_ sz ct = 0 ∧ Rg.ansB s at_ sz ct = false) := Rg.res_bad hbad
          clear hbad
          go_enter Try.func19, Try.ntmps19
          go_wp2_with fail
          refine (HI0.out _).mono ?_
          rintro e v0 ⟨rfl, hv0⟩
          replace hv0 := hv0.symm
          subst hv0
          go_wp2_with fail
          refine (HI1.out _).mono ?_
          rintro e v1 ⟨rfl, hv1⟩
          replace hv1 := hv1.symm
          subst hv1
          go_wp2_with fail
          refine (HI3.out _).mono ?_
          rintro e v3 ⟨rfl, hv3⟩
          replace hv3 := hv3.symm
          subst hv3
          go_wp2_with fail
          refine bodyPost_ret (v := .tuple #[.slice (some ⟨w.heap.size, 0, none⟩) 0 0, .int .i64 0, .bool false]) (by simp [results, Try.results19, go_sem]) rfl (rgInt_mk _ 0 (by rw [HF.out.1, HF.out.2.1, HF.out.2.2]; rfl) (.inl HF.out.1) ?_)
          exact (Below.refl _ _).alloc (Nat.le_refl _) _
    · have HI1 : Hid (∀ w : World, Calls Try.prog 34 #[.int .i64 ct, .int .i64 0, .int .i64 1000] w fun e w' => e = .returned (.bool false) ∧ w' = w) := fun w => l1In_no _ _ _ w h1
      have hbad : ¬ Rg.Valid s at_ sz ct := fun h => by unfold Rg.Valid at h; omega
      have HF : Hid (Rg.ansL s at_ sz ct = [] ∧ Rg.ansE s at_ sz ct = 0 ∧ Rg.ansB s at_ sz ct = false) := Rg.res_bad hbad
      clear hbad
      go_enter Try.func19, Try.ntmps19
      go_wp2_with fail
      refine (HI0.out _).mono ?_
      rintro e v0 ⟨rfl, hv0⟩
      replace hv0 := hv0.symm
      subst hv0
      go_wp2_with fail
      refine (HI1.out _).mono ?_
      rintro e v1 ⟨rfl, hv1⟩
      replace hv1 := hv1.symm
      subst hv1
      go_wp2_with fail
      refine bodyPost_ret (v := .tuple #[.slice (some ⟨w.heap.size, 0, none⟩) 0 0, .int .i64 0, .bool false]) (by simp [results, Try.results19, go_sem]) rfl (rgInt_mk _ 0 (by rw [HF.out.1, HF.out.2.1, HF.out.2.2]; rfl) (.inl HF.out.1) ?_)
      exact (Below.refl _ _).alloc (Nat.le_refl _) _
  · have HI0 : Hid (∀ w : World, Calls Try.prog 34 #[.int .i64 sz, .int .i64 1, .int .i64 4] w fun e w' => e = .returned (.bool false) ∧ w' = w) := fun w => l1In_no _ _ _ w h0
    have hbad : ¬ Rg.Valid s at_ sz ct := fun h => by unfold Rg.Valid at h; omega
    have HF : Hid (Rg.ansL s at_ sz ct = [] ∧ Rg.ansE s at_ sz ct = 0 ∧ Rg.ansB s at_ sz ct = false) := Rg.res_bad hbad
    clear hbad
    go_enter Try.func19, Try.ntmps19
    go_wp2_with fail
    refine (HI0.out _).mono ?_
    rintro e v0 ⟨rfl, hv0⟩
    replace hv0 := hv0.symm
    subst hv0
    go_wp2_with fail
    refine bodyPost_ret (v := .tuple #[.slice (some ⟨w.heap.size, 0, none⟩) 0 0, .int .i64 0, .bool false]) (by simp [results, Try.results19, go_sem]) rfl (rgInt_mk _ 0 (by rw [HF.out.1, HF.out.2.1, HF.out.2.2]; rfl) (.inl HF.out.1) ?_)
    exact (Below.refl _ _).alloc (Nat.le_refl _) _
end Go.Proofs.Ytmcjdilmmabiaaa
