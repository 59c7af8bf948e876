/- The law on the numbers of a code: no symbol's number begins another one's. -/
import Derived.Test.YtjdilanmkgodnaaDrawLen
import Derived.Test.YtjdilanmkgodnaaMakeWalks
import Derived.Test.YtjdilanmkgodnaaMakeSpec
import Derived.Test.YtjdilanmkgodnaaMkForm
import Derived.Test.YtjdilanmkgodnaaCpMath
import Derived.Test.YtjdilanmkgodnaaWiInts
import Derived.Test.YtjdilanmkgodnaaRowCode
import Derived.Deep.QuietTactic
import Derived.BigQuiet
namespace Go.Proofs.Ytjdilanmkgodnaa
open Go.RowKit

set_option maxHeartbeats 1000000 in
theorem wiPow_any (n : Nat) (w : World) (hn : n ≤ 20) :
    Calls Try.prog 15 #[.int .i64 (n : Int)] w fun e w' => e = .returned (.int .i64 ((2 ^ n : Nat) : Int)) ∧ w' = w := by
  go_enter Try.func15, Try.ntmps15
  go_wp2_with fail
  go_loop [3, 4] (fun x i => ∃ k y : Nat, k ≤ n ∧ i = .int .i64 (k : Int) ∧ Hid (y = 2 ^ k) ∧ y ≤ 1048576 ∧ x = .int .i64 (y : Int)) (fun _ i => n - (intOf i).toNat)
  case atStart => exact ⟨0, 1, Nat.zero_le _, rfl, rfl, by omega, rfl⟩
  case round =>
    obtain ⟨k, y, hk, rfl, HY, hy, rfl⟩ := hrel
    by_cases hlt : k < n
    · have hki : (k : Int) < (n : Int) := by omega
      have hk60 : (k : Int) < 60 := by omega
      have hk60d : decide ((k : Int) < 60) = true := by simp; omega
      have HY2 : Hid (y * 2 = 2 ^ (k + 1)) := by show _ = _; rw [Nat.pow_succ, HY.out]
      have hb : y * 2 ≤ 1048576 := by
        rw [HY2.out]
        exact Nat.le_trans (Nat.pow_le_pow_right (by omega) (show k + 1 ≤ 20 by omega)) (by decide)
      go_wp2_with fail
      go_round
      case rel => exact ⟨k + 1, y * 2, by omega, by go_num, HY2, hb, by go_num⟩
      case measure => simp [intOf]; omega
    · have hki : ¬ (k : Int) < (n : Int) := by omega
      obtain rfl : k = n := by omega
      have hkd : decide ((k : Int) < (k : Int)) = false := by simp
      go_wp2_with fail
      go_ret
      exact ⟨by rw [HY.out]; rfl, rfl⟩
set_option maxHeartbeats 400000 in
theorem wiIn_yes (n lo hi : Int) (w : World) (h1 : lo ≤ n) (h2 : n ≤ hi) :
    Calls Try.prog 14 #[.int .i64 n, .int .i64 lo, .int .i64 hi] w fun e w' => e = .returned (.bool true) ∧ w' = w := by
  have hd : decide (n ≤ hi) = true := by simp; omega
  have hd2 : decide (n ≥ lo) = true := by simp; omega
  go_enter Try.func14, Try.ntmps14
  go_wp2_with fail
  go_ret
  exact ⟨rfl, rfl⟩

/-- lengths, drawn of a code -/
def LensOut (w : World) (e : Ending) (w' : World) : Prop := (∃ (a : Option Addr) (n c : Nat) (l : List Int), e = .returned (.slice a n c) ∧ Ints w' a l ∧ l.length = n ∧ n ≤ 300 ∧ n ≤ c) ∧ Below w.heap.size w w'
set_option maxHeartbeats 1000000 in
theorem drawCodeMake_any (a : Option Addr) (len cap : Nat) (w : World) (h : Code8 w a len cap) :
    Calls Try.prog 8 #[.slice a len cap] w (LensOut w) := by
  have HOP : Hid (Calls Try.prog 32 #[.slice a len cap] w fun e w' => e = .returned (.pointer (some ⟨w.heap.size, 0, none⟩)) ∧ RdAt w' w.heap.size 0 ∧ Below w.heap.size w w') := open_any a len cap w h
  clear h
  go_enter Try.func8, Try.ntmps8
  go_wp2_with fail
  refine HOP.out.mono ?_
  rintro e w1 ⟨rfl, hR1, b1⟩
  clear HOP
  have HLN : Hid (Calls Try.prog 31 #[.pointer (some ⟨w.heap.size, 0, none⟩)] w1 (LenDrawn w.heap.size 0 w1)) := l14Lengths_any w.heap.size 0 w1 hR1 (by omega)
  have HB1 : Hid (Below w.heap.size w w1) := b1
  clear hR1 b1
  go_wp2_with fail
  refine HLN.out.mono ?_
  rintro e w2 ⟨⟨a2, n, c, l, rfl, hI, hl, hn, hc⟩, -, hO⟩
  have HF : Hid (LensOut w (.returned (.slice a2 n c)) w2) := ⟨⟨a2, n, c, l, rfl, hI, hl, hn, hc⟩, HB1.out.trans hO.below⟩
  clear hI hl hO HLN HB1
  go_wp2_with fail
  go_ret
  exact HF.out

theorem ints_cell {w : World} {a : Option Addr} {zs : List Int} (h : Ints w a zs) {k : Nat} (hk : k < zs.length) : ∃ b off, a = some ⟨b, off, none⟩ ∧ ∀ m j (_ : j < zs.length), (w.drewN m).cell? ⟨b, off + j, none⟩ = some (.int .i64 (zs.getD j 0)) := by
  rcases h with e | ⟨b, off, rfl, _, hc⟩
  · rw [e] at hk; simp at hk
  · exact ⟨b, off, rfl, fun m j hj => by
      show w.cell? _ = _
      rw [hc j hj, List.getD_eq_getElem?_getD, List.getElem?_eq_getElem hj]; rfl⟩

set_option maxHeartbeats 4000000 in
set_option maxRecDepth 20000 in
theorem lawCodeMake (a : Option Addr) (len cap : Nat) (w : World) (h : Code8 w a len cap) :
    Calls Try.prog 3 #[.slice a len cap] w fun e w' => e = .returned (.bool true) ∧ Below w.heap.size w w' := by
  by_cases hbig : 1048576 < len
  · have hbi : (1048576 : Int) < (len : Int) := by omega
    clear h
    go_enter Try.func3, Try.ntmps3
    go_wp2_with fail
    go_ret
    exact ⟨rfl, Below.refl _ _⟩
  have hbi : ¬ (1048576 : Int) < (len : Int) := by omega
  have HDR : Hid (Calls Try.prog 8 #[.slice a len cap] w (LensOut w)) := drawCodeMake_any a len cap w h
  clear h
  go_enter Try.func3, Try.ntmps3
  go_wp2_with fail
  refine HDR.out.mono ?_
  rintro e w1 ⟨⟨a1, n, c1, zs, rfl, hI, hn, hn3, hnc⟩, b1⟩
  have HB1 : Hid (Below w.heap.size w w1) := b1
  have HI1 : Hid (Ints w1 a1 zs) := hI
  have HN : Hid (zs.length = n) := hn
  obtain ⟨M, hM⟩ : ∃ M, M = (mkB zs).length := ⟨_, rfl⟩
  have HM : Hid ((mkB zs).length = M) := hM.symm
  have HIM : Hid (∀ w : World, Ints w a1 zs → Calls Try.prog 9 #[.slice a1 n c1] w fun e w' => (∃ x c, e = .returned (.slice x M c) ∧ Ints w' x (mkB zs)) ∧ Below w.heap.size w w') := fun w h => by
    refine (impl_codeMake a1 c1 n zs w h HN.out (by omega)).mono fun e w' ⟨⟨x, c, h1, h2⟩, h3⟩ => ⟨⟨x, c, ?_, h2.ints⟩, h3⟩
    rw [hM]; exact h1
  have HSP : Hid (∀ w : World, Ints w a1 zs → Calls Try.prog 11 #[.slice a1 n c1] w fun e w' => (∃ x c, e = .returned (.slice x M c) ∧ Ints w' x (mkB zs)) ∧ Below w.heap.size w w') := fun w h => by
    refine (spec_codeMake a1 c1 n zs w h HN.out (by omega)).mono fun e w' ⟨⟨x, c, h1, h2⟩, h3⟩ => ⟨⟨x, c, ?_, h2.ints⟩, h3⟩
    rw [hM]; exact h1
  obtain ⟨ok, hok⟩ : ∃ ok, ok = Cd.okB zs := ⟨_, rfl⟩
  have HIO : Hid (∀ w : World, Ints w a1 zs → Calls Try.prog 12 #[.slice a1 n c1] w fun e w' => e = .returned (.bool ok) ∧ w' = w) := fun w h => by rw [hok]; exact impl_codeOk a1 c1 n zs w h HN.out (by omega)
  have HSO : Hid (∀ w : World, Ints w a1 zs → Calls Try.prog 13 #[.slice a1 n c1] w fun e w' => e = .returned (.bool ok) ∧ w' = w) := fun w h => by rw [hok]; exact spec_codeOk a1 c1 n zs w h HN.out (by omega)
  have hMb : M ≤ 300 := by
    rw [hM]
    unfold mkB
    split
    · rw [Mk.mk_len]; omega
    · simp
  have HOK : Hid (ok = Cd.okB zs) := hok
  clear b1 hI hn hM HDR hok
  go_wp2_with fail
  refine (HIM.out _ HI1.out).mono ?_
  rintro e w2 ⟨⟨x, cx, rfl, hx⟩, b2⟩
  have H2 : Hid (Below w.heap.size w w2 ∧ Ints w2 a1 zs ∧ Ints w2 x (mkB zs)) := ⟨HB1.out.trans (b2.mono HB1.out.size), HI1.out.kept b2, hx⟩
  clear hx b2 HB1 HI1 HIM
  go_wp2_with fail
  refine (HSP.out _ H2.out.2.1).mono ?_
  rintro e w3 ⟨⟨y, cy, rfl, hy⟩, b3⟩
  have H3 : Hid (Below w.heap.size w w3 ∧ Ints w3 a1 zs ∧ Ints w3 x (mkB zs) ∧ Ints w3 y (mkB zs)) := ⟨H2.out.1.trans (b3.mono H2.out.1.size), H2.out.2.1.kept b3, H2.out.2.2.kept b3, hy⟩
  clear hy b3 H2 HSP
  go_wp2_with fail
  refine (wiInts_same x cx y cy M (mkB zs) w3 H3.out.2.2.1 H3.out.2.2.2 HM.out (by omega)).mono ?_
  rintro e w4 ⟨rfl, m4, hw4⟩
  have hdr : Below w3.heap.size w3 w4 := by rw [hw4]; exact ⟨rfl, rfl, rfl, Nat.le_refl _, fun _ _ => rfl⟩
  have H4 : Hid (Below w.heap.size w w4 ∧ Ints w4 a1 zs ∧ Ints w4 x (mkB zs)) := ⟨H3.out.1.trans (hdr.mono H3.out.1.size), H3.out.2.1.kept hdr, H3.out.2.2.1.kept hdr⟩
  clear hw4 hdr H3
  go_wp2_with fail
  refine (HIO.out _ H4.out.2.1).mono ?_
  rintro e w5 ⟨rfl, hw5⟩
  replace hw5 := hw5.symm
  subst hw5
  go_wp2_with fail
  refine (HSO.out _ H4.out.2.1).mono ?_
  rintro e w6 ⟨rfl, hw6⟩
  replace hw6 := hw6.symm
  subst hw6
  have hoo : (ok != ok) = false := by simp
  cases ok with
  | false =>
    have hM0 : M = 0 := by rw [← HM.out, mkB_no HOK.out.symm]; rfl
    subst hM0
    go_wp2_with fail
    refine (HSO.out _ H4.out.2.1).mono ?_
    rintro e w7 ⟨rfl, hw7⟩
    replace hw7 := hw7.symm
    subst hw7
    go_wp2_with fail
    go_ret
    exact ⟨rfl, H4.out.1⟩
  | true =>
    have hmk : mkB zs = Mk.mk zs := mkB_yes HOK.out.symm
    have hMn : M = n := by rw [← HM.out, hmk, Mk.mk_len, HN.out]
    subst hMn
    rw [hmk] at H4
    have HPT : Hid (∀ s, s < zs.length → ∃ V S : Nat, (Mk.mk zs).getD s 0 = (V : Int) ∧ zs.getD s 0 = (S : Int) ∧ V ≤ 9830400 ∧ S ≤ 15) := fun s hs => Cp.parts HOK.out.symm s hs
    have HTK : Hid (Cd.taken zs ≤ 32768) := by
      have := HOK.out.symm
      unfold Cd.okB at this
      simp only [Bool.and_eq_true, decide_eq_true_eq] at this
      exact this.2.2
    have HMK : Hid ((Mk.mk zs).length = M) := by show _ = _; rw [Mk.mk_len]; exact HN.out
    clear HIO hmk HM HOK hoo
    go_wp2_with fail
    refine (HSO.out _ H4.out.2.1).mono ?_
    rintro e w7 ⟨rfl, hw7⟩
    replace hw7 := hw7.symm
    subst hw7
    clear HSO
    go_wp2_with fail
    go_loopw [5] (fun i wr => ∃ k m : Nat, k ≤ M ∧ i = .int .i64 (k : Int) ∧ Hid (wr = w4.drewN m)) (fun i _ => M - (intOf i).toNat)
    case atStart => exact ⟨0, 0, Nat.zero_le _, rfl, rfl⟩
    case round =>
      obtain ⟨k, m, hk, rfl, HW⟩ := hrel
      by_cases hlt : k < M
      · have hki : (k : Int) < (M : Int) := by omega
        have hkl : k < zs.length := by rw [HN.out]; exact hlt
        have hkm : k < (Mk.mk zs).length := by rw [HMK.out]; exact hlt
        obtain ⟨b1, o1, rfl, hz⟩ := ints_cell H4.out.2.1 hkl
        obtain ⟨b2, o2, rfl, hv⟩ := ints_cell H4.out.2.2 hkm
        obtain ⟨V, L, hV, hL, hVb, hL15⟩ := HPT.out k hkl
        have e1 : wr.cell? ⟨b1, o1 + k, none⟩ = some (.int .i64 (L : Int)) := by rw [HW.out, hz m k hkl, hL]
        have e2 : wr.cell? ⟨b2, o2 + k, none⟩ = some (.int .i64 (V : Int)) := by rw [HW.out, hv m k hkm, hV]
        have HZ : Hid (∀ m j (_ : j < zs.length), (w4.drewN m).cell? ⟨b1, o1 + j, none⟩ = some (.int .i64 (zs.getD j 0))) := hz
        have HV : Hid (∀ m j (_ : j < (Mk.mk zs).length), (w4.drewN m).cell? ⟨b2, o2 + j, none⟩ = some (.int .i64 ((Mk.mk zs).getD j 0))) := hv
        clear hz hv
        by_cases hL0 : L = 0
        · subst hL0
          have e1' : wr.cell? ⟨b1, o1 + k, none⟩ = some (.int .i64 0) := e1
          clear e1
          go_wp2_with fail
          go_roundw
          case rel => exact ⟨k + 1, m, by omega, by go_num, HW⟩
          case measure => simp [intOf]; omega
        · have hLi : ¬ (L : Int) = 0 := by omega
          have hLb : ((L : Int) == 0) = false := by simp; omega
          have hS : Mk.Sym zs k L V := ⟨hkl, hL, by omega, hL15, hV⟩
          have HS : Hid (Mk.Sym zs k L V) := hS
          have hVlt := hS.bits HTK.out
          obtain ⟨P, hP⟩ : ∃ P : Nat, P = 2 ^ L := ⟨_, rfl⟩
          have hPb : P ≤ 32768 := by rw [hP]; exact Nat.le_trans (Nat.pow_le_pow_right (by omega) hL15) (by decide)
          have HPW : Hid (∀ q, Calls Try.prog 15 #[.int .i64 (L : Int)] (wr.drewN q) fun e w' => e = .returned (.int .i64 (P : Int)) ∧ w' = wr.drewN q) := fun q => by rw [hP]; exact wiPow_any L _ (by omega)
          have HWN : Hid (∀ q, Calls Try.prog 14 #[.int .i64 (V : Int), .int .i64 0, .int .i64 ((P : Int) - 1)] (wr.drewN q) fun e w' => e = .returned (.bool true) ∧ w' = wr.drewN q) := fun q => wiIn_yes _ _ _ _ (by omega) (by omega)
          clear hP hVlt hS hV hL
          go_wp2_with fail
          go_quiet (first | (go_at_call 15; exact Calls.quiet_of_same (HPW.out _)) | (go_at_call 14; exact Calls.quiet_of_same (HWN.out _)))
          all_goals go_wp2_with fail
          clear HPW HWN
          generalize hgw : wr = ow at *
          clear hgw
          go_loopw [6] (fun i wr => ∃ i' m' : Nat, i' ≤ M ∧ i = .int .i64 (i' : Int) ∧ Hid (wr = w4.drewN m')) (fun i _ => M - (intOf i).toNat)
          case atStart => exact ⟨0, _, Nat.zero_le _, rfl, by show _ = _; rw [HW.out, World.drewN_drewN]⟩
          case round =>
            obtain ⟨i, m2, hi, rfl, HW2⟩ := hrel
            clear HW e1 e2
            by_cases hlti : i < M
            · have hii : (i : Int) < (M : Int) := by omega
              have hil : i < zs.length := by rw [HN.out]; exact hlti
              have him : i < (Mk.mk zs).length := by rw [HMK.out]; exact hlti
              obtain ⟨V2, L2, hV2, hL2, hV2b, hL215⟩ := HPT.out i hil
              have e1 : wr.cell? ⟨b1, o1 + k, none⟩ = some (.int .i64 (L : Int)) := by rw [HW2.out, HZ.out m2 k hkl, HS.out.len]
              have e2 : wr.cell? ⟨b2, o2 + k, none⟩ = some (.int .i64 (V : Int)) := by rw [HW2.out, HV.out m2 k hkm, HS.out.num]
              have e3 : wr.cell? ⟨b1, o1 + i, none⟩ = some (.int .i64 (L2 : Int)) := by rw [HW2.out, HZ.out m2 i hil, hL2]
              have e4 : wr.cell? ⟨b2, o2 + i, none⟩ = some (.int .i64 (V2 : Int)) := by rw [HW2.out, HV.out m2 i him, hV2]
              by_cases hik : i = k
              · have t1 : ((i : Int) != (k : Int)) = false := by simp [hik]
                have t2 : (i : Int) = (k : Int) := by omega
                clear e1 e2 e3 e4 hV2 hL2
                go_wp2_with fail
                go_region
                all_goals go_wp2_with fail
                all_goals
                  go_roundw
                  case rel => exact ⟨i + 1, m2 + 1, by omega, by go_num, by show _ = _; rw [HW2.out]; rfl⟩
                  case measure => simp [intOf]; omega
              · have t1 : ((i : Int) != (k : Int)) = true := by simp; omega
                have t2 : ¬ (i : Int) = (k : Int) := by omega
                by_cases hge : L ≤ L2
                · have t3 : decide ((L2 : Int) ≥ (L : Int)) = true := by simp; omega
                  have t4 : (L : Int) ≤ (L2 : Int) := by omega
                  obtain ⟨D, hD⟩ : ∃ D, D = L2 - L := ⟨_, rfl⟩
                  have eD : (L2 : Int) - (L : Int) = (D : Int) := by omega
                  obtain ⟨P2, hP2⟩ : ∃ P2 : Nat, P2 = 2 ^ D := ⟨_, rfl⟩
                  have hP2p : 0 < P2 := by rw [hP2]; exact Nat.pow_pos (by omega)
                  have hP2i : ¬ (P2 : Int) = 0 := by omega
                  obtain ⟨Q, hQ⟩ : ∃ Q, Q = V2 / P2 := ⟨_, rfl⟩
                  have eQ : (V2 : Int) / (P2 : Int) = (Q : Int) := by rw [hQ]; simp
                  have eQ2 : (V2 : Int).tdiv (P2 : Int) = (Q : Int) := by rw [Int.tdiv_eq_ediv_of_nonneg (by omega)]; exact eQ
                  have hQV : Q ≠ V := by
                    have := HS.out.apart ⟨hil, hL2, by omega, hL215, hV2⟩ hik hge
                    rw [hQ, hP2, hD]; exact this
                  have hQi : ¬ (Q : Int) = (V : Int) := by omega
                  have hQd : ((Q : Int) == (V : Int)) = false := by simp; omega
                  have hQb : Q ≤ 9830400 := by rw [hQ]; exact Nat.le_trans (Nat.div_le_self _ _) hV2b
                  have fQ : IntKind.i64.wrap (Q : Int) = (Q : Int) := by simp [IntKind.wrap, IntKind.bits, IntKind.signed]; omega
                  have fD : IntKind.i64.wrap (D : Int) = (D : Int) := by simp [IntKind.wrap, IntKind.bits, IntKind.signed]; omega
                  have HPW : Hid (∀ q, Calls Try.prog 15 #[.int .i64 (D : Int)] (wr.drewN q) fun e w' => e = .returned (.int .i64 (P2 : Int)) ∧ w' = wr.drewN q) := fun q => by rw [hP2]; exact wiPow_any D _ (by omega)
                  clear hD hP2 hQ hV2 hL2 hQV
                  go_wp2_with fail
                  go_quiet (first | (go_at_call 15; exact Calls.quiet_of_same (HPW.out _)))
                  all_goals go_wp2_with fail
                  all_goals
                    go_roundw
                    case rel => exact ⟨i + 1, _, by omega, by go_num, by show _ = _; rw [HW2.out, World.drewN_drewN]⟩
                    case measure => simp [intOf]; omega
                · have t3 : decide ((L2 : Int) ≥ (L : Int)) = false := by simp; omega
                  have t4 : ¬ (L : Int) ≤ (L2 : Int) := by omega
                  clear hV2 hL2 e2 e4
                  go_wp2_with fail
                  go_region
                  all_goals go_wp2_with fail
                  all_goals
                    go_roundw
                    case rel => exact ⟨i + 1, m2 + 1, by omega, by go_num, by show _ = _; rw [HW2.out]; rfl⟩
                    case measure => simp [intOf]; omega
            · have hii : ¬ (i : Int) < (M : Int) := by omega
              go_wp2_with fail
              go_roundw
              case rel => exact ⟨k + 1, m2, by omega, by go_num, HW2⟩
              case measure => simp [intOf]; omega
      · have hki : ¬ (k : Int) < (M : Int) := by omega
        have HF : Hid (Below w.heap.size w wr) := by rw [HW.out]; exact H4.out.1.trans ⟨rfl, rfl, rfl, Nat.le_refl _, fun _ _ => rfl⟩
        clear HW H4
        go_wp2_with fail
        go_ret
        exact ⟨rfl, HF.out⟩
end Go.Proofs.Ytjdilanmkgodnaa
