/- Numbers drawn for packets. -/
import Derived.Test.YtlpfedhehfbfeaaDrawRow
import Derived.Test.YtlpfedhehfbfeaaAppOne
import Derived.Test.YtlpfedhehfbfeaaAppInts
import Derived.Test.YtlpfedhehfbfeaaRowCode
import Derived.Deep.RegionHeld3
namespace Go.Proofs.Ytlpfedhehfbfeaa
open Go.RowKit

theorem OwnI.cap' {w : World} {lo n c : Nat} {a : Option Addr} {zs : List Int} (h : OwnI w lo (.slice a n c) n zs) : n ≤ c := by
  rcases h.2 with ⟨e, h0⟩ | ⟨g, cap', cur, e, _, _, h1, _⟩
  · cases e; omega
  · cases e; exact h1

theorem own_ints {w : World} {lo n c : Nat} {a : Option Addr} {zs : List Int} (h : OwnI w lo (.slice a n c) n zs) : Ints w a zs := by
  obtain ⟨a7, c7, e7, h7⟩ := h.owns
  cases e7
  exact h7.ints

set_option maxHeartbeats 1000000 in
theorem l4Same_any (z : Int) (T : Nat) (w : World) (hT : T ≤ 1000) :
    Calls Try.prog 52 #[.int .i64 z, .int .i64 (T : Int)] w fun e w' => (∃ a c, e = .returned (.slice a T c) ∧ OwnI w' w.heap.size (.slice a T c) T (List.replicate T z)) ∧ Below w.heap.size w w' := by
  have HE : Hid (OwnI _ _ _ 0 []) := ownI_none w
  go_enter Try.func52, Try.ntmps52
  go_wp2_with fail
  go_loopw [5, 6] (fun v i wr => ∃ k : Nat, k ≤ T ∧ i = .int .i64 (k : Int) ∧ OwnI wr w.heap.size v k (List.replicate k z) ∧ Below w.heap.size w wr) (fun _ i _ => T - (intOf i).toNat)
  case atStart => exact ⟨0, Nat.zero_le _, rfl, HE.out, (Below.refl _ _).alloc (Nat.le_refl _) _⟩
  case round =>
    obtain ⟨k, hk, rfl, hown, hbel⟩ := hrel
    clear HE
    by_cases hlt : k < T
    · have hki : (k : Int) < (T : Int) := by omega
      have HR : Hid (List.replicate (k + 1) z = List.replicate k z ++ [z]) := by show _ = _; rw [List.replicate_succ']
      generalize List.replicate k z = q at *
      go_wp2_with (at_builtin; refine wpList_app1 wr (by rfl) _ _ (by rfl) w.heap.size _ k q z (by rfl) hown (by rfl) (by omega) hbel.size ?_)
      intro g cap w4 hown4 hgr
      have hb4 : Below w.heap.size w w4 := hgr.below hbel (Nat.le_refl _) hbel.size
      have HO4 : Hid (OwnI w4 w.heap.size (.slice (some ⟨g, 0, none⟩) (k + 1) cap) (k + 1) (List.replicate (k + 1) z)) := by show OwnI _ _ _ _ _; rw [HR.out]; exact hown4
      clear hown hown4 hgr hbel
      go_wp2_with fail
      go_roundw
      case rel => exact ⟨k + 1, by omega, by go_num, HO4.out, hb4⟩
      case measure => simp [intOf]; omega
    · obtain rfl : k = T := by omega
      obtain ⟨a, c, e, _⟩ := hown.owns
      subst e
      have HF : Hid (OwnI wr w.heap.size (.slice a k c) k (List.replicate k z)) := hown
      clear hown
      go_wp2_with fail
      go_ret
      exact ⟨⟨a, c, rfl, HF.out⟩, hbel⟩

set_option maxHeartbeats 4000000 in
set_option maxRecDepth 20000 in
theorem l14Nums_any (B p M : Nat) (w : World) (hr : RdAt w B p) (hp : p ≤ 1000) (hM1 : 4 ≤ M) (hM : M ≤ 1000) :
    Calls Try.prog 40 #[.pointer (some ⟨B, 0, none⟩), .int .i64 (M : Int)] w fun e w' => (∃ (v : Value) (n : Nat) (l : List Int), e = .returned v ∧ OwnI w' w.heap.size v n l ∧ n ≤ 300) ∧ (∃ q, q ≤ p + 40 ∧ RdAt w' B q) ∧ Only B w w' := by
  have hlt0 := hr.lt
  have HE : Hid (OwnI _ _ _ 0 []) := ownI_none w
  have HR0 : Hid (RdAt (w.alloc (.cells #[] 3)) B p) := hr.alloc _
  have HO0 : Hid (Only B w (w.alloc (.cells #[] 3))) := (Only.refl B w).alloc hlt0 _
  have hMi : (4 : Int) ≤ (M : Int) ∧ (M : Int) ≤ 1000 := by omega
  clear hr
  go_enter Try.func40, Try.ntmps40
  go_wp2_with fail
  refine (pick_named B p _ _ HR0.out (by omega) (by omega) (by omega)).mono ?_
  rintro e w2 ⟨k0, rfl, hk0, hR2, hO2, hs2⟩
  have HD2 : Hid (OwnI w2 w.heap.size _ 0 []) := HE.out.only hO2 hlt0
  have HR2 : Hid (RdAt w2 B (p + 1)) := hR2
  have HO2 : Hid (Only B w w2) := HO0.out.trans hO2
  have hk8 : k0 ≤ 8 := by omega
  clear HE HR0 HO0 hO2 hs2 hR2 hk0
  go_wp2_with fail
  go_loopw [5, 6] (fun v i wr => ∃ (k q n : Nat) (l : List Int), k ≤ 8 ∧ i = .int .i64 k ∧ n + 10 * k ≤ 80 ∧ q + 3 * k ≤ p + 25 ∧ RdAt wr B q ∧ OwnI wr w.heap.size v n l ∧ Only B w wr) (fun _ i _ => (intOf i).toNat)
  case atStart => exact ⟨k0, p + 1, 0, [], hk8, rfl, by omega, by omega, HR2.out, HD2.out, HO2.out⟩
  case round =>
    obtain ⟨k, q, n, l, hk, rfl, hnk, hqk, hR, hD', hO⟩ := hrel
    clear HR2 HD2 HO2
    have HR : Hid (RdAt wr B q) := hR
    obtain ⟨a5, c5, e5, _⟩ := hD'.owns
    subst e5
    have HD : Hid (OwnI wr w.heap.size (.slice a5 n c5) n l) := hD'
    have HO : Hid (Only B w wr) := hO
    clear hR hD' hO
    by_cases hk0 : 0 < k
    · have hki : (0 : Int) < (k : Int) := by omega
      go_wp2_with fail
      refine (pick_named B q _ _ HR.out (by omega) (by omega) (by omega)).mono ?_
      rintro e w3 ⟨x, rfl, hx, hR3, hO3, hs3⟩
      have HD3 : Hid (OwnI w3 w.heap.size (.slice a5 n c5) n l) := HD.out.only hO3 hlt0
      have HR3 : Hid (RdAt w3 B (q + 1)) := hR3
      have HO3 : Hid (Only B w w3) := HO.out.trans hO3
      clear HR HD HO hR3 hO3 hs3
      go_wp2_with fail
      refine (pick_named B (q + 1) _ _ HR3.out (by omega) (by omega) (by omega)).mono ?_
      rintro e w4 ⟨y, rfl, hy, hR4, hO4, hs4⟩
      have HD4 : Hid (OwnI w4 w.heap.size (.slice a5 n c5) n l) := HD3.out.only hO4 hlt0
      have HR4 : Hid (RdAt w4 B (q + 2)) := hR4
      have HO4 : Hid (Only B w w4) := HO3.out.trans hO4
      clear HR3 HD3 HO3 hR4 hO4 hs4
      go_wp2_with fail
      refine (pick_named B (q + 2) _ _ HR4.out (by omega) (by omega) (by omega)).mono ?_
      rintro e w5 ⟨y2, rfl, hy2, hR5, hO5, hs5⟩
      have HD5 : Hid (OwnI w5 w.heap.size (.slice a5 n c5) n l) := HD4.out.only hO5 hlt0
      have HR5 : Hid (RdAt w5 B (q + 3)) := hR5
      have HO5 : Hid (Only B w w5) := HO4.out.trans hO5
      clear HR4 HD4 HO4 hR5 hO5 hs5
      obtain ⟨J, hJ⟩ : ∃ J : Nat, J = y * y2 := ⟨_, rfl⟩
      have hJb : J ≤ 9 := by rw [hJ]; calc y * y2 ≤ 3 * 3 := Nat.mul_le_mul (by omega) (by omega)
                                         _ = 9 := rfl
      have eJ : (y : Int) * (y2 : Int) = (J : Int) := by rw [hJ]; simp
      obtain ⟨J1, hJ1⟩ : ∃ J1 : Nat, J1 = 1 + J := ⟨_, rfl⟩
      have eJ1 : (1 : Int) + (J : Int) = (J1 : Int) := by omega
      have hJ1b : J1 ≤ 10 := by omega
      clear hJ hJ1
      go_wp2_with fail
      generalize hgw : wr = ow at *
      clear hgw
      go_loopw [5, 8] (fun v i wr => ∃ (j n2 : Nat) (l2 : List Int), j ≤ 10 ∧ i = .int .i64 j ∧ n2 + j ≤ n + 10 ∧ RdAt wr B (q + 3) ∧ OwnI wr w.heap.size v n2 l2 ∧ Only B w wr) (fun _ i _ => (intOf i).toNat)
      case atStart => exact ⟨J1, n, l, hJ1b, rfl, by omega, HR5.out, HD5.out, HO5.out⟩
      case round =>
        obtain ⟨j, n2, l2, hj, rfl, hnj, hR, hD', hO⟩ := hrel
        clear HR5 HD5 HO5
        by_cases hj0 : 0 < j
        · have hji : (0 : Int) < (j : Int) := by omega
          have hbs : w.heap.size ≤ wr.heap.size := hO.below.size
          have HR : Hid (RdAt wr B (q + 3)) := hR
          have HO : Hid (Only B w wr) := hO
          clear hR hO
          go_wp2_with (at_builtin; refine wpList_app1 wr (by rfl) _ _ (by rfl) w.heap.size _ n2 l2 (x : Int) (by rfl) hD' (by rfl) (by omega) hbs ?_)
          intro g cap w6 hown6 hgr
          have hb6 : Below w.heap.size wr w6 := hgr.below (Below.refl _ _) (Nat.le_refl _) hbs
          have H6 : Hid (RdAt w6 B (q + 3) ∧ OwnI w6 w.heap.size (.slice (some ⟨g, 0, none⟩) (n2 + 1) cap) (n2 + 1) (l2 ++ [(x : Int)]) ∧ Only B w w6) := ⟨HR.out.kept (hb6.mono hlt0), hown6, HO.out.grown hlt0 hb6⟩
          clear hown6 hgr hb6 hD' HR HO
          go_wp2_with fail
          go_roundw
          case rel => exact ⟨j - 1, n2 + 1, _, by omega, by go_num, by omega, H6.out.1, H6.out.2.1, H6.out.2.2⟩
          case measure => simp [intOf]; omega
        · have hji : ¬ (0 : Int) < (j : Int) := by omega
          have HF : Hid (RdAt wr B (q + 3) ∧ OwnI wr w.heap.size u5 n2 l2 ∧ Only B w wr) := ⟨hR, hD', hO⟩
          clear hR hD' hO
          go_wp2_with fail
          exact ⟨⟨k - 1, q + 3, n2, l2, by omega, by go_num, by omega, by omega, HF.out.1, HF.out.2.1, HF.out.2.2⟩, by simp [intOf]; omega⟩
    · have hk' : k = 0 := by omega
      subst hk'
      go_wp2_with fail
      refine (pick_named B q _ _ HR.out (by omega) (by omega) (by omega)).mono ?_
      rintro e w3 ⟨x, rfl, hx, hR3, hO3, hs3⟩
      have HD3 : Hid (OwnI w3 w.heap.size (.slice a5 n c5) n l) := HD.out.only hO3 hlt0
      have HR3 : Hid (RdAt w3 B (q + 1)) := hR3
      have HO3 : Hid (Only B w w3) := HO.out.trans hO3
      clear HR HD HO hR3 hO3 hs3
      by_cases hx0 : x = 0
      · subst hx0
        have h3 : (3 : Int) % (M : Int) = 3 := Int.emod_eq_of_lt (by omega) (by omega)
        have h3t : (3 : Int).tmod (M : Int) = 3 := by rw [Int.tmod_eq_emod_of_nonneg (by omega)]; exact h3
        have hM0 : ¬ M = 0 := by omega
        have hM0i : ¬ (M : Int) = 0 := by omega
        have HRd : Hid (RdAt w3.drew B (q + 1)) := HR3.out.drew
        go_wp2_with fail
        go_region_held3 (fun _ => True) (trivial) (first | (go_at_call 22; refine (pick_named B (q + 1) _ _ HRd.out (by omega) (by omega) (by omega)).mono ?_; rintro e w4 ⟨y, rfl, hy, hR4, hO4, hs4⟩; have HR4 : Hid (RdAt w4 B (q + 2)) := hR4; have HO4 : Hid (Only B w w4) := (HO3.out.drewN 1).trans hO4; have HD4 : Hid (OwnI w4 w.heap.size (.slice a5 n c5) n l) := OwnI.only (w := w3.drew) HD3.out hO4 hlt0; clear hR4 hO4 hs4; obtain ⟨T, hT⟩ : ∃ T : Nat, T = 130 + y := ⟨_, rfl⟩; have eT : (130 : Int) + (y : Int) = (T : Int) := (by omega); have fT := wrap_i64_nat T (by omega); have hTb : T ≤ 138 := (by omega); clear hT) | (go_at_call 52; refine (l4Same_any 3 T _ (by omega)).mono ?_; rintro e w5 ⟨⟨a6, c6, rfl, hq⟩, b5⟩; have HI5 : Hid (Ints w5 a6 (List.replicate T 3) ∧ OwnI w5 w.heap.size (.slice a5 n c5) n l ∧ RdAt w5 B (q + 2) ∧ Only B w w5) := ⟨own_ints hq, HD4.out.same (fun k hk _ => b5.block k hk), HR4.out.kept (b5.mono HR4.out.lt), HO4.out.trans (Only.of_below b5 HR4.out.lt)⟩; clear hq b5) | (refine step_append_ints (by rfl) _ _ (by rfl) w.heap.size (.slice a5 n c5) n l (by rfl) HI5.out.2.1 a6 T c6 (List.replicate T 3) (by rfl) HI5.out.1 (by simp) (by omega) HI5.out.2.2.2.below.size ?_; intro y7 cy7 w7 hO7 hG7))
        all_goals
          have hlt7 := World.ownsRow.lt (show World.ownsRow _ _ _ _ _ _ _ from HI5.out.2.1)
          have hb7 : Below w.heap.size w5 w7 := (Below.refl _ _).grown hG7 HI5.out.2.2.2.below.size (fun k hk => (hlt7 k hk).1)
          have HF : Hid (RdAt w7 B (q + 2) ∧ OwnI w7 w.heap.size (.slice y7 (n + T) cy7) (n + T) (l ++ List.replicate T 3) ∧ Only B w w7) := ⟨HI5.out.2.2.1.kept (hb7.mono hlt0), hO7, HI5.out.2.2.2.grown hlt0 hb7⟩
          clear hO7 hG7 hlt7 hb7 HI5 HD4 HR4 HO4 HD3 HR3 HO3 HRd
          go_wp2_with fail
          go_ret
          exact ⟨⟨_, _, _, rfl, HF.out.2.1, by omega⟩, ⟨q + 2, by omega, HF.out.1⟩, HF.out.2.2⟩
      · have hxb : ((x : Int) == 0) = false := by rw [beq_eq_false_iff_ne]; omega
        have HF : Hid (RdAt w3 B (q + 1) ∧ OwnI w3 w.heap.size (.slice a5 n c5) n l ∧ Only B w w3) := ⟨HR3.out, HD3.out, HO3.out⟩
        clear HR3 HD3 HO3
        go_wp2_with fail
        go_ret
        exact ⟨⟨_, n, l, rfl, HF.out.2.1, by omega⟩, ⟨q + 1, by omega, HF.out.1⟩, HF.out.2.2⟩
end Go.Proofs.Ytlpfedhehfbfeaa
