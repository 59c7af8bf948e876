/- The law on what is read of a row, walked. -/
import Derived.Test.YtjikjjganloobaaLawRow
import Derived.Test.YtjikjjganloobaaDrawRowGet
import Derived.Deep.RegionHeld3
namespace Go.Proofs.Ytjikjjganloobaa
open Go.RowKit

set_option maxHeartbeats 400000 in
theorem wiIn_yes (n lo hi : Int) (w : World) (h1 : lo ≤ n) (h2 : n ≤ hi) :
    Calls Try.prog 19 #[.int .i64 n, .int .i64 lo, .int .i64 hi] w fun e w' => e = .returned (.bool true) ∧ w' = w := by
  have d1 : decide (lo ≤ n) = true := by simpa using h1
  have d2 : decide (n ≤ hi) = true := by simpa using h2
  go_enter Try.func19, Try.ntmps19
  go_wp2_with fail
  go_ret
  exact ⟨rfl, rfl⟩

set_option maxHeartbeats 400000 in
theorem wiPow_any (n : Nat) (w : World) (hn : n ≤ 60) :
    Calls Try.prog 20 #[.int .i64 n] w fun e w' => e = .returned (.int .i64 ((2 ^ n : Nat) : Int)) ∧ w' = w := by
  go_enter Try.func20, Try.ntmps20
  go_wp2_with fail
  go_loop [3, 4] (fun x i => ∃ k p : Nat, k ≤ n ∧ i = .int .i64 k ∧ p = 2 ^ k ∧ x = .int .i64 (p : Int)) (fun _ i => n - (intOf i).toNat)
  case atStart => exact ⟨0, 1, Nat.zero_le _, rfl, rfl, rfl⟩
  case round =>
    obtain ⟨k, p, hk, rfl, hp, rfl⟩ := hrel
    by_cases hlt : k < n
    · have hb : p < 2 ^ 60 := by rw [hp]; exact Nat.pow_lt_pow_right (by omega) (by omega)
      have HP : Hid (p * 2 = 2 ^ (k + 1)) := by show _ = _; rw [hp, Nat.pow_succ]
      have d1 : decide ((k : Int) < (n : Int)) = true := by simp; omega
      have d2 : decide ((k : Int) < 60) = true := by simp; omega
      clear hp
      go_wp2_with fail
      go_round
      case rel => exact ⟨k + 1, p * 2, by omega, by go_num, HP.out, by go_num⟩
      case measure => simp [intOf]; omega
    · have hk' : k = n := by omega
      subst hk'
      have HP : Hid (p = 2 ^ k) := hp
      have d1 : decide ((k : Int) < (k : Int)) = false := by simp
      clear hp
      go_wp2_with fail
      go_ret
      exact ⟨by rw [HP.out]; rfl, rfl⟩

/-- one point: its own row comes back -/
theorem one_back {D x : Nat} (hd : depB (D : Int) = true) (hx : x < 2 ^ D) :
    Rw.There (⟨((Rp.put (D : Int) [(x : Int)]).map UInt8.ofNat).toArray⟩ : ByteArray).size (D : Int) ((1 : Nat) : Int) ∧ Rw.ans (⟨((Rp.put (D : Int) [(x : Int)]).map UInt8.ofNat).toArray⟩ : ByteArray) (D : Int) ((1 : Nat) : Int) = [(x : Int)] := by
  have hsm : Rp.Small D [(x : Int)] := by intro z hz; simp at hz; subst hz; exact ⟨by omega, by rw [Int.toNat_natCast]; exact hx⟩
  obtain ⟨D', hD', _, _, hDD⟩ := Rw.dep_nat hd
  have e : D' = D := by omega
  subst e
  have hR := row_of hDD (by simp) hsm
  have hp : Rp.put (D' : Int) [(x : Int)] = Bp.text true (Rp.bl D' [(x : Int)]) := by
    rw [Rp.put_yes ⟨hd, by simp, by rw [Int.toNat_natCast]; exact hsm⟩, Int.toNat_natCast]
  rw [hp, text_same hR]
  have ht := row_there hd (by simp) hR
  refine ⟨ht, ?_⟩
  exact (Rw.ans_yes ht).trans (row_back hR hsm)

set_option maxHeartbeats 4000000 in
set_option maxRecDepth 20000 in
theorem lawRowGet (a : Option Addr) (len cap : Nat) (w : World) (h : Code8 w a len cap) :
    Calls Try.prog 5 #[.slice a len cap] w fun e w' => e = .returned (.bool true) ∧ Below w.heap.size w w' := by
  by_cases hbig : 1048576 < len
  · have hc := h.2.1
    have hc1 := h.1
    unfold maxLen at hc
    clear h
    go_enter Try.func5, Try.ntmps5
    go_wp2_with fail
    go_ret
    exact ⟨rfl, Below.refl _ _⟩
  · go_enter Try.func5, Try.ntmps5
    go_wp2_with fail
    refine (drawRowGet_any a len cap w h).mono ?_
    rintro e w1 ⟨⟨s, d, c, rfl, hs, hd0, hd1, hc0, hc1⟩, b1⟩
    clear h
    obtain ⟨M, hM⟩ : ∃ M, M = (Rw.ans s d c).length := ⟨_, rfl⟩
    have hM3 : M ≤ 1000 := by rw [hM]; exact Rw.ans_len s d c
    have HSP : Hid (∀ w : World, Calls Try.prog 9 #[.string s, .int .i64 d, .int .i64 c] w fun e w' => (∃ ao L cap, e = .returned (.tuple #[.slice ao L cap, .bool (Rw.thereB s.size d c)]) ∧ (Rw.ans s d c).length = L ∧ Ints w' ao (Rw.ans s d c)) ∧ Below w.heap.size w w') := fun w => spec_rowGet s d c w (by omega)
    have HIM : Hid (∀ w : World, Calls Try.prog 10 #[.string s, .int .i64 d, .int .i64 c] w fun e w' => (∃ ao L cap, e = .returned (.tuple #[.slice ao L cap, .bool (Rw.thereB s.size d c)]) ∧ (Rw.ans s d c).length = L ∧ L ≤ cap ∧ Owns w' w.heap.size ao (Rw.ans s d c)) ∧ Below w.heap.size w w') := fun w => impl_rowGet s d c w (by omega)
    by_cases hth : Rw.There s.size d c
    · obtain ⟨D, rfl, hD1, hD32, hDD⟩ := Rw.dep_nat hth.1
      obtain ⟨C, rfl⟩ := Int.eq_ofNat_of_zero_le hth.2.1
      have hans := Rw.ans_yes hth
      have hMC : M = C := by rw [hM, hans, Rw.row_len]
      subst hMC
      rw [Rw.thereB_yes hth, hans] at HSP HIM
      have HD : Hid (depB (D : Int) = true) := hth.1
      have HLN : Hid ((Rw.row s D M).length = M) := Rw.row_len _ _ _
      have HPT : Hid (∀ i (hi : i < (Rw.row s D M).length), ∃ x : Nat, (Rw.row s D M)[i] = (x : Int) ∧ x < 2 ^ D) := by
        intro i hi; exact ⟨Rw.pt s D i, Rw.row_get s D M i hi, Rw.pt_lt s D i⟩
      clear hth hans hM hDD hd0 hd1
      generalize Rw.row s D M = l at *
      go_wp2_with fail
      refine (HIM.out _).mono ?_
      rintro e w2 ⟨⟨x, L2, c2, rfl, hL2, hcap, G2⟩, b2⟩
      rw [HLN.out] at hL2
      subst hL2
      have bel := b1.trans (b2.mono b1.size)
      have GI2 := G2.ints
      clear b1 b2 G2 HIM
      go_wp2_with fail
      refine (HSP.out _).mono ?_
      rintro e w3 ⟨⟨y, L3, c3, rfl, hL3, Y3⟩, b3⟩
      rw [HLN.out] at hL3
      subst hL3
      have GI3 := GI2.kept b3
      have bel' := bel.trans (b3.mono bel.size)
      clear bel b3 GI2 HSP
      go_wp2_with fail
      refine (wiInts_same x c2 y c3 M l w3 GI3 Y3 HLN.out (by omega)).mono ?_
      rintro e w4 ⟨rfl, m4, hw4⟩
      have b4 : Below w3.heap.size w3 w4 := by rw [hw4]; exact below_drewN (Below.refl _ _) _
      have bel : Below w.heap.size w w4 := bel'.trans (b4.mono bel'.size)
      have GI4 : Hid (Ints w4 x l) := GI3.kept b4
      clear b4 bel' GI3 Y3 hw4
      go_wp2_with fail
      go_loopw [10] (fun i wr => ∃ k : Nat, k ≤ M ∧ i = .int .i64 k ∧ Ints wr x l ∧ Below w.heap.size w wr) (fun i _ => M - (intOf i).toNat)
      case atStart => exact ⟨0, Nat.zero_le _, rfl, GI4.out, bel⟩
      case round =>
        obtain ⟨k, hk, rfl, hI, hbel⟩ := hrel
        clear GI4 bel
        by_cases hlt : k < M
        · have hkl : k < l.length := by have := HLN.out; omega
          have HI : Hid (Ints wr x l) := hI
          rcases hI with g | ⟨b, off, rfl, hbB, hc⟩
          · rw [g] at hkl; simp at hkl
          · obtain ⟨z, hz, hz2⟩ := HPT.out k hkl
            have hck := hc k hkl
            rw [hz] at hck
            have HZ : Hid (z < 2 ^ D) := hz2
            have hzb : z < 4294967296 := Nat.lt_of_lt_of_le hz2 (Nat.le_trans (Nat.pow_le_pow_right (by omega) hD32) (by decide))
            have HI1 : Hid (Ints wr (some ⟨b, off + k, none⟩) [(z : Int)]) := .inr ⟨b, off + k, rfl, hbB, fun i hi => by
              have : i = 0 := by simpa using hi
              subst this
              exact hck⟩
            obtain ⟨T, hT⟩ : ∃ T, T = (⟨((Rp.put (D : Int) [(z : Int)]).map UInt8.ofNat).toArray⟩ : ByteArray) := ⟨_, rfl⟩
            have HM : Hid (∀ (cc : Nat) (w' : World), Ints w' (some ⟨b, off + k, none⟩) [(z : Int)] → Calls Try.prog 15 #[.slice (some ⟨b, off + k, none⟩) 1 cc, .int .i64 D] w' fun e w'' => e = .returned (.string T) ∧ Below w'.heap.size w' w'') := by
              intro cc w' hI'; rw [hT]; exact impl_rowPut _ 1 cc (D : Int) [(z : Int)] w' hI' rfl (by omega) (fun y hy => by simp at hy; omega)
            have ho := one_back (x := z) HD.out hz2
            rw [← hT] at ho
            have HG : Hid (∀ w : World, Calls Try.prog 10 #[.string T, .int .i64 (D : Int), .int .i64 1] w fun e w' => (∃ ao L cap, e = .returned (.tuple #[.slice ao L cap, .bool true]) ∧ [(z : Int)].length = L ∧ L ≤ cap ∧ Owns w' w.heap.size ao [(z : Int)]) ∧ Below w.heap.size w w') := by
              intro w
              have := impl_rowGet T (D : Int) ((1 : Nat) : Int) w (by rw [hT]; exact Nat.le_trans (put_short _ _) (by omega))
              rw [ho.2, Rw.thereB_yes ho.1] at this
              exact this
            have hki : (k : Int) < (M : Int) := by omega
            have hk1 : (k : Int) + 1 ≤ (c2 : Int) := by omega
            have hkc : ¬ c2 = k := by omega
            clear hT ho hz hz2 hc
            obtain ⟨Q, hQ⟩ : ∃ Q, Q = 2 ^ D := ⟨_, rfl⟩
            have hQ0 : 0 < Q := by rw [hQ]; exact Nat.pow_pos (by omega)
            have hQb : Q ≤ 4294967296 := by rw [hQ]; exact Nat.le_trans (Nat.pow_le_pow_right (by omega) hD32) (by decide)
            obtain ⟨P, hP⟩ : ∃ P, P + 1 = Q := ⟨Q - 1, by omega⟩
            have HPW : Hid (∀ w : World, Calls Try.prog 20 #[.int .i64 (D : Int)] w fun e w' => e = .returned (.int .i64 (Q : Int)) ∧ w' = w) := by
              intro w
              have := wiPow_any D w (by omega)
              rw [← hQ] at this
              exact this
            have hw : IntKind.i64.wrap ((Q : Int) - 1) = (P : Int) := by rw [show (Q : Int) - 1 = (P : Int) by omega]; exact wrap_i64_nat P (by omega)
            have hzP : (z : Int) ≤ (P : Int) := by have := HZ.out; omega
            clear hQ hP
            go_wp2_with fail
            refine (HM.out _ _ HI1.out).mono ?_
            rintro e w5 ⟨rfl, b5⟩
            have HI5 : Hid (Ints w5 (some ⟨b, off, none⟩) l) := HI.out.kept b5
            have hck5 := (b5.cell (p := ⟨b, off + k, none⟩) hbB).trans hck
            have bel5 := hbel.trans (b5.mono hbel.size)
            have hb5 : b < w5.heap.size := Nat.lt_of_lt_of_le hbB b5.size
            clear HI HI1 HM hck b5 hbel
            go_wp2_with fail
            refine (HG.out _).mono ?_
            rintro e w6 ⟨⟨x6, L6, c6, rfl, hL6, hcap6, G6⟩, b6⟩
            have hL6' : L6 = 1 := hL6.symm
            subst hL6'
            have HI6 : Hid (Ints w6 (some ⟨b, off, none⟩) l) := HI5.out.kept b6
            have hck6 := (b6.cell (p := ⟨b, off + k, none⟩) hb5).trans hck5
            have bel6 := bel5.trans (b6.mono bel5.size)
            rcases G6 with g | ⟨g, rfl, _, _, hcg⟩
            · simp at g
            · have hg6 : w6.cell? ⟨g, 0, none⟩ = some (.int .i64 (z : Int)) := (hcg 0 (by simp)).1
              clear HI5 HG hck5 b6 bel5 hcg
              go_wp2_with fail
              go_region_held3 (fun w' => w'.cell? ⟨b, off + k, none⟩ = some (.int .i64 (z : Int)) ∧ w'.cell? ⟨g, 0, none⟩ = some (.int .i64 (z : Int))) (go_keep) (first | (go_at_call 19; refine (wiIn_yes _ _ _ _ (by omega) hzP).mono ?_; rintro e w' ⟨rfl, rfl⟩) | (go_at_call 20; refine (HPW.out _).mono ?_; rintro e w' ⟨rfl, rfl⟩))
              all_goals
                go_wp2_with fail
                go_roundw
                case rel => exact ⟨k + 1, by omega, by go_num, HI6.out.kept (Below.refl _ _).drew, bel6.drew⟩
                case measure => simp [intOf]; omega
        · have hk' : k = M := by omega
          subst hk'
          clear hI
          go_wp2_with fail
          go_ret
          exact ⟨rfl, hbel⟩
    · have HT : Hid (Rw.thereB s.size d c = false ∧ Rw.ans s d c = []) := ⟨Rw.thereB_no hth, Rw.ans_no hth⟩
      rw [HT.out.1, HT.out.2] at HSP HIM
      clear hth hM
      go_wp2_with fail
      refine (HIM.out _).mono ?_
      rintro e w2 ⟨⟨x, L2, c2, rfl, hL2, hcap, G2⟩, b2⟩
      have hL2' : L2 = 0 := hL2.symm
      subst hL2'
      have bel := b1.trans (b2.mono b1.size)
      clear b1 b2 G2 HIM
      go_wp2_with fail
      refine (HSP.out _).mono ?_
      rintro e w3 ⟨⟨y, L3, c3, rfl, hL3, Y3⟩, b3⟩
      have hL3' : L3 = 0 := hL3.symm
      subst hL3'
      have bel' := bel.trans (b3.mono bel.size)
      clear bel b3 HSP Y3
      go_wp2_with fail
      refine (wiInts_same x c2 y c3 0 [] w3 (.inl rfl) (.inl rfl) rfl (by omega)).mono ?_
      rintro e w4 ⟨rfl, m4, hw4⟩
      have bel : Below w.heap.size w w4 := by rw [hw4]; exact below_drewN bel' _
      clear bel' hw4
      go_wp2_with fail
      refine (wiInts_same x c2 y c3 0 [] w4 (.inl rfl) (.inl rfl) rfl (by omega)).mono ?_
      rintro e w5 ⟨rfl, m5, hw5⟩
      have bel' : Below w.heap.size w w5 := by rw [hw5]; exact below_drewN bel _
      clear bel hw5
      go_wp2_with fail
      go_ret
      exact ⟨rfl, bel'⟩
end Go.Proofs.Ytjikjjganloobaa
