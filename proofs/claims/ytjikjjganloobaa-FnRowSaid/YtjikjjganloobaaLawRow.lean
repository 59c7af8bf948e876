/- The law on rows, walked. -/
import Derived.Test.YtjikjjganloobaaRpTop
import Derived.Test.YtjikjjganloobaaRwTop
import Derived.Test.YtjikjjganloobaaRpBack
import Derived.Test.YtjikjjganloobaaDrawRowPut
import Derived.Test.YtjikjjganloobaaRowCode
namespace Go.Proofs.Ytjikjjganloobaa
open Go.RowKit

theorem empty_list : (⟨(([] : List Nat).map UInt8.ofNat).toArray⟩ : ByteArray).toList = [] := by
  rw [ByteArray.toList, ByteArray.toList.loop]; rfl

set_option maxHeartbeats 400000 in
theorem wiInts_same (a : Option Addr) (cap : Nat) (b : Option Addr) (cap' n : Nat) (zs : List Int) (w : World) (h : Ints w a zs) (g : Ints w b zs) (hn : zs.length = n) (hl : n ≤ 2000000) :
    Calls Try.prog 17 #[.slice a n cap, .slice b n cap'] w fun e w' => e = .returned (.bool true) ∧ ∃ m, w' = w.drewN m := by
  have HI : Hid (Ints w a zs) := h
  have HG : Hid (Ints w b zs) := g
  clear h g
  have hzg : n ≤ zs.length := by omega
  clear hn
  go_enter Try.func17, Try.ntmps17
  go_wp2_with fail
  go_loopw [5] (fun i wr => ∃ k m : Nat, k ≤ n ∧ i = .int .i64 k ∧ wr = w.drewN m) (fun i _ => n - (intOf i).toNat)
  case atStart => exact ⟨0, 0, Nat.zero_le _, rfl, rfl⟩
  case round =>
    obtain ⟨k, m, hk, rfl, rfl⟩ := hrel
    by_cases hlt : k < n
    · have hkz : k < zs.length := by omega
      rcases HI.out with h | ⟨b1, off1, rfl, hb1, hc1⟩
      · rw [h] at hkz; simp at hkz
      · rcases HG.out with h | ⟨b2, off2, rfl, hb2, hc2⟩
        · rw [h] at hkz; simp at hkz
        · have e1 := hc1 k hkz
          have e2 := hc2 k hkz
          have hki : (k : Int) < (n : Int) := by omega
          clear hc1 hc2
          generalize zs[k] = x at *
          go_wp2_with fail
          go_region
          all_goals go_wp2_with fail
          all_goals
            go_roundw
            case rel => exact ⟨k + 1, m + 1, by omega, by go_num, rfl⟩
            case measure => simp [intOf]; omega
    · go_wp2_with fail
      go_ret
      exact ⟨rfl, m, rfl⟩

set_option maxHeartbeats 2000000 in
theorem lawRow (a : Option Addr) (len cap : Nat) (w : World) (h : Code8 w a len cap) :
    Calls Try.prog 4 #[.slice a len cap] w fun e w' => e = .returned (.bool true) ∧ Below w.heap.size w w' := by
  by_cases hbig : 1048576 < len
  · have hc := h.2.1
    have hc1 := h.1
    unfold maxLen at hc
    clear h
    go_enter Try.func4, Try.ntmps4
    go_wp2_with fail
    go_ret
    exact ⟨rfl, Below.refl _ _⟩
  · go_enter Try.func4, Try.ntmps4
    go_wp2_with fail
    refine (drawRowPut_any a len cap w h).mono ?_
    rintro e w1 ⟨⟨v, n, l, d, rfl, hown, hn, hz, hd0, hd1⟩, b1⟩
    have hlen := hown.len
    obtain ⟨ao, c, rfl, hOw⟩ := hown.owns
    have hI := hOw.ints
    clear hown hOw h
    have h64 : I64L l := fun z hz' => by have := hz z hz'; omega
    obtain ⟨T, hT⟩ : ∃ T, T = (⟨((Rp.put d l).map UInt8.ofNat).toArray⟩ : ByteArray) := ⟨_, rfl⟩
    have HS : Hid (∀ (w : World), Ints w ao l → Calls Try.prog 16 #[.slice ao n c, .int .i64 d] w fun e w' => e = .returned (.string T) ∧ Below w.heap.size w w') := by
      intro w hI; rw [hT]; exact spec_rowPut ao n c d l w hI hlen (by omega)
    have HM : Hid (∀ (w : World), Ints w ao l → Calls Try.prog 15 #[.slice ao n c, .int .i64 d] w fun e w' => e = .returned (.string T) ∧ Below w.heap.size w w') := by
      intro w hI; rw [hT]; exact impl_rowPut ao n c d l w hI hlen (by omega) h64
    clear h64 hz
    have HT : Hid (T = (⟨((Rp.put d l).map UInt8.ofNat).toArray⟩ : ByteArray)) := hT
    have HN : Hid (l.length = n) := hlen
    clear hT hlen
    go_wp2_with fail
    refine (HM.out w1 hI).mono ?_
    rintro e w2 ⟨rfl, b2⟩
    have hI2 := hI.kept b2
    have bel := b1.trans (b2.mono b1.size)
    clear hI b1 b2 HM
    go_wp2_with fail
    refine (HS.out w2 hI2).mono ?_
    rintro e w3 ⟨rfl, b3⟩
    have hI3 := hI2.kept b3
    have bel' := bel.trans (b3.mono bel.size)
    clear hI2 bel b3
    go_wp2_with fail
    · refine (HS.out w3 hI3).mono ?_
      rintro e w4 ⟨rfl, b4⟩
      go_wp2_with fail
      go_ret
      exact ⟨rfl, bel'.trans (b4.mono bel'.size)⟩
    · have hne : T.toList.isEmpty = false := by assumption
      have hfit : Rp.Fit d l := by
        rcases Classical.em (Rp.Fit d l) with g | g
        · exact g
        · have hT := HT.out
          rw [Rp.put_no g] at hT
          rw [hT] at hne
          exact absurd hne (by rw [empty_list]; decide)
      obtain ⟨hdp, hl1, hsm⟩ := hfit
      obtain ⟨D, rfl, hD1, hD32, hDD⟩ := Rw.dep_nat hdp
      rw [Int.toNat_natCast] at hsm
      have hR := row_of hDD hl1 hsm
      have hTT : T = textOf true (Rp.bl D l) := by
        rw [HT.out, Rp.put_yes ⟨hdp, hl1, by rw [Int.toNat_natCast]; exact hsm⟩, Int.toNat_natCast, text_same hR]
      have hth : Rw.There T.size (D : Int) (n : Int) := by rw [hTT, ← HN.out]; exact row_there hdp hl1 hR
      have hans : Rw.ans T (D : Int) (n : Int) = l := by
        rw [Rw.ans_yes hth, hTT, ← HN.out]; exact row_back hR hsm
      have hsz : (T.size : Int) = ((n : Int) * (D : Int) + 7) / 8 := hth.2.2.2
      obtain ⟨P, hP⟩ : ∃ P, P = n * D := ⟨_, rfl⟩
      have hPb : P ≤ 12 * 32 := by rw [hP]; exact Nat.mul_le_mul hn hD32
      have e1 : (n : Int) * (D : Int) = (P : Int) := by rw [hP]; simp
      rw [e1] at hsz
      have e2 : ((P : Int) + 7) / 8 = (T.size : Int) := hsz.symm
      have e3 : ((P : Int) + 7).tdiv 8 = (T.size : Int) := by rw [Int.tdiv_eq_ediv_of_nonneg (by omega)]; exact e2
      have hTb : T.size ≤ 1000 := by omega
      have HG : Hid (∀ w : World, Calls Try.prog 10 #[.string T, .int .i64 (D : Int), .int .i64 (n : Int)] w fun e w' => (∃ ao L cap, e = .returned (.tuple #[.slice ao L cap, .bool true]) ∧ l.length = L ∧ L ≤ cap ∧ Owns w' w.heap.size ao l) ∧ Below w.heap.size w w') := by
        intro w
        have := impl_rowGet T (D : Int) (n : Int) w (by omega)
        rw [hans, Rw.thereB_yes hth] at this
        exact this
      clear hsm hR hTT hth hans hDD hl1 hdp hP hsz hne HS
      go_wp2_with fail
      refine (HG.out _).mono ?_
      rintro e w4 ⟨⟨x, L, c4, rfl, hL, _, hO4⟩, b4⟩
      rw [HN.out] at hL
      subst hL
      have hI4 := hI3.kept b4
      have bel := bel'.trans (b4.mono bel'.size)
      have HE : Hid (Calls Try.prog 17 #[.slice x n c4, .slice ao n c] w4 fun e w' => e = .returned (.bool true) ∧ ∃ m, w' = w4.drewN m) := wiInts_same x c4 ao c n l w4 hO4.ints hI4 HN.out (by omega)
      clear hI3 b4 bel' hO4 hI4 HG
      go_wp2_with fail
      refine HE.out.mono ?_
      rintro e w5 ⟨rfl, m5, hw5⟩
      have b5 : Below w.heap.size w w5 := by rw [hw5]; exact below_drewN bel _
      clear hw5 bel
      go_wp2_with fail
      go_ret
      exact ⟨rfl, b5⟩
end Go.Proofs.Ytjikjjganloobaa
