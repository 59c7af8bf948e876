/- The law on packets: what was packed comes out just as it went in. -/
import Derived.Test.YtmcjdilmmabiaaaDrawRunPut
import Derived.Test.YtmcjdilmmabiaaaExRunPut
import Derived.Test.YtmcjdilmmabiaaaRgTop
import Derived.Test.YtmcjdilmmabiaaaRgBack
import Derived.Test.YtmcjdilmmabiaaaWiInts
namespace Go.Proofs.Ytmcjdilmmabiaaa
open Go.RowKit

theorem run_empty : (ByteArray.mk ([] : List UInt8).toArray).toList.isEmpty = true := by decide +kernel

set_option maxHeartbeats 4000000 in
set_option maxRecDepth 20000 in
theorem lawRun (a : Option Addr) (len cap : Nat) (w : World) (h : Code8 w a len cap) :
    Calls Try.prog 5 #[.slice a len cap] w fun e w' => e = .returned (.bool true) ∧ Below w.heap.size w w' := by
  by_cases hbig : 1048576 < len
  · have hc := h.2.1
    have hc1 := h.1
    unfold maxLen at hc
    clear h
    go_enter Try.func5, Try.ntmps5
    go_wp2_with fail
    go_ret
    exact ⟨rfl, Below.refl _ _⟩
  · go_enter Try.func5, Try.ntmps5
    go_wp2_with fail
    refine (drawRunPut_any a len cap w h).mono ?_
    rintro e w1 ⟨⟨ao, n, c, l, sz, rfl, hI, hlen, hn, hnc, hz0, hz5⟩, b1⟩
    clear h
    obtain ⟨T, hT⟩ : ∃ T, T = (⟨(Rt.ans sz l).toArray⟩ : ByteArray) := ⟨_, rfl⟩
    have HS : Hid (∀ (w : World), Ints w ao l → Calls Try.prog 15 #[.slice ao n c, .int .i64 sz] w fun e w' => e = .returned (.string T) ∧ Below w.heap.size w w') := by
      intro w hI; rw [hT]; exact spec_runPut ao n c sz l w hI hlen (by omega)
    have HM : Hid (∀ (w : World), Ints w ao l → Calls Try.prog 14 #[.slice ao n c, .int .i64 sz] w fun e w' => e = .returned (.string T) ∧ Below w.heap.size w w') := by
      intro w hI; rw [hT]; exact impl_runPut ao n c sz l w hI hlen (by omega) hnc
    have hTb : T.size ≤ 2000 := by
      have hsz : T.size = (Rt.ans sz l).length := by rw [hT]; simp [ByteArray.size]
      rw [hsz]
      unfold Rt.ans
      split
      · next hy =>
        unfold Rt.yes at hy
        simp only [Bool.and_eq_true, decide_eq_true_eq] at hy
        obtain ⟨⟨⟨h1, h4⟩, _⟩, _⟩ := hy
        have := Rt.all_short (S := sz.toNat) (l := l) (by omega)
        have hP : sz.toNat * l.length ≤ 4 * 400 := Nat.mul_le_mul (by omega) (by omega)
        omega
      · simp
    have HT : Hid (T = (⟨(Rt.ans sz l).toArray⟩ : ByteArray)) := hT
    have HN : Hid (l.length = n) := hlen
    clear hT hlen
    go_wp2_with fail
    refine (HM.out w1 hI).mono ?_
    rintro e w2 ⟨rfl, b2⟩
    have hI2 := hI.kept b2
    have bel := b1.trans (b2.mono b1.size)
    clear hI b1 b2 HM
    go_wp2_with fail
    refine (HS.out w2 hI2).mono ?_
    rintro e w3 ⟨rfl, b3⟩
    have hI3 := hI2.kept b3
    have bel' := bel.trans (b3.mono bel.size)
    clear hI2 bel b3
    go_wp2_with fail
    · refine (HS.out w3 hI3).mono ?_
      rintro e w4 ⟨rfl, b4⟩
      go_wp2_with fail
      go_ret
      exact ⟨rfl, bel'.trans (b4.mono bel'.size)⟩
    · have hne : T.toList.isEmpty = false := by assumption
      have hyes : Rt.yes sz l = true := by
        rcases hy : Rt.yes sz l with _ | _
        · have hT := HT.out
          unfold Rt.ans at hT
          rw [hy] at hT
          rw [hT] at hne
          exact absurd hne (by rw [if_neg (by decide), run_empty]; decide)
        · rfl
      have hans : Rt.ans sz l = Rt.all sz.toNat l := by unfold Rt.ans; rw [hyes]; rfl
      unfold Rt.yes at hyes
      simp only [Bool.and_eq_true, decide_eq_true_eq] at hyes
      obtain ⟨⟨⟨h1, h4⟩, h2⟩, hf⟩ := hyes
      obtain ⟨S, rfl⟩ := Int.eq_ofNat_of_zero_le hz0
      rw [Int.toNat_natCast] at hans hf
      have hshort := Rt.all_short (S := S) (l := l) (by omega)
      have hTs : T.size = (Rt.all S l).length := by rw [HT.out, hans]; simp [ByteArray.size]
      rw [← hTs, HN.out] at hshort
      obtain ⟨P, hP⟩ : ∃ P, P = S * n := ⟨_, rfl⟩
      have hPb : P ≤ 4 * 400 := by rw [hP]; exact Nat.mul_le_mul (by omega) hn
      have e1 : (S : Int) * (n : Int) = (P : Int) := by rw [hP]; simp
      rw [← hP] at hshort
      obtain ⟨Q1, hQ1⟩ : ∃ Q1 : Nat, Q1 = (n + 127) / 128 := ⟨_, rfl⟩
      obtain ⟨Q2, hQ2⟩ : ∃ Q2 : Nat, Q2 = n / 2 := ⟨_, rfl⟩
      have e2 : ((n : Int) + 127) / 128 = (Q1 : Int) := by omega
      have e2t : ((n : Int) + 127).tdiv 128 = (Q1 : Int) := by rw [Int.tdiv_eq_ediv_of_nonneg (by omega)]; exact e2
      have e3 : (n : Int) / 2 = (Q2 : Int) := by omega
      have e3t : (n : Int).tdiv 2 = (Q2 : Int) := by rw [Int.tdiv_eq_ediv_of_nonneg (by omega)]; exact e3
      have hle : (T.size : Int) ≤ (P : Int) + (Q1 : Int) + (Q2 : Int) := by omega
      obtain ⟨X, hX⟩ : ∃ X : ByteArray, X = ⟨#[97, 104, 101, 97, 100]⟩ ++ T ++ ⟨#[98, 101, 104, 105, 110, 100]⟩ := ⟨_, rfl⟩
      have hXl : X.data.toList = [97, 104, 101, 97, 100] ++ Rt.all S l ++ [98, 101, 104, 105, 110, 100] := by rw [hX, HT.out, hans]; simp
      have hXs : X.size = 5 + T.size + 6 := by
        have := size_mid hXl
        rw [this, hTs]; rfl
      have hget := Rt.all_back (t := X) (S := S) (l := l) (by omega) hf hXl
      have hval : Rg.Valid X 5 S n := by unfold Rg.Valid; omega
      have hres : Rg.res X 5 S n = some (l, 5 + T.size) := by
        rw [Rg.res_ok hval, Int.toNat_natCast, Int.toNat_natCast, show (5 : Int).toNat = 5 from rfl, hTs, ← HN.out]; exact hget
      obtain ⟨rL, rE, rB⟩ := Rg.ans_some hres
      have HG : Hid (∀ w : World, Calls Try.prog 16 #[.string X, .int .i64 5, .int .i64 (S : Int), .int .i64 (n : Int)] w fun e w' => (∃ ao cap, e = .returned (.tuple #[.slice ao n cap, .int .i64 ((5 + T.size : Nat) : Int), .bool true]) ∧ Owns w' w.heap.size ao l) ∧ Below w.heap.size w w') := fun w => by
        have := impl_runGet X 5 S n w (by omega)
        unfold RgOwn at this
        rw [rL, rE, rB, HN.out] at this
        exact this
      rw [hX] at HG
      have e5 : ((5 + T.size : Nat) : Int) = 5 + (T.size : Int) := by omega
      rw [e5] at HG
      clear hX hXl hXs hget hval hres rL rE rB hne hans hf hTs hP hQ1 hQ2 HS hshort e5
      refine (HG.out _).mono ?_
      rintro e w4 ⟨⟨x, c4, rfl, hO4⟩, b4⟩
      have hI4 := hI3.kept b4
      have bel := bel'.trans (b4.mono bel'.size)
      have HE : Hid (Calls Try.prog 17 #[.slice x n c4, .slice ao n c] w4 fun e w' => e = .returned (.bool true) ∧ ∃ m, w' = w4.drewN m) := wiInts_same x c4 ao c n l w4 hO4.ints hI4 HN.out (by omega)
      clear hI3 b4 bel' hO4 hI4 HG
      go_wp2_with fail
      refine HE.out.mono ?_
      rintro e w5 ⟨rfl, m5, hw5⟩
      have b5 : Below w.heap.size w w5 := by rw [hw5]; exact below_drewN bel _
      clear hw5 bel
      go_wp2_with fail
      go_ret
      exact ⟨rfl, b5⟩
end Go.Proofs.Ytmcjdilmmabiaaa
