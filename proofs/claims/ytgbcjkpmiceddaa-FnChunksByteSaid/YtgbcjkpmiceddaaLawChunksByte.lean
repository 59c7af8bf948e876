/- The law of a piece of which a bit is turned, walked. -/
import Derived.Test.YtgbcjkpmiceddaaLawChunks
import Derived.Test.YtgbcjkpmiceddaaBitBent
import Derived.Test.YtgbcjkpmiceddaaConvWalks
import Derived.Deep.RegionHeld3
namespace Go.Proofs.Ytgbcjkpmiceddaa
open Go.RowKit

set_option maxHeartbeats 4000000 in
set_option maxRecDepth 20000 in
theorem lawChunksByte (a : Option Addr) (len cap : Nat) (b : Option Addr) (len2 cap2 : Nat) (w : World) (h : Code8 w a len cap) (_h' : Code8 w b len2 cap2) :
    Calls Try.prog 4 #[.slice a len cap, .slice b len2 cap2] w fun e w' => e = .returned (.bool true) ∧ Below w.heap.size w w' := by
  by_cases hbig : 1048576 < len
  · have d0 : decide ((len : Int) > 1048576) = true := by simp; omega
    clear h
    go_enter Try.func4, Try.ntmps4
    go_wp2_with fail
    go_ret
    exact ⟨rfl, Below.refl _ _⟩
  have d0 : decide ((len : Int) > 1048576) = false := by simp; omega
  by_cases hbig2 : 1048576 < len2
  · have d1 : decide ((len2 : Int) > 1048576) = true := by simp; omega
    clear h
    go_enter Try.func4, Try.ntmps4
    go_wp2_with fail
    go_ret
    exact ⟨rfl, Below.refl _ _⟩
  have d1 : decide ((len2 : Int) > 1048576) = false := by simp; omega
  have HD : Hid (Calls Try.prog 10 #[.slice a len cap] w (PutDrawn w)) := drawChunksPut_any a len cap w h
  clear h _h'
  go_enter Try.func4, Try.ntmps4
  go_wp2_with fail
  refine HD.out.mono ?_
  rintro e w1 ⟨d, ao, cp, rfl, hdl, hds, hc, b1⟩
  have HC1 : Hid (Chs2 w1 ao d) := hc
  have HDS : Hid (∀ p ∈ d, p.1.size ≤ 1048576 ∧ p.2.size ≤ 1048576) := fun p hp => by have := hds p hp; omega
  have HB1 : Hid (Below w.heap.size w w1) := b1
  clear HD b1 d0 d1 hc hds
  obtain ⟨S, hS⟩ : ∃ S, S = (⟨(Ch.ans d).toArray⟩ : ByteArray) := ⟨_, rfl⟩
  have hSz : S.size ≤ 9000 := by rw [hS]; exact chAns_size d
  have HSE : Hid (S = (⟨(Ch.ans d).toArray⟩ : ByteArray)) := hS
  have HIP : Hid (∀ w : World, Chs2 w ao d → Calls Try.prog 9 #[.slice ao d.length cp] w fun e w' => e = .returned (.string S) ∧ Below w.heap.size w w') := fun w hw => by rw [hS]; exact impl_chunksPut ao d.length cp d w hw rfl (by omega) HDS.out
  have HSPT : Hid (∀ w : World, Chs2 w ao d → Calls Try.prog 11 #[.slice ao d.length cp] w fun e w' => e = .returned (.string S) ∧ Below w.heap.size w w') := fun w hw => by rw [hS]; exact spec_chunksPut ao d.length cp d w hw rfl (by omega) HDS.out
  clear hS HDS
  go_wp2_with fail
  refine (HIP.out _ HC1.out).mono ?_
  rintro e w2 ⟨rfl, b2⟩
  have HC2 : Hid (Chs2 w2 ao d) := HC1.out.kept b2
  have HB2 : Hid (Below w.heap.size w w2) := HB1.out.trans (b2.mono HB1.out.size)
  clear b2 HC1 HB1 HIP
  go_wp2_with fail
  refine (HSPT.out _ HC2.out).mono ?_
  rintro e w3 ⟨rfl, b3⟩
  have HC3 : Hid (Chs2 w3 ao d) := HC2.out.kept b3
  have HB3 : Hid (Below w.heap.size w w3) := HB2.out.trans (b3.mono HB2.out.size)
  clear b3 HC2 HB2
  by_cases h13 : S.size < 13
  · have h13i : (S.size : Int) < 13 := by omega
    have d13 : decide ((S.size : Int) < 13) = true := decide_eq_true h13i
    go_wp2_with fail
    refine (HSPT.out _ HC3.out).mono ?_
    rintro e w4 ⟨rfl, b4⟩
    have HB4 : Hid (Below w.heap.size w w4) := HB3.out.trans (b4.mono HB3.out.size)
    clear b4 HC3 HB3 HSPT
    go_wp2_with fail
    go_ret
    exact ⟨rfl, HB4.out⟩
  have h13i : ¬ (S.size : Int) < 13 := by omega
  have d13 : decide ((S.size : Int) < 13) = false := decide_eq_false h13i
  by_cases h1 : d.length = 1
  rotate_left
  · have h1i : ((d.length : Int) != 1) = true := by rw [bne_iff_ne]; omega
    have h1j : ¬ (d.length : Int) = 1 := by omega
    go_wp2_with fail
    refine (HSPT.out _ HC3.out).mono ?_
    rintro e w4 ⟨rfl, b4⟩
    have HB4 : Hid (Below w.heap.size w w4) := HB3.out.trans (b4.mono HB3.out.size)
    clear b4 HC3 HB3 HSPT
    go_wp2_with fail
    go_ret
    exact ⟨rfl, HB4.out⟩
  obtain ⟨p, hp⟩ : ∃ p, d = [p] := by
    match d, h1 with
    | [p], _ => exact ⟨p, rfl⟩
  have hok : Ch.ok 8 d = true := by
    by_cases h : Ch.ok 8 d = true
    · exact h
    · exfalso
      have := HSE.out
      rw [Cg.put_no h] at this
      rw [this] at h13
      simp [ByteArray.size] at h13
  have HOK : Hid (Ch.ok 8 [p] = true ∧ S.data.toList = Ch.out [p]) := by
    rw [hp] at hok
    refine ⟨hok, ?_⟩
    rw [HSE.out, hp]
    show Ch.ans [p] = _
    unfold Ch.ans
    rw [if_pos hok]
  have h1i : (d.length : Int) = 1 := by omega
  clear hp hok HSE HSPT HC3
  obtain ⟨cp5, w5, hcv, hcl, belc, hsz5⟩ := conv_bytes S w3
  obtain ⟨D, hD⟩ : ∃ D, D = S.size - 12 := ⟨_, rfl⟩
  have eD : (S.size : Int) - 12 = (D : Int) := by omega
  have hD0 : 0 < D := by omega
  have hD0i : (0 : Int) < (D : Int) := by omega
  obtain ⟨R, hR⟩ : ∃ R, R = len2 % D := ⟨_, rfl⟩
  have hRD : R < D := by rw [hR]; exact Nat.mod_lt _ hD0
  have hRi : (len2 : Int) % (D : Int) = (R : Int) := by rw [hR]; rfl
  obtain ⟨K, hK⟩ : ∃ K, K = 12 + R := ⟨_, rfl⟩
  have hKi : 12 + (R : Int) = (K : Int) := by omega
  have hKs : K < S.size := by omega
  have hK12 : 12 ≤ K := by omega
  obtain ⟨E, hE⟩ : ∃ E, E = len % 8 := ⟨_, rfl⟩
  have hEi : (len : Int) % 8 = (E : Int) := by omega
  have hE8 : E < 8 := by omega
  have HPW : Hid (∀ w, Calls Try.prog 12 #[.int .i64 E] w fun e w' => e = .returned (.int .i64 ((2 ^ E : Nat) : Int)) ∧ w' = w) := fun w => wiPow_any E w (by omega)
  have hbyte := UInt8.toNat_lt S[K]
  obtain ⟨ht1, ht2⟩ := turned (S[K]).toNat E hbyte hE8
  have hpw : 2 ^ E ≤ 2 ^ 7 := Nat.pow_le_pow_right (by omega) (by omega)
  obtain ⟨Pw, hPw⟩ : ∃ Pw, Pw = 2 ^ E := ⟨_, rfl⟩
  rw [← hPw] at HPW ht1 ht2 hpw
  obtain ⟨v, hv⟩ : ∃ v, v = (S[K]).toNat ^^^ Pw := ⟨_, rfl⟩
  have HX : Hid (bits .xor .u8 ((S[K]).toNat : Int) (IntKind.u8.wrap (Pw : Int)) = (v : Int)) := by
    show _ = _
    rw [IntKind.wrap_u8', show (Pw : Int) % 256 = (Pw : Int) from by omega, u8_xor_nat _ _ hbyte (by omega), hv]
  rw [← hv] at ht1 ht2
  have HEt : Hid (((len : Int)).tmod 8 = (E : Int)) := by show _ = _; rw [Int.tmod_eq_emod_of_nonneg (by omega)]; exact hEi
  obtain ⟨l, hl⟩ : ∃ l, l = S.data.toList.set K (UInt8.ofNat v) := ⟨_, rfl⟩
  have hlen : l.length = S.size := by rw [hl]; simp
  have hll : (ByteArray.mk l.toArray).size = S.size := by show l.toArray.size = _; simp [hlen]
  have HNO : Hid (∀ w : World, Calls Try.prog 6 #[.string ⟨l.toArray⟩] w fun e w' => ∃ v, e = .returned (.tuple #[v, .bool false]) ∧ Below w.heap.size w w') := fun w => by
    have hn : Cg.ans ⟨l.toArray⟩ = none := by
      refine Cg.bent (p := p) (k := K) (c := UInt8.ofNat v) HOK.out.1 hK12 (by rw [← HOK.out.2, bytes_len]; exact hKs) ?_ (by show l = _; rw [hl, HOK.out.2])
      rw [UInt8.toNat_ofNat_of_lt' (by simpa using ht1), ← HOK.out.2]
      have := byteAt_eq S K hKs
      unfold byteAt at this
      rw [← this]
      exact ht2
    refine (impl_chunksGet ⟨l.toArray⟩ w (by omega)).mono ?_
    rintro e w' ⟨ao, cp, h1, -, h3⟩
    rw [(Cg.ansL_no hn).2] at h1
    exact ⟨_, h1, h3⟩
  clear hD hR hK hE hPw hv
  obtain ⟨hck, hfk⟩ := hcl K hKs
  have HSZ : Hid (w5.heap.size = w3.heap.size + 1) := hsz5
  have HCL : Hid (∀ i (h : i < S.size), w5.cell? ⟨w3.heap.size, i, none⟩ = some (.int .u8 ((S[i]).toNat : Int)) ∧ w5.frozen? ⟨w3.heap.size, i, none⟩ = false) := hcl
  have HBC : Hid (Below w3.heap.size w3 w5) := belc
  clear hsz5 hcl belc
  go_wp2_with fail
  try rw [hKi]
  have hKi2 : (K : Int) < (S.size : Int) := by omega
  clear hcv
  go_region_with (go_at_call 12; rw [HEt.out]; refine (HPW.out _).mono ?_; rintro e w7 ⟨rfl, rfl⟩)
  all_goals rw [HX.out]
  all_goals
    have hcell8 := bent S w5 w3.heap.size K v hKs ht1 HCL.out
    rw [← hl] at hcell8
    have HB8 : Hid (Below w.heap.size w (w5.setCell ⟨w3.heap.size, K, none⟩ (.int .u8 (v : Int))).drew) := ((HB3.out.trans (HBC.out.mono HB3.out.size)).setCell (p := ⟨w3.heap.size, K, none⟩) HB3.out.size _).drew
    generalize (w5.setCell ⟨w3.heap.size, K, none⟩ (.int .u8 (v : Int))).drew = W8 at *
    have htx := text_back W8 w3.heap.size cp5 S.size l hlen hcell8
    clear hcell8 hl hlen hck hfk HCL HSZ HBC HB3 hll
    go_wp2_with fail
    refine (HNO.out _).mono ?_
    rintro e w9 ⟨u, rfl, b9⟩
    have HB9 : Hid (Below w.heap.size w w9) := HB8.out.trans (b9.mono HB8.out.size)
    clear b9 HB8 htx HNO
    go_wp2_with fail
    go_ret
    exact ⟨rfl, HB9.out⟩
end Go.Proofs.Ytgbcjkpmiceddaa
