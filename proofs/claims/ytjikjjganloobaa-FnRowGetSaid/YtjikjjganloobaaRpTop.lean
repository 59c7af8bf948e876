/- RowPut of the program, whatever is handed in. -/
import Derived.Test.YtjikjjganloobaaRpImpl
namespace Go.Proofs.Ytjikjjganloobaa
open Go.RowKit

set_option maxHeartbeats 2000000 in
set_option maxRecDepth 20000 in
theorem impl_rowPut_yes (a : Option Addr) (n cap D : Nat) (zs : List Int) (w : World) (h : Ints w a zs) (hn : zs.length = n) (hl : n ≤ 1000) (hd : depB (D : Int) = true) (hD32 : D ≤ 32) (h64 : I64L zs) (hsm : Rp.Small D zs) (hR : Rp.Row D zs) :
    Calls Try.prog 15 #[.slice a n cap, .int .i64 D] w fun e w' => e = .returned (textV (Bp.text true (Rp.bl D zs))) ∧ Below w.heap.size w w' := by
  have HDP : Hid (Calls Try.prog 30 #[.int .i64 (D : Int)] w fun e w' => e = .returned (.bool true) ∧ Below w.heap.size w w') := by
    have := depthOk_any (D : Int) w; rw [hd] at this; exact this
  have HNF : Hid (∀ w', Ints w' a zs → Calls Try.prog 38 #[.slice a n cap, .int .i64 D] w' fun e w'' => e = .returned (.bool true) ∧ w'' = w') := by
    intro w' hI
    have := numbersFit_any a n cap D zs w' hI hn (by omega) hD32 h64
    rw [smallB_yes hsm] at this; exact this
  have HI : Hid (Ints w a zs) := h
  have HN : Hid (zs.length = n) := hn
  have HR : Hid (Rp.Row D zs) := hR
  have HS : Hid (Rp.Small D zs) := hsm
  have hzg : n ≤ zs.length := by omega
  have d1 : decide ((1000 : Int) < (n : Int)) = false := by simp; omega
  have HK : Hid (∀ k, k < n → k * D + D ≤ 72000) := by
    intro k hk
    have h1 : (k + 1) * D ≤ 1000 * 32 := Nat.mul_le_mul (by omega) hD32
    rw [Nat.add_mul, Nat.one_mul] at h1
    omega
  have HPW : Hid (2 ^ D ≤ 4294967296) := Nat.le_trans (Nat.pow_le_pow_right (by omega) hD32) (by decide)
  clear h hn h64 hsm hR hd
  go_enter Try.func15, Try.ntmps15
  go_wp2_with fail
  refine HDP.out.mono ?_
  rintro e w1 ⟨rfl, b1⟩
  clear HDP
  have HI1 : Hid (Ints w1 a zs) := HI.out.kept b1
  go_wp2_with fail
  refine (HNF.out _ HI1.out).mono ?_
  rintro e w2 ⟨rfl, hw2⟩
  subst hw2
  clear HNF
  go_wp2_with fail
  refine (orderOf_high _).mono ?_
  rintro e w3 ⟨rfl, hw3⟩
  subst hw3
  have HW0 : Hid (Writes (w3.alloc (.cells #[(.func (.func 50) #[] #[]), .slice none 0 0, .int .i64 0] 57)) w3.heap.size true (Bp.fOf true (Rp.bl D zs)) 0) := writes_new w3 true _ _
  go_wp2_with fail
  go_loopw [29] (fun i wr => ∃ k : Nat, k ≤ n ∧ i = .int .i64 k ∧ Writes wr w3.heap.size true (Bp.fOf true (Rp.bl D zs)) (k * D) ∧ Below w3.heap.size w3 wr) (fun i _ => n - (intOf i).toNat)
  case atStart => exact ⟨0, Nat.zero_le _, rfl, by rw [Nat.zero_mul]; exact HW0.out, (Below.refl _ _).alloc (Nat.le_refl _) _⟩
  case round =>
    obtain ⟨k, hk, rfl, hWr, hbel⟩ := hrel
    clear HW0
    by_cases hlt : k < n
    · have hkz : k < zs.length := by omega
      rcases HI1.out with h | ⟨b, off, rfl, hbB, hc⟩
      · rw [h] at hkz; simp at hkz
      · have hck := (hbel.cell (p := ⟨b, off + k, none⟩) hbB).trans (hc k hkz)
        have hki : (k : Int) < (n : Int) := by omega
        have hsk := HS.out zs[k] (List.getElem_mem hkz)
        have hbits := HR.out.bits k hkz
        clear hc
        generalize zs[k] = x at *
        obtain ⟨V, rfl⟩ := Int.eq_ofNat_of_zero_le hsk.1
        rw [Int.toNat_natCast] at hbits
        have HV : Hid (V < 4294967296) := Nat.lt_of_lt_of_le hsk.2 HPW.out
        have HMV : Hid (Calls Try.prog 33 #[.iface 55 (.pointer (some ⟨w3.heap.size, 0, none⟩)), (.func (.func 50) #[] #[]), .int .i64 V, .int .i64 D] wr fun e w'' => (∃ z, e = .returned (.tuple #[.int .i64 z, .bool true])) ∧ Writes w'' w3.heap.size true (Bp.fOf true (Rp.bl D zs)) (k * D + D) ∧ Below w3.heap.size wr w'') :=
          wmove_any true w3.heap.size (k * D) V D _ wr hWr (HK.out k hlt) hD32 HV.out (Bp.fOf_lt true _) hbits
        clear hWr hbits hsk
        go_wp2_with fail
        refine HMV.out.mono ?_
        rintro e w4 ⟨⟨z, rfl⟩, hW4, b4⟩
        have HW4 : Hid (Writes w4 w3.heap.size true (Bp.fOf true (Rp.bl D zs)) (k * D + D)) := hW4
        have hb4 := hbel.trans b4
        clear hW4 b4 hbel HMV hck
        go_wp2_with fail
        go_roundw
        case rel => exact ⟨k + 1, by omega, by go_num, by rw [Nat.add_mul, Nat.one_mul]; exact HW4.out, hb4⟩
        case measure => simp [intOf]; omega
    · have hk' : k = zs.length := by have := HN.out; omega
      have HAN : Hid (Bp.pack true (Bp.fOf true (Rp.bl D zs)) (k * D) = Bp.text true (Rp.bl D zs)) := by
        show _ = _; unfold Bp.text; rw [HR.out.tot, hk']
      obtain ⟨_, ⟨v, L, k1, hown, hLL⟩, _, _, _, _⟩ := hWr
      obtain ⟨cap', ao, rfl, htx⟩ := hown.text
      rw [HAN.out] at htx
      have hlt' : ¬ (k : Int) < (n : Int) := by omega
      clear hown hk' hLL
      go_wp2_with fail
      go_ret
      exact ⟨rfl, b1.trans (hbel.mono b1.size)⟩

set_option maxHeartbeats 1000000 in
theorem impl_rowPut (a : Option Addr) (n cap : Nat) (d : Int) (zs : List Int) (w : World) (h : Ints w a zs) (hn : zs.length = n) (hl : n ≤ 1048576) (h64 : I64L zs) :
    Calls Try.prog 15 #[.slice a n cap, .int .i64 d] w fun e w' => e = .returned (textV (Rp.put d zs)) ∧ Below w.heap.size w w' := by
  have HB := depthOk_any d w
  by_cases hd : depB d = true
  · rw [hd] at HB
    have HDP : Hid (Calls Try.prog 30 #[.int .i64 d] w fun e w' => e = .returned (.bool true) ∧ Below w.heap.size w w') := HB
    clear HB
    by_cases hbig : 1000 < n
    · have HT : Hid (Rp.put d zs = []) := Rp.put_no (fun g => by have := g.2.1; omega)
      have d1 : decide ((1000 : Int) < (n : Int)) = true := by simp; omega
      clear h
      go_enter Try.func15, Try.ntmps15
      go_wp2_with fail
      refine HDP.out.mono ?_
      rintro e w1 ⟨rfl, b1⟩
      go_wp2_with fail
      go_ret
      exact ⟨by rw [HT.out]; rfl, b1⟩
    · obtain ⟨D, rfl, hD1, hD32, hDD⟩ := Rw.dep_nat hd
      have hn1 : n ≤ 1000 := by omega
      by_cases hsm : Rp.Small D zs
      · have HT : Rp.put (D : Int) zs = Bp.text true (Rp.bl D zs) := Rp.put_yes ⟨hd, by omega, by rw [Int.toNat_natCast]; exact hsm⟩
        rw [HT]
        refine impl_rowPut_yes a n cap D zs w h hn hn1 hd hD32 h64 hsm ?_
        rcases hDD with g | g
        · exact Rp.row_small D zs g (by omega) hsm
        · subst g; exact Rp.row_32 zs (by omega) hsm
      · have HT : Hid (Rp.put (D : Int) zs = []) := Rp.put_no (fun g => hsm (by have := g.2.2; rw [Int.toNat_natCast] at this; exact this))
        have d1 : decide ((1000 : Int) < (n : Int)) = false := by simp; omega
        have HNF : Hid (∀ w', Ints w' a zs → Calls Try.prog 38 #[.slice a n cap, .int .i64 D] w' fun e w'' => e = .returned (.bool false) ∧ w'' = w') := by
          intro w' hI
          have := numbersFit_any a n cap D zs w' hI hn (by omega) hD32 h64
          rw [smallB_no hsm] at this; exact this
        have HI : Hid (Ints w a zs) := h
        clear h hn h64 hsm hbig hDD
        go_enter Try.func15, Try.ntmps15
        go_wp2_with fail
        refine HDP.out.mono ?_
        rintro e w1 ⟨rfl, b1⟩
        go_wp2_with fail
        refine (HNF.out _ (HI.out.kept b1)).mono ?_
        rintro e w2 ⟨rfl, hw2⟩
        subst hw2
        go_wp2_with fail
        go_ret
        exact ⟨by rw [HT.out]; rfl, b1⟩
  · have hd' : depB d = false := by simpa using hd
    rw [hd'] at HB
    have HDP : Hid (Calls Try.prog 30 #[.int .i64 d] w fun e w' => e = .returned (.bool false) ∧ Below w.heap.size w w') := HB
    have HT : Hid (Rp.put d zs = []) := Rp.put_no (fun g => hd g.1)
    clear hd hd' HB h
    go_enter Try.func15, Try.ntmps15
    go_wp2_with fail
    refine HDP.out.mono ?_
    rintro e w1 ⟨rfl, b1⟩
    go_wp2_with fail
    go_ret
    exact ⟨by rw [HT.out]; rfl, b1⟩
end Go.Proofs.Ytjikjjganloobaa
