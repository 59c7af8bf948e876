/- RowPut of the specification, for every list and depth. -/
import Derived.Test.YtjikjjganloobaaRpSpec
import Derived.Test.YtjikjjganloobaaRwMath
import Derived.Test.YtjikjjganloobaaRwSpec
namespace Go.Proofs.Ytjikjjganloobaa
open Go.RowKit

theorem small_not {D : Nat} {zs : List Int} {k : Nat} (hk : k < zs.length) (h : ¬ (0 ≤ zs[k] ∧ zs[k] < ((2 ^ D : Nat) : Int))) : ¬ Rp.Small D zs := by
  intro g
  have := g zs[k] (List.getElem_mem hk)
  apply h
  refine ⟨this.1, ?_⟩
  have := this.2
  omega

/-- a text of bytes -/
def textV (o : List Nat) : Value := .string ⟨(o.map UInt8.ofNat).toArray⟩

set_option maxHeartbeats 1000000 in
theorem spec_rowPut (a : Option Addr) (n cap : Nat) (d : Int) (zs : List Int) (w : World) (h : Ints w a zs) (hn : zs.length = n) (hl : n ≤ 1048576) :
    Calls Try.prog 16 #[.slice a n cap, .int .i64 d] w fun e w' => e = .returned (textV (Rp.put d zs)) ∧ Below w.heap.size w w' := by
  have HB := l8Bits_any d w
  by_cases hd : depB d = true
  · rw [hd] at HB
    have HBB : Hid (Calls Try.prog 26 #[.int .i64 d] w fun e w' => e = .returned (.bool true) ∧ w' = w) := HB
    clear HB
    by_cases hbig : 1000 < n
    · have HT : Hid (Rp.put d zs = []) := Rp.put_no (fun g => by have := g.2.1; omega)
      clear h
      go_enter Try.func16, Try.ntmps16
      go_wp2_with fail
      refine HBB.out.mono ?_
      rintro e w1 ⟨rfl, hw1⟩
      subst hw1
      go_wp2_with fail
      go_ret
      exact ⟨by rw [HT.out]; rfl, Below.refl _ _⟩
    · obtain ⟨D, rfl, hD1, hD32, hDD⟩ := Rw.dep_nat hd
      have hn1 : n ≤ 1000 := by omega
      have HI : Hid (Ints w a zs) := h
      have HN : Hid (zs.length = n) := hn
      have HDD : Hid (D ≤ 24 ∨ D = 32) := hDD
      have HDP : Hid (depB (D : Int) = true) := hd
      have hzg : n ≤ zs.length := by omega
      obtain ⟨Q, hQ⟩ : ∃ Q, Q = 2 ^ D := ⟨_, rfl⟩
      have hQ0 : 0 < Q := by rw [hQ]; exact Nat.pow_pos (by omega)
      have hQb : Q ≤ 4294967296 := by rw [hQ]; exact Nat.le_trans (Nat.pow_le_pow_right (by omega) hD32) (by decide)
      have HQ : Hid (Q = 2 ^ D) := hQ
      obtain ⟨P, hP⟩ : ∃ P, P + 1 = Q := ⟨Q - 1, by omega⟩
      have HP : Hid (∀ w : World, Calls Try.prog 37 #[.int .i64 (D : Int)] w fun e w' => e = .returned (.int .i64 (Q : Int)) ∧ w' = w) := by
        intro w
        have := l1Pow_any D w (by omega)
        rw [← hQ] at this
        exact this
      have hw : IntKind.i64.wrap ((Q : Int) - 1) = (P : Int) := by rw [show (Q : Int) - 1 = (P : Int) by omega]; exact wrap_i64_nat P (by omega)
      have hpb : P < 4294967296 := by omega
      have HPQ : Hid (P + 1 = Q) := hP
      clear hQ hP h hn hDD hd hbig
      go_enter Try.func16, Try.ntmps16
      go_wp2_with fail
      refine HBB.out.mono ?_
      rintro e w1 ⟨rfl, hw1⟩
      subst hw1
      clear HBB
      go_wp2_with fail
      go_loopw [5] (fun i wr => ∃ k : Nat, k ≤ n ∧ i = .int .i64 k ∧ (∀ j (hj : j < zs.length), j < k → 0 ≤ zs[j] ∧ zs[j] < (Q : Int)) ∧ Below w1.heap.size w1 wr) (fun i _ => n - (intOf i).toNat)
      case atStart => exact ⟨0, Nat.zero_le _, rfl, fun j hj h0 => absurd h0 (by omega), Below.refl _ _⟩
      case round =>
        obtain ⟨k, hk, rfl, hall, hbel⟩ := hrel
        have HA : Hid (∀ j (hj : j < zs.length), j < k → 0 ≤ zs[j] ∧ zs[j] < (Q : Int)) := hall
        clear hall
        by_cases hlt : k < n
        · have hkz : k < zs.length := by omega
          rcases HI.out with h | ⟨b, off, rfl, hbB, hc⟩
          · rw [h] at hkz; simp at hkz
          · have hck := (hbel.cell (p := ⟨b, off + k, none⟩) hbB).trans (hc k hkz)
            have hki : (k : Int) < (n : Int) := by omega
            clear hc
            obtain ⟨x, hx⟩ : ∃ x, x = zs[k] := ⟨_, rfl⟩
            rw [← hx] at hck
            have HX : Hid (x = zs[k]) := hx
            clear hx
            by_cases he : 0 ≤ x ∧ x < (Q : Int)
            · have HE : Hid (0 ≤ x ∧ x < (Q : Int)) := he
              have he1 := he.1
              have he2 : x ≤ (P : Int) := by have := HPQ.out; omega
              clear he
              go_wp2_with fail
              go_region_held3 (fun w' => w'.cell? ⟨b, off + k, none⟩ = some (.int .i64 x)) (go_keep) (first | (go_at_call 27; refine (l1In_yes _ _ _ _ he1 he2).mono ?_; rintro e w' ⟨rfl, rfl⟩) | (go_at_call 37; refine (HP.out _).mono ?_; rintro e w' ⟨rfl, rfl⟩))
              all_goals
                go_wp2_with fail
                go_roundw
                case rel =>
                  refine ⟨k + 1, by omega, by go_num, fun j hj h1 => ?_, hbel.drew⟩
                  by_cases e : j < k
                  · exact HA.out j hj e
                  · have : j = k := by omega
                    subst this
                    rw [← HX.out]; exact HE.out
                case measure => simp [intOf]; omega
            · have HT : Hid (Rp.put (D : Int) zs = []) := Rp.put_no (fun g => by
                refine small_not (D := D) hkz ?_ ?_
                · rw [← HX.out, ← HQ.out]; exact he
                · have := g.2.2; rw [Int.toNat_natCast] at this; exact this)
              have he2 : ¬ (0 ≤ x ∧ x ≤ (P : Int)) := by have := HPQ.out; omega
              clear he
              go_wp2_with fail
              go_region_held3 (fun w' => w'.cell? ⟨b, off + k, none⟩ = some (.int .i64 x)) (go_keep) (first | (go_at_call 27; refine (l1In_no _ _ _ _ he2).mono ?_; rintro e w' ⟨rfl, rfl⟩) | (go_at_call 37; refine (HP.out _).mono ?_; rintro e w' ⟨rfl, rfl⟩))
              all_goals
                go_wp2_with fail
                go_ret
                exact ⟨by rw [HT.out]; rfl, hbel.drew⟩
        · have hsm : Rp.Small D zs := by
            intro z hz
            obtain ⟨j, hj, rfl⟩ := List.getElem_of_mem hz
            have := HA.out j hj (by have := HN.out; omega)
            refine ⟨this.1, ?_⟩
            rw [← HQ.out]; omega
          have HT : Hid (Rp.put (D : Int) zs = Bp.text true (Rp.bl D zs)) := Rp.put_yes ⟨HDP.out, by have := HN.out; omega, by rw [Int.toNat_natCast]; exact hsm⟩
          have HI2 := HI.out.kept hbel
          have HL : Hid (Calls Try.prog 39 #[.slice a n cap, .int .i64 (D : Int)] wr fun e w' => e = .returned (.string ⟨((Bp.text true (Rp.bl D zs)).map UInt8.ofNat).toArray⟩) ∧ Below wr.heap.size wr w') := by
            rcases HDD.out with g | g
            · exact l8Row_small a n cap D zs wr HI2 HN.out hn1 g (Rp.row_small D zs g (by have := HN.out; omega) hsm)
            · subst g
              exact l8Row_32 a n cap zs wr HI2 HN.out hn1 hsm (Rp.row_32 zs (by have := HN.out; omega) hsm)
          have hlt' : ¬ (k : Int) < (n : Int) := by omega
          clear HI2 hsm HA
          go_wp2_with fail
          refine HL.out.mono ?_
          rintro e w5 ⟨rfl, b5⟩
          go_wp2_with fail
          go_ret
          exact ⟨by rw [HT.out]; rfl, hbel.trans (b5.mono hbel.size)⟩
  · have hd' : depB d = false := by simpa using hd
    rw [hd'] at HB
    have HBB : Hid (Calls Try.prog 26 #[.int .i64 d] w fun e w' => e = .returned (.bool false) ∧ w' = w) := HB
    have HT : Hid (Rp.put d zs = []) := Rp.put_no (fun g => hd g.1)
    clear hd hd' HB h
    go_enter Try.func16, Try.ntmps16
    go_wp2_with fail
    refine HBB.out.mono ?_
    rintro e w1 ⟨rfl, hw1⟩
    subst hw1
    go_wp2_with fail
    go_ret
    exact ⟨by rw [HT.out]; rfl, Below.refl _ _⟩
end Go.Proofs.Ytjikjjganloobaa
