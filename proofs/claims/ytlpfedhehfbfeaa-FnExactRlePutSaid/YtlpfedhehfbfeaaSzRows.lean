/- Rows measured. -/
import Derived.Test.YtlpfedhehfbfeaaReTop
import Derived.Test.YtlpfedhehfbfeaaSzInts
namespace Go.Proofs.Ytlpfedhehfbfeaa
open Go.RowKit

/-- what is left of a room behind rows -/
def leftOf : Int → List (List Int) → Int
  | z, [] => z
  | z, l :: ls => if (l.length : Int) ≤ z then leftOf (z - l.length) ls else -1
theorem leftOf_le : ∀ (z : Int) (ls : List (List Int)), 0 ≤ leftOf z ls → ∀ l ∈ ls, (l.length : Int) ≤ z
  | z, [], _, l, hl => by simp at hl
  | z, m :: ls, h, l, hl => by
    unfold leftOf at h
    by_cases hm : (m.length : Int) ≤ z
    · rw [if_pos hm] at h
      rcases List.mem_cons.1 hl with rfl | hl
      · exact hm
      · have := leftOf_le _ ls h l hl; omega
    · rw [if_neg hm] at h; omega
theorem leftOf_step {z : Int} {ls : List (List Int)} {k : Nat} (hk : k < ls.length) (h : (ls[k].length : Int) ≤ z) : leftOf z (ls.drop k) = leftOf (z - ls[k].length) (ls.drop (k + 1)) := by
  rw [List.drop_eq_getElem_cons hk]
  show (if _ then _ else _) = _
  rw [if_pos h]
theorem leftOf_no {z : Int} {ls : List (List Int)} {k : Nat} (hk : k < ls.length) (h : ¬ (ls[k].length : Int) ≤ z) : leftOf z (ls.drop k) = -1 := by
  rw [List.drop_eq_getElem_cons hk]
  show (if _ then _ else _) = _
  rw [if_neg h]

set_option maxHeartbeats 1000000 in
theorem szRows_any (a : Option Addr) (cap n : Nat) (ls : List (List Int)) (w : World) (h : Rows2 w a ls) (hn : ls.length = n) (hb : n ≤ 9223372036854775807) (hm : ∀ l ∈ ls, l.length ≤ 9223372036854775807) :
    Calls Try.prog 15 #[.slice a n cap, .int .i64 1048576] w fun e w' => e = .returned (.int .i64 (if n ≤ 1048576 then leftOf (1048576 - n) ls else -1)) ∧ w' = w := by
  by_cases hbig : n ≤ 1048576
  rotate_left
  · have h1 : (1048576 : Int) - (n : Int) < 0 := by omega
    rw [if_neg hbig]
    clear h hn hm
    go_enter Try.func15, Try.ntmps15
    go_wp2_with fail
    go_ret
    exact ⟨rfl, rfl⟩
  rw [if_pos hbig]
  have HR : Hid (Rows2 w a ls) := h
  have HN : Hid (ls.length = n) := hn
  have HM : Hid (∀ l ∈ ls, l.length ≤ 9223372036854775807) := hm
  obtain ⟨z0, hz0⟩ : ∃ z0 : Int, z0 = 1048576 - (n : Int) := ⟨_, rfl⟩
  have e0 : (1048576 : Int) - (n : Int) = z0 := hz0.symm
  have hz0b : 0 ≤ z0 ∧ z0 ≤ 1048576 := by omega
  have hz0n : ¬ z0 < 0 := by omega
  have f0 : IntKind.i64.wrap z0 = z0 := by simp [IntKind.wrap, IntKind.bits, IntKind.signed]; omega
  rw [e0]
  clear h hn hm hz0
  go_enter Try.func15, Try.ntmps15
  go_wp2_with fail
  go_loop [1, 5] (fun x i => ∃ (k : Nat) (z : Int), k ≤ n ∧ i = .int .i64 (k : Int) ∧ x = .int .i64 z ∧ 0 ≤ z ∧ z ≤ 1048576 ∧ Hid (leftOf z0 ls = leftOf z (ls.drop k))) (fun _ i => n - (intOf i).toNat)
  case atStart => exact ⟨0, z0, Nat.zero_le _, rfl, rfl, hz0b.1, hz0b.2, rfl⟩
  case round =>
    obtain ⟨k, z, hk, rfl, rfl, hz1, hz2, HL⟩ := hrel
    by_cases hlt : k < n
    · have hki : (k : Int) < (n : Int) := by omega
      have hkl : k < ls.length := by rw [HN.out]; exact hlt
      obtain ⟨R, off, a', cap', rfl, hcell, -⟩ := HR.out.at hkl
      have HSZ : Hid (Calls Try.prog 35 #[.slice a' ls[k].length cap', .int .i64 z] w fun e w' => e = .returned (.int .i64 (if (ls[k].length : Int) ≤ z then z - ls[k].length else -1)) ∧ w' = w) := szInts_any a' ls[k].length cap' z w (HM.out _ (List.getElem_mem hkl)) ⟨hz1, hz2⟩
      by_cases hle : (ls[k].length : Int) ≤ z
      · have HL2 : Hid (leftOf z0 ls = leftOf (z - ls[k].length) (ls.drop (k + 1))) := by show _ = _; rw [HL.out, leftOf_step hkl hle]
        rw [if_pos hle] at HSZ
        obtain ⟨z2, hz⟩ : ∃ z2 : Int, z2 = z - (ls[k].length : Int) := ⟨_, rfl⟩
        rw [← hz] at HSZ HL2
        have hz3 : 0 ≤ z2 := by omega
        have hz4 : z2 ≤ 1048576 := by omega
        have hz5 : ¬ z2 < 0 := by omega
        clear HL hz hle
        generalize ls[k].length = m at *
        go_wp2_with fail
        refine HSZ.out.mono ?_
        rintro e v0 ⟨rfl, hv0⟩
        replace hv0 := hv0.symm
        subst hv0
        clear HSZ
        go_wp2_with fail
        go_round
        case rel => exact ⟨k + 1, z2, by omega, by go_num, rfl, hz3, hz4, HL2⟩
        case measure => simp [intOf]; omega
      · have HF : Hid (leftOf z0 ls = -1) := by show _ = _; rw [HL.out, leftOf_no hkl hle]
        rw [if_neg hle] at HSZ
        clear HL hle
        generalize ls[k].length = m at *
        go_wp2_with fail
        refine HSZ.out.mono ?_
        rintro e v0 ⟨rfl, hv0⟩
        replace hv0 := hv0.symm
        subst hv0
        clear HSZ
        go_wp2_with fail
        go_ret
        exact ⟨by rw [HF.out]; rfl, rfl⟩
    · have hki : ¬ (k : Int) < (n : Int) := by omega
      have HF : Hid (leftOf z0 ls = z) := by
        show _ = _
        rw [HL.out, List.drop_of_length_le (by rw [HN.out]; omega)]; rfl
      clear HL
      go_wp2_with fail
      go_ret
      exact ⟨by rw [HF.out]; rfl, rfl⟩
end Go.Proofs.Ytlpfedhehfbfeaa
