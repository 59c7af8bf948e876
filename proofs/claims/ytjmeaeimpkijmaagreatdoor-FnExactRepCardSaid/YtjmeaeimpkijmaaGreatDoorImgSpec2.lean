/- The colours of a picture, as the specification looks at them; ImageOk of the specification. -/
import Derived.Test.YtjmeaeimpkijmaaGreatDoorImgSpec
namespace Go.Proofs.YtjmeaeimpkijmaaGreatDoor
open Go.RowKit

set_option maxHeartbeats 1000000 in
set_option maxRecDepth 20000 in
theorem l8Colors_any (k wd hi : Int) (D : Nat) (ca : Option Addr) (cn cc : Nat) (pa : Option Addr) (pn pc : Nat) (cs : List Int) (w : World) (h : Ints w ca cs) (hn : cs.length = cn) (hl : cn ≤ 1048576) (hD : D ≤ 32) :
    Calls Tryz.prog 48 #[.agg #[.int .i64 k, .int .i64 D, .int .i64 wd, .int .i64 hi, .slice ca cn cc, .slice pa pn pc]] w fun e w' => e = .returned (.bool (Im.colB k D cs)) ∧ Below w.heap.size w w' := by
  have bel : Below w.heap.size w (w.alloc (.cells #[.int .i64 k, .int .i64 (D : Int), .int .i64 wd, .int .i64 hi, .slice ca cn cc, .slice pa pn pc] 31)) := (Below.refl _ _).alloc (Nat.le_refl _) _
  have HI : Hid (Ints (w.alloc (.cells #[.int .i64 k, .int .i64 (D : Int), .int .i64 wd, .int .i64 hi, .slice ca cn cc, .slice pa pn pc] 31)) ca cs) := h.kept bel
  have HN : Hid (cs.length = cn) := hn
  have hzg : cn ≤ cs.length := by omega
  have HB : Hid (Below w.heap.size w (w.alloc (.cells #[.int .i64 k, .int .i64 (D : Int), .int .i64 wd, .int .i64 hi, .slice ca cn cc, .slice pa pn pc] 31))) := bel
  clear h hn bel
  go_enter Tryz.func48, Tryz.ntmps48
  go_wp2_with fail
  go_loop [3] (fun i => ∃ j : Nat, j ≤ cn ∧ i = .int .i64 j ∧ ∀ q (hq : q < cs.length), q < j → 0 ≤ cs[q] ∧ cs[q] ≤ 16777215) (fun i => cn - (intOf i).toNat)
  case atStart => exact ⟨0, Nat.zero_le _, rfl, fun j hj h0 => absurd h0 (by omega)⟩
  case round =>
    obtain ⟨j, hj, rfl, hall⟩ := hrel
    have HA : Hid (∀ q (hq : q < cs.length), q < j → 0 ≤ cs[q] ∧ cs[q] ≤ 16777215) := hall
    clear hall
    by_cases hlt : j < cn
    · have hjz : j < cs.length := by omega
      rcases HI.out with h | ⟨b, off, rfl, hbB, hc⟩
      · rw [h] at hjz; simp at hjz
      · have hck := hc j hjz
        have hji : (j : Int) < (cn : Int) := by omega
        clear hc
        obtain ⟨x, hx⟩ : ∃ x, x = cs[j] := ⟨_, rfl⟩
        rw [← hx] at hck
        have HX : Hid (x = cs[j]) := hx
        clear hx
        by_cases he : 0 ≤ x ∧ x ≤ 16777215
        · have HE : Hid (0 ≤ x ∧ x ≤ 16777215) := he
          clear he
          go_wp2_with fail
          refine (l1In_yes _ _ _ _ HE.out.1 HE.out.2).mono ?_
          rintro e w1 ⟨rfl, hw1⟩
          subst hw1
          go_wp2_with fail
          go_round
          case rel =>
            refine ⟨j + 1, by omega, by go_num, fun q hq h1 => ?_⟩
            by_cases e : q < j
            · exact HA.out q hq e
            · have : q = j := by omega
              subst this
              rw [← HX.out]; exact HE.out
          case measure => simp [intOf]; omega
        · have HC : Hid (Im.colB k (D : Int) cs = false) := Im.colB_no (fun g => by
            by_cases hk : k = 4
            · have := (g.2 hk).2.2 cs[j] (List.getElem_mem hjz)
              rw [← HX.out] at this
              exact he this
            · have := g.1 hk; omega)
          have HE : Hid (¬ (0 ≤ x ∧ x ≤ 16777215)) := he
          clear he
          go_wp2_with fail
          refine (l1In_no _ _ _ _ HE.out).mono ?_
          rintro e w1 ⟨rfl, hw1⟩
          have hw1' : Below w.heap.size w w1 := by rw [hw1]; exact HB.out
          clear hw1
          go_wp2_with fail
          go_ret
          exact ⟨by rw [HC.out]; rfl, hw1'⟩
    · have hW : Within 16777215 cs := by
        intro z hz
        obtain ⟨q, hq, rfl⟩ := List.getElem_of_mem hz
        exact HA.out q hq (by have := HN.out; omega)
      have hlt' : ¬ (j : Int) < (cn : Int) := by omega
      clear HA
      by_cases hk : k = 4
      · subst hk
        obtain ⟨Q, hQ⟩ : ∃ Q, Q = 2 ^ D := ⟨_, rfl⟩
        have hQb : Q ≤ 4294967296 := by rw [hQ]; exact Nat.le_trans (Nat.pow_le_pow_right (by omega) hD) (by decide)
        have HP : Hid (∀ w : World, Calls Tryz.prog 49 #[.int .i64 (D : Int)] w fun e w' => e = .returned (.int .i64 (Q : Int)) ∧ w' = w) := by
          intro w; rw [hQ]; exact l1Pow_any D w (by omega)
        by_cases hin : 1 ≤ cn ∧ cn ≤ Q
        · have HC : Hid (Im.colB 4 (D : Int) cs = true) := Im.colB_yes ⟨fun e => absurd rfl e, fun _ => ⟨by have := HN.out; omega, by rw [Int.toNat_natCast, ← hQ]; have := HN.out; omega, hW⟩⟩
          have h1 : (1 : Int) ≤ (cn : Int) := by omega
          have h2 : (cn : Int) ≤ (Q : Int) := by omega
          clear hW hQ hin
          go_wp2_with fail
          go_region_held3 (fun w' => w'.cell? ⟨w.heap.size, 4, none⟩ = some (.slice ca cn cc) ∧ w'.cell? ⟨w.heap.size, 1, none⟩ = some (.int .i64 (D : Int))) (go_keep) (first | (go_at_call 47; refine (l1In_yes _ _ _ _ h1 h2).mono ?_; rintro e w' ⟨rfl, rfl⟩) | (go_at_call 49; refine (HP.out _).mono ?_; rintro e w' ⟨rfl, rfl⟩))
          all_goals
            go_wp2_with fail
            go_ret
            exact ⟨by rw [HC.out]; rfl, HB.out.drew⟩
        · have HC : Hid (Im.colB 4 (D : Int) cs = false) := Im.colB_no (fun g => hin (by
            have := g.2 rfl
            rw [Int.toNat_natCast, ← hQ] at this
            have h9 := HN.out
            omega))
          have h1 : ¬ ((1 : Int) ≤ (cn : Int) ∧ (cn : Int) ≤ (Q : Int)) := by omega
          clear hW hQ hin
          go_wp2_with fail
          go_region_held3 (fun w' => w'.cell? ⟨w.heap.size, 4, none⟩ = some (.slice ca cn cc) ∧ w'.cell? ⟨w.heap.size, 1, none⟩ = some (.int .i64 (D : Int))) (go_keep) (first | (go_at_call 47; refine (l1In_no _ _ _ _ h1).mono ?_; rintro e w' ⟨rfl, rfl⟩) | (go_at_call 49; refine (HP.out _).mono ?_; rintro e w' ⟨rfl, rfl⟩))
          all_goals
            go_wp2_with fail
            go_ret
            exact ⟨by rw [HC.out]; rfl, HB.out.drew⟩
      · have hk' : (k == 4) = false := by simpa using hk
        by_cases h0 : cn = 0
        · have HC : Hid (Im.colB k (D : Int) cs = true) := Im.colB_yes ⟨fun _ => by have := HN.out; omega, fun e => absurd e hk⟩
          have h0' : ((cn : Int) == 0) = true := by simp; omega
          clear hW
          go_wp2_with fail
          go_ret
          exact ⟨by rw [HC.out]; first | rfl | simp [h0'], (Below.refl _ _).alloc (Nat.le_refl _) _⟩
        · have HC : Hid (Im.colB k (D : Int) cs = false) := Im.colB_no (fun g => by have := g.1 hk; have := HN.out; omega)
          have h0' : ((cn : Int) == 0) = false := by simp; omega
          clear hW
          go_wp2_with fail
          go_ret
          exact ⟨by rw [HC.out]; first | rfl | simp [h0'], (Below.refl _ _).alloc (Nat.le_refl _) _⟩
end Go.Proofs.YtjmeaeimpkijmaaGreatDoor
