/- Whether all numbers of a list are within bounds, by a closure. -/
import Derived.Test.YtjmeaeimpkijmaaGreatDoorIntsWalks
import Derived.Below
namespace Go.Proofs.YtjmeaeimpkijmaaGreatDoor
open Go.RowKit

/-- all numbers are in 0 to m -/
def Within (m : Int) (zs : List Int) : Prop := ∀ z ∈ zs, 0 ≤ z ∧ z ≤ m
def withinB (m : Int) (zs : List Int) : Bool := zs.all fun z => decide (0 ≤ z ∧ z ≤ m)
theorem withinB_iff (m : Int) (zs : List Int) : withinB m zs = true ↔ Within m zs := by simp [withinB, Within]
theorem withinB_yes {m : Int} {zs : List Int} (h : Within m zs) : withinB m zs = true := (withinB_iff m zs).2 h
theorem withinB_no {m : Int} {zs : List Int} (h : ¬ Within m zs) : withinB m zs = false := by
  cases g : withinB m zs
  · rfl
  · exact absurd ((withinB_iff m zs).1 g) h

/-- one number is not in 0 to m -/
def beyB (z m : Int) : Bool := !decide (0 ≤ z ∧ z ≤ m)
theorem beyB_yes {z m : Int} (h : ¬ (0 ≤ z ∧ z ≤ m)) : beyB z m = true := by unfold beyB; rw [decide_eq_false h]; rfl
theorem beyB_no {z m : Int} (h : 0 ≤ z ∧ z ≤ m) : beyB z m = false := by unfold beyB; rw [decide_eq_true h]; rfl

set_option maxHeartbeats 400000 in
theorem beyond_any (B : Nat) (z m : Int) (w : World) (h : w.cell? ⟨B, 0, none⟩ = some (.int .i64 m)) :
    Calls Tryz.prog 79 #[.int .i64 z, .pointer (some ⟨B, 0, none⟩)] w fun e w' => e = .returned (.bool (beyB z m)) ∧ w' = w := by
  by_cases h0 : z < 0
  · have d0 : decide (z < 0) = true := by simpa using h0
    have HD : Hid (beyB z m = true) := beyB_yes (by omega)
    go_enter Tryz.func79, Tryz.ntmps79
    go_wp2_with fail
    go_ret
    exact ⟨by rw [HD.out]; rfl, rfl⟩
  · have d0 : decide (z < 0) = false := by simpa using h0
    by_cases h1 : m < z
    · have d1 : decide (m < z) = true := by simpa using h1
      have HD : Hid (beyB z m = true) := beyB_yes (by omega)
      go_enter Tryz.func79, Tryz.ntmps79
      go_wp2_with fail
      go_ret
      exact ⟨by rw [HD.out]; rfl, rfl⟩
    · have d1 : decide (m < z) = false := by simpa using h1
      have HD : Hid (beyB z m = false) := beyB_no (by omega)
      go_enter Tryz.func79, Tryz.ntmps79
      go_wp2_with fail
      go_ret
      exact ⟨by rw [HD.out]; rfl, rfl⟩

set_option maxHeartbeats 400000 in
theorem indexFunc_any (a : Option Addr) (n cap B : Nat) (zs : List Int) (m : Int) (w : World) (h : Ints w a zs) (hn : zs.length = n) (hl : n ≤ 2000000) (hB : w.cell? ⟨B, 0, none⟩ = some (.int .i64 m)) :
    Calls Tryz.prog 147 #[.slice a n cap, .func (.func 79) #[] #[.pointer (some ⟨B, 0, none⟩)]] w fun e w' => (∃ r : Int, e = .returned (.int .i64 r) ∧ decide (0 ≤ r) = !withinB m zs) ∧ w' = w := by
  have HI : Hid (Ints w a zs) := h
  have hzg : n ≤ zs.length := by omega
  have HN : Hid (zs.length = n) := hn
  have HBY : Hid (∀ z : Int, Calls Tryz.prog 79 #[.int .i64 z, .pointer (some ⟨B, 0, none⟩)] w fun e w' => e = .returned (.bool (beyB z m)) ∧ w' = w) := fun z => beyond_any B z m w hB
  clear h hn hB
  go_enter Tryz.func147, Tryz.ntmps147
  go_wp2_with fail
  go_loop [8] (fun i => ∃ k : Nat, k ≤ n ∧ i = .int .i64 k ∧ ∀ j (hj : j < zs.length), j < k → 0 ≤ zs[j] ∧ zs[j] ≤ m) (fun i => n - (intOf i).toNat)
  case atStart => exact ⟨0, Nat.zero_le _, rfl, fun j hj h0 => absurd h0 (by omega)⟩
  case round =>
    obtain ⟨k, hk, rfl, hall⟩ := hrel
    have HA : Hid (∀ j (hj : j < zs.length), j < k → 0 ≤ zs[j] ∧ zs[j] ≤ m) := hall
    clear hall
    by_cases hlt : k < n
    · have hkz : k < zs.length := by omega
      rcases HI.out with h | ⟨b, off, rfl, hbB, hc⟩
      · rw [h] at hkz; simp at hkz
      · have hck := hc k hkz
        have hki : (k : Int) < (n : Int) := by omega
        clear hc
        obtain ⟨x, hx⟩ : ∃ x, x = zs[k] := ⟨_, rfl⟩
        rw [← hx] at hck
        have HX : Hid (x = zs[k]) := hx
        clear hx
        go_wp2_with fail
        refine (HBY.out x).mono ?_
        rintro e w1 ⟨rfl, hw1⟩
        subst hw1
        by_cases he : 0 ≤ x ∧ x ≤ m
        · have HE : Hid (0 ≤ x ∧ x ≤ m) := he
          rw [beyB_no he]
          clear he
          go_wp2_with fail
          go_round
          case rel =>
            refine ⟨k + 1, by omega, by go_num, fun j hj h1 => ?_⟩
            by_cases e : j < k
            · exact HA.out j hj e
            · have : j = k := by omega
              subst this
              rw [← HX.out]; exact HE.out
          case measure => simp [intOf]; omega
        · have HW : Hid (withinB m zs = false) := withinB_no (fun g => he (by have := g zs[k] (List.getElem_mem hkz); rw [← HX.out] at this; exact this))
          rw [beyB_yes he]
          clear he
          go_wp2_with fail
          go_ret
          refine ⟨⟨_, rfl, ?_⟩, rfl⟩
          first | (rw [HW.out]; simp) | simp [HW.out]
    · have HW : Hid (withinB m zs = true) := withinB_yes (fun z hz => by
        obtain ⟨j, hj, rfl⟩ := List.getElem_of_mem hz
        exact HA.out j hj (by have := HN.out; omega))
      have hlt' : ¬ (k : Int) < (n : Int) := by omega
      clear HA
      go_wp2_with fail
      go_ret
      refine ⟨⟨_, rfl, ?_⟩, rfl⟩
      first | (rw [HW.out]; simp) | simp [HW.out]

set_option maxHeartbeats 400000 in
theorem allWithin_any (a : Option Addr) (n cap : Nat) (zs : List Int) (m : Int) (w : World) (h : Ints w a zs) (hn : zs.length = n) (hl : n ≤ 2000000) :
    Calls Tryz.prog 58 #[.slice a n cap, .int .i64 m] w fun e w' => e = .returned (.bool (withinB m zs)) ∧ Below w.heap.size w w' := by
  have bel : Below w.heap.size w (w.alloc (.cells #[.int .i64 m] 3)) := (Below.refl _ _).alloc (Nat.le_refl _) _
  have hI := h.kept bel
  have HC : Hid (Calls Tryz.prog 147 #[.slice a n cap, .func (.func 79) #[] #[.pointer (some ⟨w.heap.size, 0, none⟩)]] (w.alloc (.cells #[.int .i64 m] 3)) fun e w' => (∃ r : Int, e = .returned (.int .i64 r) ∧ decide (0 ≤ r) = !withinB m zs) ∧ w' = w.alloc (.cells #[.int .i64 m] 3)) :=
    indexFunc_any a n cap w.heap.size zs m _ hI hn hl (by rw [World.cell?_alloc_at _ _ _ _ rfl]; rfl)
  have HF : Hid (Calls Tryz.prog 78 #[.slice a n cap, .func (.func 79) #[] #[.pointer (some ⟨w.heap.size, 0, none⟩)]] (w.alloc (.cells #[.int .i64 m] 3)) fun e w' => e = .returned (.bool (!withinB m zs)) ∧ w' = w.alloc (.cells #[.int .i64 m] 3)) := by
    show Calls _ _ _ _ _
    clear h hI
    go_enter Tryz.func78, Tryz.ntmps78
    go_wp2_with fail
    refine HC.out.mono ?_
    rintro e w1 ⟨⟨r, rfl, hr⟩, hw1⟩
    have HR : Hid (decide (0 ≤ r) = !withinB m zs) := hr
    clear hr HC
    go_wp2_with fail
    go_ret
    exact ⟨by rw [← HR.out]; rfl, by first | exact hw1 | rfl⟩
  clear h hI HC
  go_enter Tryz.func58, Tryz.ntmps58
  go_wp2_with fail
  refine HF.out.mono ?_
  rintro e w1 ⟨rfl, hw1⟩
  have b1 : Below w.heap.size w w1 := by rw [hw1]; exact bel
  clear hw1 bel HF
  go_wp2_with fail
  go_ret
  exact ⟨by simp, b1⟩
end Go.Proofs.YtjmeaeimpkijmaaGreatDoor
