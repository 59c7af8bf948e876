/- Stretches of a list, as the program reads them in memory: sameAhead, upToSame (ints). -/
import Derived.Test.YtlpfedhehfbfeaaRnMath
import Derived.RangeFuncNested
import Derived.RangeFuncBound
import Derived.RangeFuncCalls
import Derived.RangeFuncLeaves
import Derived.Shelf.Abstract
import Derived.Shelf.RegionOpen
import Derived.WalkKit
import Derived.OwnWalkIn
import Derived.TacticsInMore
import Derived.LoopNIn
import Derived.LoopIn
import Derived.Test.YtlpfedhehfbfeaaProg
namespace Go.Proofs.Ytlpfedhehfbfeaa
open Go.RowKit Go.Shelf
namespace RI

/-- the list l lies in the block b from off on -/
def Lies (w : World) (b off : Nat) (l : List Int) : Prop := b < w.heap.size ∧ ∀ i (h : i < l.length), w.cell? ⟨b, off + i, none⟩ = some (.int .i64 l[i])
theorem Lies.drop {w : World} {b off : Nat} {l : List Int} (h : Lies w b off l) (k : Nat) : Lies w b (off + k) (l.drop k) :=
  ⟨h.1, fun i hi => by
    have := h.2 (k + i) (by rw [List.length_drop] at hi; omega)
    rw [List.getElem_drop, Nat.add_assoc]; exact this⟩
theorem Lies.drewN {w : World} {b off : Nat} {l : List Int} (h : Lies w b off l) (m : Nat) : Lies (w.drewN m) b off l := h

set_option maxHeartbeats 1000000 in
theorem sameAhead_any (b off cap n m : Nat) (l : List Int) (w : World) (hn : l.length = n) (hl : n ≤ 2000000) (hm : m ≤ 1000) (h : Lies w b off l) :
    Calls Try.prog 42 #[.slice (some ⟨b, off, none⟩) n cap, .int .i64 (m : Int)] w fun e w' => e = .returned (.int .i64 ((Rn.same l m : Nat) : Int)) ∧ ∃ q, w' = w.drewN q := by
  have HL : Hid (Lies w b off l) := h
  have HN : Hid (l.length = n) := hn
  clear h hn
  go_enter Try.func42, Try.ntmps42
  go_wp2_with fail
  go_loopw [5] (fun i wr => ∃ k : Nat, k ≤ n ∧ k ≤ m ∧ i = .int .i64 (k : Int) ∧ (∀ j, j < k → Rn.sameP l m j = true) ∧ ∃ q, wr = w.drewN q) (fun i _ => n - (intOf i).toNat)
  case atStart => exact ⟨0, Nat.zero_le _, Nat.zero_le _, rfl, fun j hj => by omega, 0, rfl⟩
  case round =>
    obtain ⟨k, hk, hkm, rfl, hall, q, rfl⟩ := hrel
    have HA : Hid (∀ j, j < k → Rn.sameP l m j = true) := hall
    clear hall
    have hend : (Rn.sameP l m k = false) → k = Rn.same l m := fun h => Rn.same_eq h HA.out (by have := HN.out; omega)
    have HE : Hid ((Rn.sameP l m k = false) → k = Rn.same l m) := hend
    clear hend
    by_cases h1 : k < n
    · by_cases h2 : k < m
      · have hk' : k < l.length := by rw [HN.out]; exact h1
        have h0' : 0 < l.length := by omega
        have hcx := HL.out.2 k hk'
        have hcy := HL.out.2 0 h0'
        simp only [Nat.add_zero] at hcy
        have HX : Hid (l[k]? = some l[k] ∧ l[0]? = some l[0]) := ⟨List.getElem?_eq_getElem hk', List.getElem?_eq_getElem h0'⟩
        have d1 : decide ((k : Int) < (n : Int)) = true := by simp; exact h1
        have d2 : decide ((k : Int) < (m : Int)) = true := by simp; exact h2
        have h0n : (0 : Nat) < n := by omega
        generalize l[k] = x at *
        generalize l[0] = y at *
        by_cases h3 : x = y
        · subst h3
          have HS : Hid (Rn.sameP l m k = true) := by
            show _ = _
            unfold Rn.sameP; rw [HX.out.1, HX.out.2, HN.out]; simp [h1, h2]
          clear HX HL
          go_wp2_with fail
          go_region
          all_goals go_wp2_with fail
          all_goals
            go_roundw
            case rel => exact ⟨k + 1, by omega, by omega, by go_num, fun j hj => (by
              by_cases e : j = k
              · rw [e]; exact HS.out
              · exact HA.out j (by omega)), q + 1, rfl⟩
            case measure => simp [intOf]; omega
        · have HS : Hid (k = Rn.same l m) := HE.out (by unfold Rn.sameP; rw [HX.out.1, HX.out.2]; simp [h3])
          have d3 : decide (x = y) = false := by simp [h3]
          clear HX HL HE
          go_wp2_with fail
          go_region
          all_goals go_wp2_with fail
          all_goals
            go_ret
            exact ⟨by rw [← HS.out]; rfl, q + 1, rfl⟩
      · have HS : Hid (k = Rn.same l m) := HE.out (by simp [Rn.sameP, h2])
        have d1 : decide ((k : Int) < (n : Int)) = true := by simp; exact h1
        have d2 : decide ((k : Int) < (m : Int)) = false := by simp; omega
        clear HL HE
        go_wp2_with fail
        go_region
        all_goals go_wp2_with fail
        all_goals
          go_ret
          exact ⟨by rw [← HS.out]; rfl, q + 1, rfl⟩
    · have HS : Hid (k = Rn.same l m) := HE.out (by simp [Rn.sameP, HN.out, h1])
      have d1 : decide ((k : Int) < (n : Int)) = false := by simp; omega
      clear HL HE
      go_wp2_with fail
      go_region
      all_goals go_wp2_with fail
      all_goals
        go_ret
        exact ⟨by rw [← HS.out]; rfl, q + 1, rfl⟩

set_option maxHeartbeats 1000000 in
theorem upToSame_any (b off cap n least m : Nat) (l : List Int) (w : World) (hn : l.length = n) (hl : n ≤ 2000000) (hl1 : least ≤ 1000) (hm : m ≤ 1000) (h : Lies w b off l) (hc : n ≤ cap) :
    Calls Try.prog 43 #[.slice (some ⟨b, off, none⟩) n cap, .int .i64 (least : Int), .int .i64 (m : Int)] w fun e w' => e = .returned (.int .i64 ((Rn.fresh l least m : Nat) : Int)) ∧ ∃ q, w' = w.drewN q := by
  have HL : Hid (Lies w b off l) := h
  have HN : Hid (l.length = n) := hn
  clear h hn
  go_enter Try.func43, Try.ntmps43
  go_wp2_with fail
  go_loopw [7] (fun i wr => ∃ k : Nat, 1 ≤ k ∧ k ≤ n + 1 ∧ i = .int .i64 (k : Int) ∧ (∀ j, 1 ≤ j → j < k → Rn.freshP l least m j = true) ∧ ∃ q, wr = w.drewN q) (fun i _ => n + 1 - (intOf i).toNat)
  case atStart => exact ⟨1, Nat.le_refl _, by omega, rfl, fun j _ hj => by omega, 0, rfl⟩
  case round =>
    obtain ⟨k, hk1, hk, rfl, hall, q, rfl⟩ := hrel
    have HA : Hid (∀ j, 1 ≤ j → j < k → Rn.freshP l least m j = true) := hall
    clear hall
    have HE : Hid ((Rn.freshP l least m k = false) → k = Rn.fresh l least m) := fun h => Rn.fresh_eq h hk1 HA.out (by have := HN.out; omega)
    by_cases h1 : k < n
    · have hkc : k < cap := by omega
      have d1 : decide ((k : Int) < (n : Int)) = true := by simp; exact h1
      by_cases h2 : k < m
      · have d2 : decide ((k : Int) < (m : Int)) = true := by simp; exact h2
        have HC : Hid (Calls Try.prog 42 #[.slice (some ⟨b, off + k, none⟩) (n - k) (cap - k), .int .i64 (least : Int)] (w.drewN q) fun e w' => e = .returned (.int .i64 ((Rn.same (l.drop k) least : Nat) : Int)) ∧ ∃ q', w' = (w.drewN q).drewN q') :=
          sameAhead_any b (off + k) (cap - k) (n - k) least (l.drop k) _ (by rw [List.length_drop, HN.out]) (by omega) hl1 ((HL.out.drop k).drewN q)
        have HP : Hid (Rn.freshP l least m k = decide (Rn.same (l.drop k) least < least)) := by
          show _ = _
          unfold Rn.freshP; rw [HN.out]; simp [h1, h2]
        clear HL
        generalize Rn.same (l.drop k) least = z at *
        have hzk : z < least ∨ ¬ z < least := by omega
        rcases hzk with hz | hz
        · have d3 : decide ((z : Int) < (least : Int)) = true := by simp; exact hz
          go_wp2_with fail
          refine HC.out.mono ?_
          rintro e w1 ⟨rfl, q1, hw⟩
          clear HC
          subst hw
          go_wp2_with fail
          go_roundw
          case rel => exact ⟨k + 1, by omega, by omega, by go_num, fun j hj1 hj => (by
              by_cases e : j = k
              · rw [e, HP.out]; simp [hz]
              · exact HA.out j hj1 (by omega)), q + q1, rfl⟩
          case measure => simp [intOf]; omega
        · have d3 : decide ((z : Int) < (least : Int)) = false := by simp; omega
          have HS : Hid (k = Rn.fresh l least m) := HE.out (by rw [HP.out]; simp; omega)
          go_wp2_with fail
          refine HC.out.mono ?_
          rintro e w1 ⟨rfl, q1, hw⟩
          clear HC HE
          subst hw
          go_wp2_with fail
          go_ret
          exact ⟨by rw [← HS.out]; rfl, q + q1, rfl⟩
      · have HS : Hid (k = Rn.fresh l least m) := HE.out (by simp [Rn.freshP, h2])
        have d2 : decide ((k : Int) < (m : Int)) = false := by simp; omega
        clear HL HE
        go_wp2_with fail
        go_ret
        exact ⟨by rw [← HS.out]; rfl, q, rfl⟩
    · have HS : Hid (k = Rn.fresh l least m) := HE.out (by simp [Rn.freshP, HN.out, h1])
      have d1 : decide ((k : Int) < (n : Int)) = false := by simp; omega
      clear HL HE
      go_wp2_with fail
      go_ret
      exact ⟨by rw [← HS.out]; rfl, q, rfl⟩
end RI
end Go.Proofs.Ytlpfedhehfbfeaa
