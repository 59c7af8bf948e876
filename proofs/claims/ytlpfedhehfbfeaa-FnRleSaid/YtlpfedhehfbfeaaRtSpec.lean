/- RunPut of the specification. -/
import Derived.Test.YtlpfedhehfbfeaaRtText
import Derived.Test.YtlpfedhehfbfeaaBkSpec
import Derived.Deep.RegionHeld
import Derived.RangeFuncBox
namespace Go.Proofs.Ytlpfedhehfbfeaa
open Go.RowKit

/-- a list of ints in memory, that is not empty -/
def LiesI (w : World) (b off : Nat) (l : List Int) : Prop := b < w.heap.size ∧ ∀ i (h : i < l.length), w.cell? ⟨b, off + i, none⟩ = some (.int .i64 l[i])
theorem LiesI.kept {w w' : World} {b off : Nat} {l : List Int} (h : LiesI w b off l) (hb : Below w.heap.size w w') : LiesI w' b off l :=
  ⟨Nat.lt_of_lt_of_le h.1 hb.size, fun i hi => (hb.cell (p := ⟨b, off + i, none⟩) h.1).trans (h.2 i hi)⟩
theorem drop_get {l : List Int} {A k : Nat} (h : A + k < l.length) : (l.drop A)[k]? = some l[A + k] := by
  rw [List.getElem?_drop, List.getElem?_eq_getElem h]

set_option maxHeartbeats 1000000 in
theorem l7Equal_any (b off cap n A m : Nat) (l : List Int) (w : World) (hl : LiesI w b off l) (hn : l.length = n) (hnb : n ≤ 1000) (hA : A < n) (hm : m ≤ 1000) (hm1 : 1 ≤ m) :
    Calls Try.prog 44 #[.slice (some ⟨b, off, none⟩) n cap, .int .i64 (A : Int), .int .i64 (m : Int)] w fun e w' => e = .returned (.int .i64 ((Rn.same (l.drop A) m : Nat) : Int)) ∧ ∃ q, w' = w.drewN q := by
  have hAl : A < l.length := by omega
  have hcA := hl.2 A hAl
  have HL : Hid (LiesI w b off l) := hl
  have HN : Hid (l.length = n ∧ (l.drop A).length = n - A) := ⟨hn, by rw [List.length_drop, hn]⟩
  have HY : Hid ((l.drop A)[0]? = some l[A]) := drop_get (A := A) (k := 0) hAl
  have H0 : Hid (Rn.sameP (l.drop A) m 0 = true) := by
    show _ = _
    unfold Rn.sameP; rw [HN.out.2]; simp; omega
  clear hl hn
  generalize l[A] = y at *
  have hAi : (A : Int) < (n : Int) := by omega
  go_enter Try.func44, Try.ntmps44
  go_wp2_with fail
  go_loopw [7] (fun i wr => ∃ k : Nat, 1 ≤ k ∧ A + k ≤ n ∧ k ≤ m ∧ i = .int .i64 (k : Int) ∧ (∀ j, j < k → Rn.sameP (l.drop A) m j = true) ∧ ∃ q, wr = w.drewN q) (fun i _ => n - (intOf i).toNat)
  case atStart => exact ⟨1, Nat.le_refl _, by omega, by omega, rfl, fun j hj => (by rw [show j = 0 by omega]; exact H0.out), 0, rfl⟩
  case round =>
    obtain ⟨k, hk1, hk, hkm, rfl, hall, q, rfl⟩ := hrel
    have HA : Hid (∀ j, j < k → Rn.sameP (l.drop A) m j = true) := hall
    clear hall
    have HE : Hid ((Rn.sameP (l.drop A) m k = false) → k = Rn.same (l.drop A) m) := fun h => Rn.same_eq h HA.out (by rw [HN.out.2]; omega)
    obtain ⟨j, hj⟩ : ∃ j, j = A + k := ⟨_, rfl⟩
    have e1 : (A : Int) + (k : Int) = (j : Int) := by omega
    have e2 := wrap_i64_nat j (by omega)
    by_cases h2 : k < m
    · have d2 : decide ((k : Int) < (m : Int)) = true := by simp; exact h2
      by_cases h1 : j < n
      · have d1 : decide ((j : Int) < (n : Int)) = true := by simp; exact h1
        have hjl : j < l.length := by rw [HN.out.1]; exact h1
        have hcj := HL.out.2 j hjl
        have HX : Hid ((l.drop A)[k]? = some l[j]) := by subst hj; exact drop_get hjl
        have hkn : k < n - A := by omega
        have hji : (j : Int) < (n : Int) := by omega
        have HJ : Hid (j = A + k) := hj
        clear hj
        generalize l[j] = x at *
        by_cases h3 : x = y
        · have HS : Hid (Rn.sameP (l.drop A) m k = true) := by
            show _ = _
            unfold Rn.sameP; rw [HX.out, HY.out, HN.out.2, h3]; simp [hkn, h2]
          subst h3
          clear HX HL HY
          go_wp2_with fail
          go_region
          all_goals go_wp2_with fail
          all_goals
            go_roundw
            case rel => exact ⟨k + 1, by omega, by have := HJ.out; omega, by omega, by go_num, fun j hj => (by
              by_cases e : j = k
              · rw [e]; exact HS.out
              · exact HA.out j (by omega)), q + 1, rfl⟩
            case measure => simp [intOf]; omega
        · have HS : Hid (k = Rn.same (l.drop A) m) := HE.out (by unfold Rn.sameP; rw [HX.out, HY.out]; simp [h3])
          have d3 : decide (x = y) = false := by simp [h3]
          have d3' : (x == y) = false := by simp [h3]
          clear HX HL HY HE
          go_wp2_with fail
          go_region
          all_goals go_wp2_with fail
          all_goals
            go_ret
            exact ⟨by rw [← HS.out]; rfl, q + 1, rfl⟩
      · have HS : Hid (k = Rn.same (l.drop A) m) := HE.out (by unfold Rn.sameP; rw [HN.out.2]; simp; omega)
        have d1 : decide ((j : Int) < (n : Int)) = false := by simp; omega
        clear HL HE hj
        go_wp2_with fail
        go_region
        all_goals go_wp2_with fail
        all_goals
          go_ret
          exact ⟨by rw [← HS.out]; rfl, q + 1, rfl⟩
    · have HS : Hid (k = Rn.same (l.drop A) m) := HE.out (by unfold Rn.sameP; simp [h2])
      have d2 : decide ((k : Int) < (m : Int)) = false := by simp; omega
      clear HL HE hj
      go_wp2_with fail
      go_region
      all_goals go_wp2_with fail
      all_goals
        go_ret
        exact ⟨by rw [← HS.out]; rfl, q + 1, rfl⟩

theorem text_of_cell (w : World) (b d : Nat) (h : w.cell? ⟨b, 0, none⟩ = some (.int .u8 (d : Int))) : Sem.run Try.prog (convert 22 9 (.slice (some ⟨b, 0, none⟩) 1 1)) w = .ok (.string ⟨#[UInt8.ofNat d]⟩) w := by
  refine run_text w ⟨b, 0, none⟩ 1 [d] ?_
  intro j v hj
  cases j with
  | zero => simp at hj; subst hj; exact h
  | succ j => simp at hj
theorem lt_of_cell {w : World} {b o : Nat} {v : Value} (h : w.cell? ⟨b, o, none⟩ = some v) : b < w.heap.size := World.block_lt_of_cell? w _ h

end Go.Proofs.Ytlpfedhehfbfeaa
