/- The specification's CodeFit: just the lengths of Ct. -/
import Derived.Test.YtcolgcddhchkhaaCfTree2
import Derived.Test.YtcolgcddhchkhaaCtCode
import Derived.Test.YtcolgcddhchkhaaInWalks
import Derived.Test.YtcolgcddhchkhaaPowWalks
namespace Go.Proofs.Ytcolgcddhchkhaa
open Go.RowKit

set_option maxHeartbeats 2000000 in
theorem l3Most_is (a : Option Addr) (n c : Nat) (f : Nat → Nat) (w : World) (h : Ints w a ((List.range n).map (fun i => ((f i : Nat) : Int)))) (hb : n ≤ 1000) (hl : ∀ i, i < n → f i ≤ 100000) :
    Calls Try.prog 72 #[.slice a n c] w fun e w' => (∃ m : Nat, e = .returned (.int .i64 (m : Int)) ∧ (∀ i, i < n → f i ≤ m) ∧ (m = 0 ∨ ∃ i, i < n ∧ m = f i)) ∧ w' = w := by
  have HI : Hid (Ints w a ((List.range n).map (fun i => ((f i : Nat) : Int)))) := h
  have HL : Hid (∀ i, i < n → f i ≤ 100000) := hl
  clear h hl
  go_enter Try.func72, Try.ntmps72
  go_wp2_with fail
  go_loop [3, 4] (fun v i => ∃ k m : Nat, k ≤ n ∧ m ≤ 100000 ∧ i = .int .i64 (k : Int) ∧ v = .int .i64 (m : Int) ∧ Hid ((∀ i, i < k → f i ≤ m) ∧ (m = 0 ∨ ∃ i, i < n ∧ m = f i))) (fun _ i => n - (intOf i).toNat)
  case atStart => exact ⟨0, 0, by omega, by omega, rfl, rfl, fun i hi => by omega, .inl rfl⟩
  case round =>
    obtain ⟨k, m, hk, hm, rfl, rfl, HM⟩ := hrel
    by_cases hlt : k < n
    · have hki : (k : Int) < (n : Int) := by omega
      obtain ⟨b, off, rfl, hc⟩ : ∃ b off, a = some ⟨b, off, none⟩ ∧ w.cell? ⟨b, off + k, none⟩ = some (.int .i64 ((f k : Nat) : Int)) := by
        rcases HI.out with e | ⟨b, off, e1, _, e3⟩
        · have := congrArg List.length e
          rw [List.length_map, List.length_range] at this
          simp at this
          omega
        · refine ⟨b, off, e1, ?_⟩
          have := e3 k (by rw [List.length_map, List.length_range]; exact hlt)
          rw [List.getElem_map, List.getElem_range] at this
          exact this
      have hz := HL.out k hlt
      have HZ : Hid (∃ z, z = f k) := ⟨_, rfl⟩
      obtain ⟨z, hzz⟩ : ∃ z : Nat, f k = z := ⟨_, rfl⟩
      rw [hzz] at hc hz
      by_cases hgt : m < z
      · have hgi : (m : Int) < (z : Int) := by omega
        have HM2 : Hid ((∀ i, i < k + 1 → f i ≤ z) ∧ (z = 0 ∨ ∃ i, i < n ∧ z = f i)) := ⟨fun i hi => by
          by_cases e : i = k
          · subst e; omega
          · have := HM.out.1 i (by omega); omega, .inr ⟨k, hlt, hzz.symm⟩⟩
        clear hzz HM HZ
        go_wp2_with fail
        go_round
        case rel => exact ⟨k + 1, z, by omega, by omega, by go_num, rfl, HM2⟩
        case measure => simp [intOf]; omega
      · have hgi : ¬ (m : Int) < (z : Int) := by omega
        have HM2 : Hid ((∀ i, i < k + 1 → f i ≤ m) ∧ (m = 0 ∨ ∃ i, i < n ∧ m = f i)) := ⟨fun i hi => by
          by_cases e : i = k
          · subst e; omega
          · exact HM.out.1 i (by omega), HM.out.2⟩
        clear hzz HM HZ
        go_wp2_with fail
        go_round
        case rel => exact ⟨k + 1, m, by omega, by omega, by go_num, rfl, HM2⟩
        case measure => simp [intOf]; omega
    · have hki : ¬ (k : Int) < (n : Int) := by omega
      obtain rfl : k = n := by omega
      go_wp2_with fail
      go_ret
      exact ⟨⟨m, rfl, HM.out.1, HM.out.2⟩, rfl⟩

theorem oneB_iff (z : Int) : oneB z = true ↔ (0 ≤ z ∧ z ≤ 9000) := by unfold oneB; simp
set_option maxHeartbeats 4000000 in
set_option maxRecDepth 20000 in
theorem l3Room_is (a : Option Addr) (n c : Nat) (l : List Int) (M : Int) (w : World) (h : Ints w a l) (hn : l.length = n) (hb : n ≤ 1048576) :
    Calls Try.prog 44 #[.slice a n c, .int .i64 M] w fun e w' => e = .returned (.bool (fitB l M)) ∧ w' = w := by
  have HN : Hid (l.length = n) := hn
  have HI : Hid (Ints w a l) := h
  have HB : Hid (fitB l M = (decide (n ≤ 300) && (decide (1 ≤ M) && (decide (M ≤ 15) && (oftenB l && decide (Ct.come l ≤ 2 ^ M.toNat)))))) := by show _ = _; unfold fitB; rw [hn]
  clear h hn
  go_enter Try.func44, Try.ntmps44
  go_wp2_with fail
  go_loop [5, 6] (fun v i => ∃ k m : Nat, k ≤ n ∧ m ≤ k ∧ i = .int .i64 (k : Int) ∧ v = .int .i64 (m : Int) ∧ Hid ((∀ i (hi : i < l.length), i < k → 0 ≤ l[i] ∧ l[i] ≤ 9000) ∧ (initT l k).length = m)) (fun _ i => n - (intOf i).toNat)
  case atStart => exact ⟨0, 0, by omega, by omega, rfl, rfl, fun i _ hi => by omega, rfl⟩
  case round =>
    obtain ⟨k, m, hk, hm, rfl, rfl, HA⟩ := hrel
    by_cases hlt : k < n
    · have hki : (k : Int) < (n : Int) := by omega
      have hkl : k < l.length := by rw [HN.out]; exact hlt
      obtain ⟨b, off, rfl, hc⟩ : ∃ b off, a = some ⟨b, off, none⟩ ∧ w.cell? ⟨b, off + k, none⟩ = some (.int .i64 l[k]) := by
        rcases HI.out with e | ⟨b, off, e1, _, e3⟩
        · rw [e] at hkl; simp at hkl
        · exact ⟨b, off, e1, e3 k hkl⟩
      obtain ⟨z, hz⟩ : ∃ z, z = l[k] := ⟨_, rfl⟩
      have hgz : l.getD k 0 = z := by rw [List.getD_eq_getElem?_getD, List.getElem?_eq_getElem hkl, hz]; rfl
      rw [← hz] at hc
      by_cases hin : 0 ≤ z ∧ z ≤ 9000
      · have hA2 : ∀ i (hi : i < l.length), i < k + 1 → 0 ≤ l[i] ∧ l[i] ≤ 9000 := fun i hi hik => by
          by_cases e : i = k
          · subst e; rw [← hz]; exact hin
          · exact HA.out.1 i hi (by omega)
        have hit : initT l (k + 1) = if 0 < z then initT l k ++ [(z.toNat, .leaf k)] else initT l k := by rw [← hgz]; rfl
        have HIN : Hid (Calls Try.prog 50 #[.int .i64 z, .int .i64 0, .int .i64 9000] w fun e w' => e = .returned (.bool true) ∧ w' = w) := l1In_yes z 0 9000 w hin.1 hin.2
        by_cases hpos : 0 < z
        · have HA2 : Hid ((∀ i (hi : i < l.length), i < k + 1 → 0 ≤ l[i] ∧ l[i] ≤ 9000) ∧ (initT l (k + 1)).length = m + 1) := ⟨hA2, by rw [hit, if_pos hpos, List.length_append, HA.out.2]; rfl⟩
          clear hz HA hA2 hit hgz
          go_wp2_with fail
          refine HIN.out.mono ?_
          rintro e w1 ⟨rfl, hw1⟩
          replace hw1 := hw1.symm
          subst hw1
          go_wp2_with fail
          go_round
          case rel => exact ⟨k + 1, m + 1, by omega, by omega, by go_num, by go_num, HA2⟩
          case measure => simp [intOf]; omega
        · have HA2 : Hid ((∀ i (hi : i < l.length), i < k + 1 → 0 ≤ l[i] ∧ l[i] ≤ 9000) ∧ (initT l (k + 1)).length = m) := ⟨hA2, by rw [hit, if_neg hpos, HA.out.2]⟩
          clear hz HA hA2 hit hgz
          go_wp2_with fail
          refine HIN.out.mono ?_
          rintro e w1 ⟨rfl, hw1⟩
          replace hw1 := hw1.symm
          subst hw1
          go_wp2_with fail
          go_round
          case rel => exact ⟨k + 1, m, by omega, by omega, by go_num, rfl, HA2⟩
          case measure => simp [intOf]; omega
      · have HIN : Hid (Calls Try.prog 50 #[.int .i64 z, .int .i64 0, .int .i64 9000] w fun e w' => e = .returned (.bool false) ∧ w' = w) := l1In_no z 0 9000 w hin
        have HF : Hid (fitB l M = false) := by
          have ho : oftenB l = false := by
            unfold oftenB
            rw [List.all_eq_false]
            exact ⟨l[k], List.getElem_mem hkl, by rw [← hz]; intro q; exact hin ((oneB_iff z).1 q)⟩
          show _ = _
          rw [HB.out, ho]; simp
        clear hz HA hin hgz
        go_wp2_with fail
        refine HIN.out.mono ?_
        rintro e w1 ⟨rfl, hw1⟩
        replace hw1 := hw1.symm
        subst hw1
        go_wp2_with fail
        go_ret
        exact ⟨by rw [HF.out]; rfl, rfl⟩
    · have hki : ¬ (k : Int) < (n : Int) := by omega
      obtain rfl : k = n := by omega
      have ho : oftenB l = true := by
        unfold oftenB
        rw [List.all_eq_true]
        intro z hz
        obtain ⟨i, hi, rfl⟩ := List.getElem_of_mem hz
        exact (oneB_iff _).2 (HA.out.1 i hi (by rw [HN.out] at hi; omega))
      have hcm : Ct.come l = m := by unfold Ct.come; rw [HN.out, HA.out.2]
      by_cases hM : 1 ≤ M ∧ M ≤ 15
      · obtain ⟨P, hP⟩ : ∃ P : Nat, M = (P : Int) := ⟨M.toNat, by omega⟩
        subst hP
        have HIN : Hid (Calls Try.prog 50 #[.int .i64 (P : Int), .int .i64 1, .int .i64 15] w fun e w' => e = .returned (.bool true) ∧ w' = w) := l1In_yes _ 1 15 w hM.1 hM.2
        have HPW : Hid (Calls Try.prog 68 #[.int .i64 (P : Int)] w fun e w' => e = .returned (.int .i64 ((2 ^ P : Nat) : Int)) ∧ w' = w) := by
          have h9 := l1Pow_any P w (by omega)
          exact h9
        have hfb : fitB l (P : Int) = (decide (k ≤ 300) && decide (m ≤ 2 ^ P)) := by
          rw [HB.out, ho, hcm, decide_eq_true hM.1, decide_eq_true hM.2, Int.toNat_natCast]; simp
        have h2 : 2 ^ P ≤ 2 ^ 15 := Nat.pow_le_pow_right (by omega) (by omega)
        generalize 2 ^ P = T at *
        have HFB : Hid (fitB l (P : Int) = (decide (k ≤ 300) && decide (m ≤ T))) := hfb
        clear HA ho hcm hfb HB
        by_cases hmT : m ≤ T
        · have hmi : (m : Int) ≤ (T : Int) := by omega
          have dmi : decide ((m : Int) ≤ (T : Int)) = true := by simp; omega
          by_cases h300 : k ≤ 300
          · have h3i : (k : Int) ≤ 300 := by omega
            have HF : Hid (fitB l (P : Int) = true) := by show _ = _; rw [HFB.out, decide_eq_true h300, decide_eq_true hmT]; rfl
            clear HFB
            go_wp2_with fail
            refine HIN.out.mono ?_
            rintro e w1 ⟨rfl, hw1⟩
            replace hw1 := hw1.symm
            subst hw1
            go_wp2_with fail
            refine HPW.out.mono ?_
            rintro e w2 ⟨rfl, hw2⟩
            replace hw2 := hw2.symm
            subst hw2
            go_wp2_with fail
            go_ret
            exact ⟨by rw [HF.out]; rfl, rfl⟩
          · have h3d : decide ((k : Int) ≤ 300) = false := by simp; omega
            have HF : Hid (fitB l (P : Int) = false) := by show _ = _; rw [HFB.out, decide_eq_false h300]; rfl
            clear HFB
            go_wp2_with fail
            refine HIN.out.mono ?_
            rintro e w1 ⟨rfl, hw1⟩
            replace hw1 := hw1.symm
            subst hw1
            go_wp2_with fail
            refine HPW.out.mono ?_
            rintro e w2 ⟨rfl, hw2⟩
            replace hw2 := hw2.symm
            subst hw2
            go_wp2_with fail
            go_ret
            exact ⟨by rw [HF.out]; rfl, rfl⟩
        · have dmi : decide ((m : Int) ≤ (T : Int)) = false := by simp; omega
          have HF : Hid (fitB l (P : Int) = false) := by show _ = _; rw [HFB.out, decide_eq_false hmT]; simp
          clear HFB
          go_wp2_with fail
          refine HIN.out.mono ?_
          rintro e w1 ⟨rfl, hw1⟩
          replace hw1 := hw1.symm
          subst hw1
          go_wp2_with fail
          refine HPW.out.mono ?_
          rintro e w2 ⟨rfl, hw2⟩
          replace hw2 := hw2.symm
          subst hw2
          go_wp2_with fail
          go_ret
          exact ⟨by rw [HF.out]; rfl, rfl⟩
      · have HIN : Hid (Calls Try.prog 50 #[.int .i64 M, .int .i64 1, .int .i64 15] w fun e w' => e = .returned (.bool false) ∧ w' = w) := l1In_no M 1 15 w hM
        have HF : Hid (fitB l M = false) := by
          show _ = _
          rw [HB.out]
          by_cases q : 1 ≤ M
          · rw [decide_eq_false (show ¬ M ≤ 15 by omega)]; simp
          · rw [decide_eq_false q]; simp
        clear HA ho hcm HB
        go_wp2_with fail
        refine HIN.out.mono ?_
        rintro e w1 ⟨rfl, hw1⟩
        replace hw1 := hw1.symm
        subst hw1
        go_wp2_with fail
        go_ret
        exact ⟨by rw [HF.out]; rfl, rfl⟩

def SFitEnd (l : List Int) (m : Int) (w : World) (e : Ending) (w' : World) : Prop :=
  ((fitB l m = false ∧ ∃ a c, e = .returned (.slice a 0 c)) ∨ (fitB l m = true ∧ ∃ a c f, e = .returned (.slice a l.length c) ∧ Ints w' a ((List.range l.length).map (fun i => ((f i : Nat) : Int))) ∧ Ct.Fits m.toNat l f)) ∧ Below w.heap.size w w'
/-- the numbers, in a row that is written -/
def XRow (w W : World) (a1 : Option Addr) (n : Nat) (x : List Int) : Prop := x.length = n ∧ (n = 0 ∨ ∃ g, a1 = some ⟨g, 0, none⟩ ∧ w.heap.size ≤ g ∧ Own W g n (fun i => x.getD i 0))
theorem XRow.ints {w W : World} {a1 : Option Addr} {n : Nat} {x : List Int} (h : XRow w W a1 n x) : Ints W a1 x := by
  obtain ⟨h1, h2 | ⟨g, rfl, _, h3⟩⟩ := h
  · exact .inl (List.eq_nil_of_length_eq_zero (by omega))
  · refine .inr ⟨g, 0, rfl, h3.1, fun i hi => ?_⟩
    have := (h3.2 i (by omega)).1
    dsimp only at this
    rw [Nat.zero_add, this, List.getD_eq_getElem?_getD, List.getElem?_eq_getElem hi]
    rfl
theorem XRow.kept {w W W' : World} {a1 : Option Addr} {n : Nat} {x : List Int} (h : XRow w W a1 n x) (hb : Below W.heap.size W W') : XRow w W' a1 n x := by
  obtain ⟨h1, h2 | ⟨g, e, hg, h3⟩⟩ := h
  · exact ⟨h1, .inl h2⟩
  · exact ⟨h1, .inr ⟨g, e, hg, own_low h3 hb h3.1⟩⟩
end Go.Proofs.Ytcolgcddhchkhaa
