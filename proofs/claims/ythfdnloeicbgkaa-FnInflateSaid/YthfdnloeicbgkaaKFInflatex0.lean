/- Texts laid together: NsMath, NsUse, FxS, MarkWalks, AppInts, TkOwn, TyMath, DfRunM, BitRow, BitOwn, SymWalks, DfApp, DfOftM, CfMath, HpMath, CtMath, HpMem, CfInv, RdWalks, TextWalks, DrawWalks, DrawRow, CfMem, ExCodeCost, ExCodeFull, BpMath, BpAnswer, PutMath, DfRunS, BpRow, TextT, LimWalks, ConvWalks, BendWalks, RowCode. -/
import Derived.Test.YthfdnloeicbgkaaProg
import Derived.Deep.AppendLies
import Derived.Laws.OwnMore
import Derived.Laws.MakeOwn
import Derived.StillTailTactics
import Init
import Derived.RangeFuncBox
import Derived.Laws.Tables
import Derived.Below
import Derived.BigQuiet
import Derived.Deep.QuietTactic
import Derived.Deep.RegionHeld3
import Derived.Laws.IdiomStrings
import Derived.Test.YthfdnloeicbgkaaKFInflatex0a
/- Which codes a block may have, as the specification asks it (mathematics). -/
namespace Go.Proofs.Ythfdnloeicbgkaa
namespace Nf

theorem come_zero : ∀ {zs : List Int}, come zs = 0 → Cd.taken zs = 0 ∧ ∀ y ∈ zs, y = 0
  | [], _ => ⟨rfl, fun y hy => by cases hy⟩
  | z :: l, h => by
    rw [come_cons] at h
    by_cases hz : z = 0
    · have ih := come_zero (zs := l) (by omega)
      subst hz
      refine ⟨?_, fun y hy => ?_⟩
      · show Cd.part 0 + Cd.taken l = 0
        rw [ih.1]; rfl
      · rcases List.mem_cons.1 hy with e | e
        · exact e
        · exact ih.2 y e
    · rw [if_pos (by simp [hz])] at h; omega
theorem come_one : ∀ {zs : List Int}, come zs = 1 → ∃ z, z ∈ zs ∧ z ≠ 0 ∧ Cd.taken zs = Cd.part z ∧ ∀ y ∈ zs, y = z ∨ y = 0
  | [], h => by cases h
  | z :: l, h => by
    rw [come_cons] at h
    by_cases hz : z = 0
    · rw [if_neg (by simp [hz])] at h
      obtain ⟨x, h1, h2, h3, h4⟩ := come_one (zs := l) (by omega)
      subst hz
      refine ⟨x, List.mem_cons_of_mem _ h1, h2, ?_, fun y hy => ?_⟩
      · show Cd.part 0 + Cd.taken l = _
        rw [h3]; exact Nat.zero_add _
      · rcases List.mem_cons.1 hy with e | e
        · exact .inr e
        · exact h4 y e
    · rw [if_pos (by simp [hz])] at h
      have ih := come_zero (zs := l) (by omega)
      refine ⟨z, List.mem_cons_self .., hz, ?_, fun y hy => ?_⟩
      · show Cd.part z + Cd.taken l = _
        rw [ih.1]; rfl
      · rcases List.mem_cons.1 hy with e | e
        · exact .inl e
        · exact .inr (ih.2 y e)
theorem left_zero {zs : List Int} (hv : Cd.valid zs = true) : Cd.left zs = 0 ↔ Cd.taken zs = 32768 := by
  unfold Cd.left
  by_cases h : Cd.taken zs ≤ 32768
  · rw [if_pos ⟨hv, h⟩]; omega
  · rw [if_neg (fun g => h g.2)]; omega
/-- the greatest of some lengths -/
def IsMost (zs : List Int) (m : Nat) : Prop := (∀ z ∈ zs, z ≤ (m : Int)) ∧ (m = 0 ∨ (m : Int) ∈ zs)
theorem most_zero {zs : List Int} {m : Nat} (hv : Cd.valid zs = true) (h : IsMost zs m) : m = 0 ↔ come zs = 0 := by
  constructor
  · intro e
    subst e
    unfold come
    rw [List.countP_eq_zero]
    intro z hz
    have h1 := h.1 z hz
    have h2 := (valid_mem hv z hz).1
    have : z = 0 := by omega
    simp [this]
  · intro e
    rcases h.2 with h2 | h2
    · exact h2
    · have := (come_zero e).2 _ h2; omega
theorem part_half {z : Int} (h0 : z ≠ 0) (h : 0 ≤ z ∧ z ≤ 15) : Cd.part z = 16384 ↔ z = 1 := by
  have hc : z = 1 ∨ z = 2 ∨ z = 3 ∨ z = 4 ∨ z = 5 ∨ z = 6 ∨ z = 7 ∨ z = 8 ∨ z = 9 ∨ z = 10 ∨ z = 11 ∨ z = 12 ∨ z = 13 ∨ z = 14 ∨ z = 15 := by omega
  rcases hc with rfl | rfl | rfl | rfl | rfl | rfl | rfl | rfl | rfl | rfl | rfl | rfl | rfl | rfl | rfl <;> decide
theorem part_whole {z : Int} (h0 : z ≠ 0) (h : 0 ≤ z ∧ z ≤ 15) : Cd.part z ≠ 32768 := by
  have hc : z = 1 ∨ z = 2 ∨ z = 3 ∨ z = 4 ∨ z = 5 ∨ z = 6 ∨ z = 7 ∨ z = 8 ∨ z = 9 ∨ z = 10 ∨ z = 11 ∨ z = 12 ∨ z = 13 ∨ z = 14 ∨ z = 15 := by omega
  rcases hc with rfl | rfl | rfl | rfl | rfl | rfl | rfl | rfl | rfl | rfl | rfl | rfl | rfl | rfl | rfl <;> decide
/-- what the specification asks is what the program asks -/
theorem usable_may {zs : List Int} {m : Nat} (hv : Cd.valid zs = true) (hm : IsMost zs m) : may zs true = true ↔ (Cd.left zs = 0 ∨ come zs = 0 ∨ (come zs = 1 ∧ m = 1)) := by
  rw [left_zero hv]
  unfold may
  by_cases h0 : come zs = 0
  · rw [if_pos h0]; exact ⟨fun _ => .inr (.inl h0), fun _ => rfl⟩
  · rw [if_neg h0]
    by_cases h1 : come zs = 1
    · rw [if_pos h1, decide_eq_true_iff]
      obtain ⟨z, z1, z2, z3, z4⟩ := come_one h1
      have hz := valid_mem hv z z1
      have hp := part_half z2 hz
      have hw := part_whole z2 hz
      have hmz : (m : Int) = z := by
        have a1 := hm.1 z z1
        rcases hm.2 with e | e
        · omega
        · rcases z4 _ e with e | e
          · exact e
          · omega
      rw [z3, hp]
      constructor
      · intro e; exact .inr (.inr ⟨h1, by omega⟩)
      · rintro (e | e | e)
        · exact absurd e hw
        · omega
        · omega
    · rw [if_neg h1, decide_eq_true_iff]
      constructor
      · exact fun e => .inl e
      · rintro (e | e | e)
        · exact e
        · omega
        · omega
theorem may_false {zs : List Int} {m : Nat} (hv : Cd.valid zs = true) (hm : IsMost zs m) : may zs false = true ↔ (may zs true = true ∧ m ≠ 0) := by
  have h := most_zero hv hm
  unfold may
  by_cases h0 : come zs = 0
  · rw [if_pos h0, if_pos h0]; simp [h.2 h0]
  · rw [if_neg h0, if_neg h0]
    have : m ≠ 0 := fun e => h0 (h.1 e)
    simp [this]
end Nf
end Go.Proofs.Ythfdnloeicbgkaa

/- Which lengths may stand in a block, in the specification. -/
namespace Go.Proofs.Ythfdnloeicbgkaa
open Go.RowKit

theorem most_step {zs : List Int} {k m : Nat} (hk : k < zs.length) (h1 : ∀ z ∈ zs.take k, z ≤ (m : Int)) (h2 : m = 0 ∨ (m : Int) ∈ zs.take k) {z m2 : Nat} (hz : zs[k] = (z : Int)) (hm : m2 = max m z) : (∀ y ∈ zs.take (k + 1), y ≤ (m2 : Int)) ∧ (m2 = 0 ∨ (m2 : Int) ∈ zs.take (k + 1)) := by
  rw [Cd.take_snoc zs k hk, hz]
  constructor
  · intro y hy
    rcases List.mem_append.1 hy with e | e
    · have := h1 y e; omega
    · rw [List.mem_singleton.1 e]; omega
  · by_cases hmz : m < z
    · right
      rw [show m2 = z by omega]
      exact List.mem_append.2 (.inr (List.mem_singleton.2 rfl))
    · rw [show m2 = m by omega]
      rcases h2 with e | e
      · exact .inl e
      · exact .inr (List.mem_append.2 (.inl e))
set_option maxHeartbeats 1000000 in
theorem l3MostX (a : Option Addr) (n c : Nat) (l : List Int) (w : World) (h : Ints w a l) (hn : l.length = n) (hb : n ≤ 1000) (hv : Cd.valid l = true) :
    Calls Try.prog 111 #[.slice a n c] w fun e w' => (∃ m : Nat, e = .returned (.int .i64 (m : Int)) ∧ Nf.IsMost l m ∧ m ≤ 15) ∧ w' = w := by
  have HN : Hid (l.length = n) := hn
  have HI : Hid (Ints w a l) := h
  have HL : Hid (Cd.valid l = true) := hv
  clear h hn hv
  go_enter Try.func111, Try.ntmps111
  go_wp2_with fail
  go_loop [3, 4] (fun v i => ∃ k m : Nat, k ≤ n ∧ m ≤ 15 ∧ i = .int .i64 (k : Int) ∧ v = .int .i64 (m : Int) ∧ Hid ((∀ z ∈ l.take k, z ≤ (m : Int)) ∧ (m = 0 ∨ (m : Int) ∈ l.take k))) (fun _ i => n - (intOf i).toNat)
  case atStart => exact ⟨0, 0, by omega, by omega, rfl, rfl, ⟨fun z hz => by simp at hz, .inl rfl⟩⟩
  case round =>
    obtain ⟨k, m, hk, hm, rfl, rfl, HX⟩ := hrel
    by_cases hlt : k < n
    · have hki : (k : Int) < (n : Int) := by omega
      have hkl : k < l.length := by rw [HN.out]; exact hlt
      obtain ⟨b, off, rfl, hc⟩ : ∃ b off, a = some ⟨b, off, none⟩ ∧ w.cell? ⟨b, off + k, none⟩ = some (.int .i64 l[k]) := by
        rcases HI.out with e | ⟨b, off, e1, _, e3⟩
        · rw [e] at hkl; simp at hkl
        · exact ⟨b, off, e1, e3 k hkl⟩
      have hz := Nf.valid_mem HL.out _ (List.getElem_mem hkl)
      obtain ⟨z, hzz⟩ : ∃ z : Nat, l[k] = (z : Int) := ⟨l[k].toNat, by omega⟩
      have HS : ∀ m2, m2 = max m z → Hid ((∀ y ∈ l.take (k + 1), y ≤ (m2 : Int)) ∧ (m2 = 0 ∨ (m2 : Int) ∈ l.take (k + 1))) := fun m2 h2 => most_step hkl HX.out.1 HX.out.2 hzz h2
      rw [hzz] at hc hz
      clear hzz
      by_cases hgt : m < z
      · have hgi : (m : Int) < (z : Int) := by omega
        have HF := HS z (by omega)
        clear HS HX
        go_wp2_with fail
        go_round
        case rel => exact ⟨k + 1, z, by omega, by omega, by go_num, rfl, HF⟩
        case measure => simp [intOf]; omega
      · have hgi : ¬ (m : Int) < (z : Int) := by omega
        have HF := HS m (by omega)
        clear HS HX
        go_wp2_with fail
        go_round
        case rel => exact ⟨k + 1, m, by omega, by omega, by go_num, rfl, HF⟩
        case measure => simp [intOf]; omega
    · have hki : ¬ (k : Int) < (n : Int) := by omega
      have HF : Hid (Nf.IsMost l m) := by
        have h := HX.out
        rw [List.take_of_length_le (by have := HN.out; omega)] at h
        exact h
      clear HX
      go_wp2_with fail
      go_ret
      exact ⟨⟨m, rfl, HF.out, hm⟩, rfl⟩

theorem most_some : ∀ {zs : List Int}, Cd.valid zs = true → ∃ m, Nf.IsMost zs m
  | [], _ => ⟨0, (fun z hz => by cases hz), Or.inl rfl⟩
  | z :: l, hv => by
    obtain ⟨m, hm⟩ := most_some (zs := l) (Nf.valid_sub hv (fun y hy => List.mem_cons_of_mem _ hy))
    have hz := Nf.valid_mem hv z (List.mem_cons_self ..)
    by_cases hmz : (m : Int) < z
    · refine ⟨z.toNat, fun y hy => ?_, .inr ?_⟩
      · rcases List.mem_cons.1 hy with e | e
        · rw [e]; omega
        · have := hm.1 y e; omega
      · rw [show ((z.toNat : Nat) : Int) = z by omega]; exact List.mem_cons_self ..
    · refine ⟨m, fun y hy => ?_, ?_⟩
      · rcases List.mem_cons.1 hy with e | e
        · rw [e]; omega
        · exact hm.1 y e
      · rcases hm.2 with e | e
        · exact .inl e
        · exact .inr (List.mem_cons_of_mem _ e)
theorem come_nth {zs : List Int} {k : Nat} (h : k < zs.length) : Nf.come (zs.take (k + 1)) = Nf.come (zs.take k) + (if zs[k] != 0 then 1 else 0) := by
  rw [Cd.take_snoc zs k h, Nf.come_append]; unfold Nf.come; simp [List.countP_cons]
theorem ret_may {zs : List Int} {m : Nat} {b : Bool} (hv : Cd.valid zs = true) (hm : Nf.IsMost zs m) (h : b = true ↔ (Cd.left zs = 0 ∨ Nf.come zs = 0 ∨ (Nf.come zs = 1 ∧ m = 1))) : Nf.may zs true = b := by
  have := Nf.usable_may hv hm
  rw [← h] at this
  cases b <;> cases hh : Nf.may zs true <;> simp_all
set_option maxHeartbeats 2000000 in
theorem l4Usable_any (a : Option Addr) (cap n : Nat) (zs : List Int) (w : World) (h : Ints w a zs) (hn : zs.length = n) (hl : n ≤ 300) (hv : Cd.valid zs = true) :
    Calls Try.prog 110 #[.slice a n cap] w fun e w' => e = .returned (.bool (Nf.may zs true)) ∧ w' = w := by
  have HLF : Hid (Calls Try.prog 140 #[.slice a n cap] w fun e w' => e = .returned (.int .i64 (Cd.left zs)) ∧ w' = w) := l3Left_any a cap n zs w h hn hl
  have HMO : Hid (Calls Try.prog 111 #[.slice a n cap] w fun e w' => (∃ m : Nat, e = .returned (.int .i64 (m : Int)) ∧ Nf.IsMost zs m ∧ m ≤ 15) ∧ w' = w) := l3MostX a n cap zs w h hn (by omega) hv
  have HI : Hid (Ints w a zs) := h
  have HN : Hid (zs.length = n) := hn
  have HV : Hid (Cd.valid zs = true) := hv
  have HME : Hid (∃ q, Nf.IsMost zs q) := most_some hv
  by_cases hl0 : Cd.left zs = 0
  · rw [hl0] at HLF
    have HF : Hid (Nf.may zs true = true) := by
      obtain ⟨m, hm⟩ := HME.out
      exact (Nf.usable_may HV.out hm).2 (.inl hl0)
    clear h hn hv hl0
    go_enter Try.func110, Try.ntmps110
    go_wp2_with fail
    refine HLF.out.mono ?_
    rintro e w1 ⟨rfl, hw1⟩
    replace hw1 := hw1.symm
    subst hw1
    go_wp2_with fail
    go_ret
    exact ⟨ret_bool (by rw [HF.out]; all_goals first | rfl | (simp; done) | (simp; omega)), rfl⟩
  · obtain ⟨X, hX⟩ : ∃ X, X = Cd.left zs := ⟨_, rfl⟩
    rw [← hX] at HLF hl0
    have HL0 : Hid (¬ Cd.left zs = 0) := by rw [← hX]; exact hl0
    clear h hn hv hX
    go_enter Try.func110, Try.ntmps110
    go_wp2_with fail
    refine HLF.out.mono ?_
    rintro e w1 ⟨rfl, hw1⟩
    replace hw1 := hw1.symm
    subst hw1
    clear HLF
    go_wp2_with fail
    go_loop [3, 4] (fun v i => ∃ k m : Nat, k ≤ n ∧ m ≤ k ∧ i = .int .i64 (k : Int) ∧ v = .int .i64 (m : Int) ∧ Hid (m = Nf.come (zs.take k))) (fun _ i => n - (intOf i).toNat)
    case atStart => exact ⟨0, 0, by omega, by omega, rfl, rfl, rfl⟩
    case round =>
      obtain ⟨k, m, hk, hm, rfl, rfl, HX⟩ := hrel
      by_cases hlt : k < n
      · have hki : (k : Int) < (n : Int) := by omega
        have hkl : k < zs.length := by rw [HN.out]; exact hlt
        obtain ⟨b, off, rfl, hc⟩ : ∃ b off, a = some ⟨b, off, none⟩ ∧ w.cell? ⟨b, off + k, none⟩ = some (.int .i64 zs[k]) := by
          rcases HI.out with e | ⟨b, off, e1, _, e3⟩
          · rw [e] at hkl; simp at hkl
          · exact ⟨b, off, e1, e3 k hkl⟩
        have hz := Nf.valid_mem HV.out _ (List.getElem_mem hkl)
        have hcm := come_nth hkl
        obtain ⟨z, hzz⟩ : ∃ z : Nat, zs[k] = (z : Int) := ⟨zs[k].toNat, by omega⟩
        rw [hzz] at hc hz hcm
        clear hzz
        by_cases hgt : 0 < z
        · have hgi : (0 : Int) < (z : Int) := by omega
          have HF : Hid (m + 1 = Nf.come (zs.take (k + 1))) := by rw [if_pos (by simp; omega)] at hcm; show _ = _; rw [hcm, HX.out]
          clear HX hcm
          go_wp2_with fail
          go_round
          case rel => exact ⟨k + 1, m + 1, by omega, by omega, by go_num, by go_num, HF⟩
          case measure => simp [intOf]; omega
        · have hgi : ¬ (0 : Int) < (z : Int) := by omega
          have hz0 : z = 0 := by omega
          subst hz0
          have HF : Hid (m = Nf.come (zs.take (k + 1))) := by rw [if_neg (by simp)] at hcm; show _ = _; rw [hcm, HX.out]; rfl
          clear HX hcm
          go_wp2_with fail
          go_round
          case rel => exact ⟨k + 1, m, by omega, by omega, by go_num, rfl, HF⟩
          case measure => simp [intOf]; omega
      · have hki : ¬ (k : Int) < (n : Int) := by omega
        have HC : Hid (m = Nf.come zs) := by
          have h := HX.out
          rw [List.take_of_length_le (by have := HN.out; omega)] at h
          exact h
        clear HX
        by_cases hm0 : m = 0
        · subst hm0
          have HF : Hid (∀ q, Nf.IsMost zs q → Nf.may zs true = true) := fun q hq => (Nf.usable_may HV.out hq).2 (.inr (.inl HC.out.symm))
          go_wp2_with fail
          go_ret
          exact ⟨ret_bool (by obtain ⟨q, hq⟩ := HME.out; rw [HF.out q hq]; all_goals first | rfl | (simp; done) | (simp; omega)), rfl⟩
        · have hmi : ¬ (m : Int) = 0 := by omega
          by_cases hm1 : m = 1
          · subst hm1
            go_wp2_with fail
            refine HMO.out.mono ?_
            rintro e w1 ⟨⟨q, rfl, hq, hq15⟩, hw1⟩
            replace hw1 := hw1.symm
            subst hw1
            have HF : Hid (Nf.may zs true = decide ((q : Int) = 1)) := ret_may HV.out hq (by rw [decide_eq_true_iff]; have := HC.out; have := HL0.out; omega)
            clear hq
            go_wp2_with fail
            go_ret
            exact ⟨ret_bool (by rw [HF.out]; all_goals first | rfl | (simp; done) | (simp; omega)), rfl⟩
          · have hm1i : ¬ (m : Int) = 1 := by omega
            have HF : Hid (∀ q, Nf.IsMost zs q → Nf.may zs true = false) := fun q hq => ret_may HV.out hq (by have := HC.out; have := HL0.out; simp; omega)
            go_wp2_with fail
            go_ret
            exact ⟨ret_bool (by obtain ⟨q, hq⟩ := HME.out; rw [HF.out q hq]; all_goals first | rfl | (simp; done) | (simp; omega)), rfl⟩
end Go.Proofs.Ythfdnloeicbgkaa

/- The fixed codes of the specification. -/
namespace Go.Proofs.Ythfdnloeicbgkaa
open Go.RowKit

set_option maxHeartbeats 2000000 in
set_option maxRecDepth 20000 in
theorem l4Same_any (n : Int) (N : Nat) (hN : N ≤ 300) (w : World) :
    Calls Try.prog 41 #[.int .i64 n, .int .i64 (N : Int)] w fun e w' => (∃ a c, e = .returned (.slice a N c) ∧ OwnI w' w.heap.size (.slice a N c) N (List.replicate N n)) ∧ Below w.heap.size w w' := by
  obtain ⟨base, hbase⟩ : ∃ base, base = w.heap.size := ⟨_, rfl⟩
  have HO0 : Hid (OwnI (w.alloc (.cells #[] 3)) base (.slice (some ⟨base, 0, none⟩) 0 0) 0 (List.replicate 0 n) ∧ Below base w (w.alloc (.cells #[] 3))) := by
    rw [hbase]; exact ⟨ownI_none w, (Below.refl _ _).alloc (Nat.le_refl _) _⟩
  have HB : Hid (base = w.heap.size) := hbase
  go_enter Try.func41, Try.ntmps41
  go_wp2_with fail
  rw [← hbase]
  clear hbase
  go_loopw [5, 6] (fun o i wr => ∃ (k : Nat) (ao : Option Addr) (cap : Nat), k ≤ N ∧ i = .int .i64 (k : Int) ∧ o = .slice ao k cap ∧ Hid (OwnI wr base (.slice ao k cap) k (List.replicate k n) ∧ Below base w wr)) (fun _ i _ => N - (intOf i).toNat)
  case atStart => exact ⟨0, _, _, Nat.zero_le _, rfl, rfl, HO0⟩
  case round =>
    obtain ⟨k, ao, cap, hk, rfl, rfl, HR⟩ := hrel
    clear HO0
    by_cases hlt : k < N
    · have hki : (k : Int) < (N : Int) := by omega
      have hbw : base ≤ wr.heap.size := by rw [HB.out]; exact HR.out.2.size
      go_wp2_with (at_builtin; refine wpList_app1 wr (by rfl) _ _ (by rfl) base _ k (List.replicate k n) n (by rfl) HR.out.1 (by rfl) (by omega) hbw ?_)
      intro g7 cap7 w7 hown7 hg7
      have HF : Hid (OwnI w7 base (.slice (some ⟨g7, 0, none⟩) (k + 1) cap7) (k + 1) (List.replicate (k + 1) n) ∧ Below base w w7) := ⟨by rw [List.replicate_succ']; exact hown7, hg7.below HR.out.2 (Nat.le_refl _) hbw⟩
      clear hown7 hg7 HR
      go_wp2_with fail
      go_roundw
      case rel => exact ⟨k + 1, _, _, by omega, by go_num, rfl, HF⟩
      case measure => simp [intOf]; omega
    · have hki : ¬ (k : Int) < (N : Int) := by omega
      have hkN : k = N := by omega
      subst hkN
      have HE : Hid (OwnI wr w.heap.size (.slice ao k cap) k (List.replicate k n) ∧ Below w.heap.size w wr) := by have h := HR.out; rw [HB.out] at h; exact h
      clear HR
      go_wp2_with fail
      go_ret
      exact ⟨⟨_, _, rfl, HE.out.1⟩, HE.out.2⟩
theorem fixS_take {k : Nat} (hk : k < 288) : Df.fixS.take (k + 1) = Df.fixS.take k ++ [if k < 144 then 8 else if k < 256 then 9 else if k < 280 then 7 else 8] := by
  rw [List.take_succ_eq_append_getElem (by rw [Df.fixS_len]; exact hk)]
  congr 2
  unfold Df.fixS
  rw [List.getElem_map, List.getElem_range]
set_option maxHeartbeats 4000000 in
set_option maxRecDepth 20000 in
theorem l4Fixed_any (w : World) :
    Calls Try.prog 40 #[] w fun e w' => (∃ a c, e = .returned (.slice a 288 c) ∧ OwnI w' w.heap.size (.slice a 288 c) 288 Df.fixS) ∧ Below w.heap.size w w' := by
  obtain ⟨base, hbase⟩ : ∃ base, base = w.heap.size := ⟨_, rfl⟩
  have HO0 : Hid (OwnI (w.alloc (.cells #[] 3)) base (.slice (some ⟨base, 0, none⟩) 0 0) 0 (Df.fixS.take 0) ∧ Below base w (w.alloc (.cells #[] 3))) := by
    rw [hbase]; exact ⟨ownI_none w, (Below.refl _ _).alloc (Nat.le_refl _) _⟩
  have HB : Hid (base = w.heap.size) := hbase
  go_enter Try.func40, Try.ntmps40
  go_wp2_with fail
  rw [← hbase]
  clear hbase
  go_loopw [1, 2] (fun o i wr => ∃ (k : Nat) (ao : Option Addr) (cap : Nat), k ≤ 288 ∧ i = .int .i64 (k : Int) ∧ o = .slice ao k cap ∧ Hid (OwnI wr base (.slice ao k cap) k (Df.fixS.take k) ∧ Below base w wr)) (fun _ i _ => 288 - (intOf i).toNat)
  case atStart => exact ⟨0, _, _, Nat.zero_le _, rfl, rfl, HO0⟩
  case round =>
    obtain ⟨k, ao, cap, hk, rfl, rfl, HR⟩ := hrel
    clear HO0
    by_cases hlt : k < 288
    · have hki : (k : Int) < 288 := by omega
      have hbw : base ≤ wr.heap.size := by rw [HB.out]; exact HR.out.2.size
      have HT := fixS_take hlt
      by_cases h1 : k < 144
      · have h1i : (k : Int) < 144 := by omega
        rw [if_pos h1] at HT
        have HTH : Hid (Df.fixS.take (k + 1) = Df.fixS.take k ++ [8]) := HT
        clear HT
        go_wp2_with (at_builtin; refine wpList_app1 wr (by rfl) _ _ (by rfl) base _ k (Df.fixS.take k) 8 (by rfl) HR.out.1 (by rfl) (by omega) hbw ?_)
        intro g7 cap7 w7 hown7 hg7
        have HF : Hid (OwnI w7 base (.slice (some ⟨g7, 0, none⟩) (k + 1) cap7) (k + 1) (Df.fixS.take (k + 1)) ∧ Below base w w7) := ⟨by rw [HTH.out]; exact hown7, hg7.below HR.out.2 (Nat.le_refl _) hbw⟩
        clear hown7 hg7 HR HTH
        go_wp2_with fail
        go_roundw
        case rel => exact ⟨k + 1, _, _, by omega, by go_num, rfl, HF⟩
        case measure => simp [intOf]; omega
      · have h1i : ¬ (k : Int) < 144 := by omega
        rw [if_neg h1] at HT
        by_cases h2 : k < 256
        · have h2i : (k : Int) < 256 := by omega
          rw [if_pos h2] at HT
          have HTH : Hid (Df.fixS.take (k + 1) = Df.fixS.take k ++ [9]) := HT
          clear HT
          go_wp2_with (at_builtin; refine wpList_app1 wr (by rfl) _ _ (by rfl) base _ k (Df.fixS.take k) 9 (by rfl) HR.out.1 (by rfl) (by omega) hbw ?_)
          intro g7 cap7 w7 hown7 hg7
          have HF : Hid (OwnI w7 base (.slice (some ⟨g7, 0, none⟩) (k + 1) cap7) (k + 1) (Df.fixS.take (k + 1)) ∧ Below base w w7) := ⟨by rw [HTH.out]; exact hown7, hg7.below HR.out.2 (Nat.le_refl _) hbw⟩
          clear hown7 hg7 HR HTH
          go_wp2_with fail
          go_roundw
          case rel => exact ⟨k + 1, _, _, by omega, by go_num, rfl, HF⟩
          case measure => simp [intOf]; omega
        · have h2i : ¬ (k : Int) < 256 := by omega
          rw [if_neg h2] at HT
          by_cases h3 : k < 280
          · have h3i : (k : Int) < 280 := by omega
            rw [if_pos h3] at HT
            have HTH : Hid (Df.fixS.take (k + 1) = Df.fixS.take k ++ [7]) := HT
            clear HT
            go_wp2_with (at_builtin; refine wpList_app1 wr (by rfl) _ _ (by rfl) base _ k (Df.fixS.take k) 7 (by rfl) HR.out.1 (by rfl) (by omega) hbw ?_)
            intro g7 cap7 w7 hown7 hg7
            have HF : Hid (OwnI w7 base (.slice (some ⟨g7, 0, none⟩) (k + 1) cap7) (k + 1) (Df.fixS.take (k + 1)) ∧ Below base w w7) := ⟨by rw [HTH.out]; exact hown7, hg7.below HR.out.2 (Nat.le_refl _) hbw⟩
            clear hown7 hg7 HR HTH
            go_wp2_with fail
            go_roundw
            case rel => exact ⟨k + 1, _, _, by omega, by go_num, rfl, HF⟩
            case measure => simp [intOf]; omega
          · have h3i : ¬ (k : Int) < 280 := by omega
            rw [if_neg h3] at HT
            have HTH : Hid (Df.fixS.take (k + 1) = Df.fixS.take k ++ [8]) := HT
            clear HT
            go_wp2_with (at_builtin; refine wpList_app1 wr (by rfl) _ _ (by rfl) base _ k (Df.fixS.take k) 8 (by rfl) HR.out.1 (by rfl) (by omega) hbw ?_)
            intro g7 cap7 w7 hown7 hg7
            have HF : Hid (OwnI w7 base (.slice (some ⟨g7, 0, none⟩) (k + 1) cap7) (k + 1) (Df.fixS.take (k + 1)) ∧ Below base w w7) := ⟨by rw [HTH.out]; exact hown7, hg7.below HR.out.2 (Nat.le_refl _) hbw⟩
            clear hown7 hg7 HR HTH
            go_wp2_with fail
            go_roundw
            case rel => exact ⟨k + 1, _, _, by omega, by go_num, rfl, HF⟩
            case measure => simp [intOf]; omega
    · have hki : ¬ (k : Int) < 288 := by omega
      have hkN : k = 288 := by omega
      subst hkN
      have HE : Hid (OwnI wr w.heap.size (.slice ao 288 cap) 288 Df.fixS ∧ Below w.heap.size w wr) := by
        have h := HR.out
        rw [HB.out, List.take_of_length_le (by rw [Df.fixS_len]; exact Nat.le_refl _)] at h
        exact h
      clear HR
      go_wp2_with fail
      go_ret
      exact ⟨⟨_, _, rfl, HE.out.1⟩, HE.out.2⟩
end Go.Proofs.Ythfdnloeicbgkaa

/- Marks laid into a list of the call's own, and found again. -/
namespace Go.Proofs.Ythfdnloeicbgkaa
open Go.RowKit

/-- n cells at the head of block b, which can be written -/
def Own (w : World) (b n : Nat) (f : Nat → Int) : Prop := b < w.heap.size ∧ ∀ i, i < n → w.cell? ⟨b, i, none⟩ = some (.int .i64 (f i)) ∧ w.frozen? ⟨b, i, none⟩ = false

/-- nothing but block b has turned -/
structure Turned (b : Nat) (w w' : World) : Prop where
  os : w'.os = w.os
  tape : w'.tape = w.tape
  output : w'.output = w.output
  size : w'.heap.size = w.heap.size
  rest : ∀ k, k ≠ b → w'.heap[k]? = w.heap[k]?

theorem Turned.refl (b : Nat) (w : World) : Turned b w w := ⟨rfl, rfl, rfl, rfl, fun _ _ => rfl⟩
theorem Turned.set {b : Nat} {w w' : World} (h : Turned b w w') (i : Nat) (v : Value) : Turned b w (w'.setCell ⟨b, i, none⟩ v) :=
  ⟨h.os, h.tape, h.output, by rw [World.size_setCell]; exact h.size, fun k hk => (Below.heap_setCell w' ⟨b, i, none⟩ v k hk).trans (h.rest k hk)⟩
theorem Turned.below {b lo : Nat} {w w' : World} (h : Turned b w w') (hb : lo ≤ b) : Below lo w w' :=
  ⟨h.os, h.tape, h.output, Nat.le_of_eq h.size.symm, fun k hk => h.rest k (by omega)⟩
theorem Turned.ints {b : Nat} {w w' : World} (h : Turned b w w') {a : Option Addr} {zs : List Int} (hI : Ints w a zs) (hne : ∀ x, a = some x → x.block ≠ b) : Ints w' a zs := by
  rcases hI with e | ⟨c, off, rfl, hc, hcell⟩
  · exact .inl e
  · exact .inr ⟨c, off, rfl, by rw [h.size]; exact hc, fun i hi => (World.cell?_of_block (w := w) (a := ⟨c, off + i, none⟩) (h.rest c (hne _ rfl))).trans (hcell i hi)⟩
theorem Turned.owns {b lo : Nat} {w w' : World} (h : Turned b w w') {a : Option Addr} {l : List Int} (hI : Owns w lo a l) (hne : b < lo) : Owns w' lo a l := by
  rcases hI with e | ⟨c, rfl, hlo, hc, hcell⟩
  · exact .inl e
  · refine .inr ⟨c, rfl, hlo, by rw [h.size]; exact hc, fun i hi => ⟨?_, ?_⟩⟩
    · exact (World.cell?_of_block (w := w) (a := ⟨c, i, none⟩) (h.rest c (by omega))).trans (hcell i hi).1
    · exact (World.frozen?_of_block (w := w) (a := ⟨c, i, none⟩) (h.rest c (by omega))).trans (hcell i hi).2
theorem Owns.kept {w w' : World} {lo : Nat} {a : Option Addr} {l : List Int} (h : Owns w lo a l) (hb : Below w.heap.size w w') : Owns w' lo a l := by
  rcases h with e | ⟨c, rfl, hlo, hc, hcell⟩
  · exact .inl e
  · exact .inr ⟨c, rfl, hlo, Nat.lt_of_lt_of_le hc hb.size, fun i hi => ⟨(hb.cell (p := ⟨c, i, none⟩) hc).trans (hcell i hi).1, (hb.frozen (p := ⟨c, i, none⟩) hc).trans (hcell i hi).2⟩⟩

theorem Own.step {w : World} {b n k : Nat} {f g : Nat → Int} (h : Own w b n f) (hk : k < n) (hg : g k = (k : Int) + 1) (hf : ∀ i, i < n → i ≠ k → g i = f i) :
    Own (w.setCell ⟨b, k, none⟩ (.int .i64 ((k : Int) + 1))) b n g := by
  refine ⟨by rw [World.size_setCell]; exact h.1, fun i hi => ⟨?_, ?_⟩⟩
  · by_cases e : i = k
    · subst e; rw [World.cell?_setCell_same _ _ _ (h.2 i hi).1, hg]
    · rw [World.cell?_setCell_other _ _ _ _ (fun q => e (congrArg Addr.off q).symm), (h.2 i hi).1, hf i hi e]
  · rw [World.frozen?_setCell]; exact (h.2 i hi).2

end Go.Proofs.Ythfdnloeicbgkaa

/- Ints appended to a row of the call's own: none or more. -/
namespace Go.Proofs.Ythfdnloeicbgkaa
open Go.RowKit

/-- nothing is appended -/
theorem append_nothing (a : Option Addr) (n cap : Nat) (h : n ≤ cap) (b : Option Addr) (c : Nat) (ty : TypeId) (w : World) :
    (Builtin.append_ #[44, 44] ty #[.slice a n cap, .slice b 0 c]).run Try.prog w = .ok (.slice a n cap) w := by
  obtain ⟨i0, hi0, hz0, hz1, hz2⟩ := info_parts info_int
  cases a <;> cases b <;> simp [Builtin.append_, run_underlying Try.underlying44, sizeOf, typeInfo, hi0, Builtin.lenOf, Builtin.firstCells, h, storeCells, loadCells, loadCellsFrom]

theorem run_append_ints (ty : TypeId) (base : Nat) (v : Value) (n : Nat) (l : List Int) (w : World) (hown : OwnI w base v n l) (ca : Option Addr) (m c : Nat) (cs : List Int) (hc : Ints w ca cs) (hm : cs.length = m) (h63 : n + m ≤ 9000000) (hbase : base ≤ w.heap.size) :
    ∃ a cap w', (Builtin.append_ #[44, 44] ty #[v, .slice ca m c]).run Try.prog w = .ok (.slice a (n + m) cap) w' ∧ OwnI w' base (.slice a (n + m) cap) (n + m) (l ++ cs) ∧ w.grownBy w' v.ownBlock := by
  obtain ⟨i0, hi0, hz0, hz1, hz2⟩ := info_parts info_int
  rcases Nat.eq_zero_or_pos m with h0 | hp
  · subst h0
    have hcs : cs = [] := List.eq_nil_of_length_eq_zero hm
    subst hcs
    obtain ⟨ao, cap, rfl, _⟩ := hown.owns
    have hle : n ≤ cap := by
      rcases hown.2 with ⟨e, h0⟩ | ⟨g, cap', cur, e, _, _, h1, _⟩
      · cases e; omega
      · cases e; exact h1
    refine ⟨ao, cap, w, append_nothing ao n cap hle ca c ty w, by simpa using hown, ⟨rfl, rfl, rfl, Nat.le_refl _, fun _ _ _ => rfl⟩⟩
  · rcases hc with e | ⟨b, off, rfl, hb, hcell⟩
    · rw [e] at hm; simp at hm; omega
    · obtain ⟨g, cap, w', hr, h2, h3, _, _⟩ := run_append_lies (P := Try.prog) w 44 ty base 3 i0 (.int .i64 0) 1 8 Try.underlying44 hi0 hz0 hz1 hz2 rfl (by decide) v n (intsV l) hown ⟨b, off, none⟩ m c (intsV cs) (by rw [intsV_len]; omega)
        (fun j u hu => by
          have hj : j < cs.length := by
            rcases Nat.lt_or_ge j cs.length with h | h
            · exact h
            · rw [List.getElem?_eq_none (by rw [intsV_len]; exact h)] at hu; cases hu
          rw [intsV_get cs j hj] at hu
          cases hu
          have hadd : (⟨b, off, none⟩ : Addr).add j = ⟨b, off + j, none⟩ := by unfold Addr.add; split <;> simp_all
          rw [hadd]; exact hcell j hj)
        (fun u hu => by simp [intsV] at hu; obtain ⟨x, _, rfl⟩ := hu; rfl) hp (by unfold maxLen; omega) (by omega) hbase w.heap.size rfl
      exact ⟨some ⟨g, 0, none⟩, cap, w', hr, by show World.ownsRow _ _ _ _ _ _ _; rw [show intsV (l ++ cs) = intsV l ++ intsV cs by simp [intsV]]; exact h2, h3⟩

theorem wp_append_ints {w : World} {o : Oper} {a : Act} {K : Act → World → Prop} {Q : Exit → Act → World → Prop} (s x : Operand)
    (ho : o.op = .call { callee := .builtin .append, args := #[s, x], argTypes := #[44, 44] })
    (base : Nat) (v : Value) (n : Nat) (l : List Int) (hs : a.eval s = v) (hown : OwnI w base v n l) (ca : Option Addr) (m c : Nat) (cs : List Int) (hx : a.eval x = .slice ca m c) (hc : Ints w ca cs) (hm : cs.length = m) (h63 : n + m ≤ 9000000) (hbase : base ≤ w.heap.size)
    (h : ∀ a' cap w', OwnI w' base (.slice a' (n + m) cap) (n + m) (l ++ cs) → w.grownBy w' v.ownBlock → K (a.put o.dst (.slice a' (n + m) cap)) w') : o.wp Try.prog a w K Q := by
  obtain ⟨a', cap, w', hr, h2, h3⟩ := run_append_ints o.type base v n l w hown ca m c cs hc hm h63 hbase
  unfold Oper.wp execOp
  simp only [ho, resolve, invoke, builtin, Sem.run_bind, Sem.run_pure, Result.andThen_ok, List.map_toArray, List.map_cons, List.map_nil, hs, hx, hr]
  exact h a' cap w' h2 h3

theorem wpList_append_ints {w : World} {ops : Array Oper} {rest : List Oper} {o : Oper} {a : Act} {Q : Exit → Act → World → Prop} (hgd : o.guard = none) (s x : Operand)
    (ho : o.op = .call { callee := .builtin .append, args := #[s, x], argTypes := #[44, 44] })
    (base : Nat) (v : Value) (n : Nat) (l : List Int) (hs : a.eval s = v) (hown : OwnI w base v n l) (ca : Option Addr) (m c : Nat) (cs : List Int) (hx : a.eval x = .slice ca m c) (hc : Ints w ca cs) (hm : cs.length = m) (h63 : n + m ≤ 9000000) (hbase : base ≤ w.heap.size)
    (h : ∀ a' cap w', OwnI w' base (.slice a' (n + m) cap) (n + m) (l ++ cs) → w.grownBy w' v.ownBlock → wpList Try.prog ops Q rest (a.put o.dst (.slice a' (n + m) cap)) w') : wpList Try.prog ops Q (o :: rest) a w :=
  wpList_plain hgd fun _ hK => wp_append_ints s x ho base v n l hs hown ca m c cs hx hc hm h63 hbase fun a' cap w' h2 h3 => hK _ _ (h a' cap w' h2 h3)

theorem step_append_ints {w : World} {ops : Array Oper} {o : Oper} {a : Act} {K : Act → World → Prop} {Q : Exit → Act → World → Prop} {E : Prop} (hgd : o.guard = none) (s x : Operand)
    (ho : o.op = .call { callee := .builtin .append, args := #[s, x], argTypes := #[44, 44] })
    (base : Nat) (v : Value) (n : Nat) (l : List Int) (hs : a.eval s = v) (hown : OwnI w base v n l) (ca : Option Addr) (m c : Nat) (cs : List Int) (hx : a.eval x = .slice ca m c) (hc : Ints w ca cs) (hm : cs.length = m) (h63 : n + m ≤ 9000000) (hbase : base ≤ w.heap.size)
    (h : ∀ a' cap w', OwnI w' base (.slice a' (n + m) cap) (n + m) (l ++ cs) → w.grownBy w' v.ownBlock → K (a.put o.dst (.slice a' (n + m) cap)) w') :
    if Region.wanted o (yielded ops a.tmps) = true then Oper.wp Try.prog o a w K Q else E := by
  have hw : Region.wanted o (yielded ops a.tmps) = true := by simp [Region.wanted, hgd]
  rw [if_pos hw]
  exact wp_append_ints s x ho base v n l hs hown ca m c cs hx hc hm h63 hbase h
end Go.Proofs.Ythfdnloeicbgkaa

/- A list of tokens in a row of one's own. -/
namespace Go.Proofs.Ythfdnloeicbgkaa
open Go.RowKit

theorem info_tok : (Try.prog.info? 70).map (fun i => (i.zero, i.size, i.bytes)) = some (some (.agg #[.int .i64 0, .int .i64 0, .int .i64 0]), 3, 24) := by kernel_rfl

def tkCells : List Tk → List Value
  | [] => []
  | p :: l => .int .i64 p.1 :: .int .i64 p.2.1 :: .int .i64 p.2.2 :: tkCells l
theorem tkCells_len : ∀ l : List Tk, (tkCells l).length = l.length * 3
  | [] => rfl
  | p :: l => by simp only [tkCells, List.length_cons, tkCells_len l]; omega
theorem tkCells_get : ∀ (l : List Tk) (i : Nat) (h : i < l.length), (tkCells l)[i * 3]? = some (.int .i64 (l[i]).1) ∧ (tkCells l)[i * 3 + 1]? = some (.int .i64 (l[i]).2.1) ∧ (tkCells l)[i * 3 + 2]? = some (.int .i64 (l[i]).2.2)
  | [], i, h => by simp at h
  | p :: l, 0, h => by simp [tkCells]
  | p :: l, i + 1, h => by
    have := tkCells_get l i (by simpa using h)
    rw [show (i + 1) * 3 = i * 3 + 1 + 1 + 1 by omega, show i * 3 + 1 + 1 + 1 + 2 = i * 3 + 2 + 1 + 1 + 1 by omega]
    simp only [tkCells, List.getElem?_cons_succ, List.getElem_cons_succ]
    exact this
theorem tkCells_set : ∀ (l : List Tk) (k : Nat) (v s d : Int), k < l.length → (((tkCells l).set (k * 3) (.int .i64 v)).set (k * 3 + 1) (.int .i64 s)).set (k * 3 + 2) (.int .i64 d) = tkCells (l.set k (v, s, d))
  | [], k, v, s, d, h => by simp at h
  | p :: l, 0, v, s, d, h => by simp [tkCells]
  | p :: l, k + 1, v, s, d, h => by
    have := tkCells_set l k v s d (by simpa using h)
    rw [show (k + 1) * 3 = k * 3 + 1 + 1 + 1 by omega, show k * 3 + 1 + 1 + 1 + 2 = k * 3 + 2 + 1 + 1 + 1 by omega]
    simp only [tkCells, List.set_cons_succ]
    rw [this]

def OwnK (w : World) (B : Nat) (v : Value) (n : Nat) (l : List Tk) : Prop := w.ownsRow B 70 3 v n (tkCells l)
theorem OwnK.len {w : World} {B n : Nat} {v : Value} {l : List Tk} (h : OwnK w B v n l) : l.length = n := by
  have := h.1
  rw [tkCells_len] at this; omega
theorem OwnK.toks {w : World} {B n : Nat} {v : Value} {l : List Tk} (h : OwnK w B v n l) : ∃ ao cap, v = .slice ao n cap ∧ Toks w ao l := by
  have hl := h.len
  rcases h.2 with ⟨rfl, h0⟩ | ⟨g, cap, cur, rfl, _, hg, _, _, _, ht⟩
  · subst h0
    exact ⟨none, 0, rfl, .inl (List.eq_nil_of_length_eq_zero hl)⟩
  · refine ⟨some ⟨g, 0, none⟩, cap, rfl, .inr ⟨g, 0, rfl, (Array.getElem?_eq_some_iff.1 hg).1, fun i hi => ?_⟩⟩
    obtain ⟨c1, c2, c3⟩ := tkCells_get l i hi
    rw [Nat.zero_add]
    exact ⟨(World.ownsRow.cellAt h (i * 3) (by omega)).trans c1, (World.ownsRow.cellAt h (i * 3 + 1) (by omega)).trans c2, (World.ownsRow.cellAt h (i * 3 + 2) (by omega)).trans c3⟩
theorem OwnK.same {w w' : World} {B n : Nat} {v : Value} {l : List Tk} (h : OwnK w B v n l) (hk : ∀ k, k < w.heap.size → B ≤ k → w'.heap[k]? = w.heap[k]?) : OwnK w' B v n l := by
  refine ⟨h.1, ?_⟩
  rcases h.2 with h2 | ⟨g, cap, cur, hv, hg, hh, r⟩
  · exact .inl h2
  · exact .inr ⟨g, cap, cur, hv, hg, by rw [hk g (Array.getElem?_eq_some_iff.1 hh).1 hg]; exact hh, r⟩
theorem OwnK.put {w : World} {B n g cap k : Nat} {l : List Tk} (h : OwnK w B (.slice (some ⟨g, 0, none⟩) n cap) n l) (hk : k < n) (v s d : Int) :
    OwnK (((w.setCell ⟨g, k * 3, none⟩ (.int .i64 v)).setCell ⟨g, k * 3 + 1, none⟩ (.int .i64 s)).setCell ⟨g, k * 3 + 2, none⟩ (.int .i64 d)) B (.slice (some ⟨g, 0, none⟩) n cap) n (l.set k (v, s, d)) := by
  have h1 := (World.ownsRow.stored h (k * 3) (.int .i64 v)).1
  have h2 := (World.ownsRow.stored h1 (k * 3 + 1) (.int .i64 s)).1
  have h3 := (World.ownsRow.stored h2 (k * 3 + 2) (.int .i64 d)).1
  rw [tkCells_set l k v s d (by rw [h.len]; exact hk)] at h3
  exact h3

end Go.Proofs.Ythfdnloeicbgkaa

/- What comes again in a text (mathematics). -/
namespace Go.Proofs.Ythfdnloeicbgkaa
namespace Ty

/-- the byte at a place -/
def b (s : ByteArray) (i : Nat) : Nat := if h : i < s.size then (s[i]).toNat else 0
theorem b_at {s : ByteArray} {i : Nat} (h : i < s.size) : b s i = (s[i]).toNat := dif_pos h
theorem b_lt (s : ByteArray) (i : Nat) : b s i < 256 := by
  unfold b
  split
  · exact UInt8.toNat_lt _
  · omega
/-- how many are alike -/
def mat (s : ByteArray) : Nat → Nat → Nat → Nat
  | _, _, 0 => 0
  | a, c, f + 1 => if c < s.size ∧ b s a = b s c then mat s (a + 1) (c + 1) f + 1 else 0
theorem mat_yes {s : ByteArray} {a c f : Nat} (h1 : c < s.size) (h2 : b s a = b s c) : mat s a c (f + 1) = mat s (a + 1) (c + 1) f + 1 := by rw [mat, if_pos ⟨h1, h2⟩]
theorem mat_no {s : ByteArray} {a c f : Nat} (h : ¬ (c < s.size ∧ b s a = b s c)) : mat s a c f = 0 := by
  cases f with
  | zero => rfl
  | succ f => rw [mat, if_neg h]
theorem mat_le (s : ByteArray) : ∀ (f a c : Nat), mat s a c f ≤ f
  | 0, _, _ => Nat.le_refl _
  | f + 1, a, c => by
    rw [mat]
    split
    · have := mat_le s f (a + 1) (c + 1); omega
    · omega
theorem mat_in (s : ByteArray) : ∀ (f a c : Nat), c ≤ s.size → c + mat s a c f ≤ s.size
  | 0, _, _, h => h
  | f + 1, a, c, h => by
    rw [mat]
    split
    · rename_i h1
      have := mat_in s f (a + 1) (c + 1) (by omega); omega
    · exact h
/-- three bytes stand there, and are those of the other place -/
def three (s : ByteArray) (p c : Nat) : Prop := c + 3 ≤ s.size ∧ b s p = b s c ∧ b s (p + 1) = b s (c + 1) ∧ b s (p + 2) = b s (c + 2)
/-- one more place that is looked at -/
def upd (s : ByteArray) (A : Nat) (g : Nat × Nat) (p : Nat) : Nat × Nat := if g.1 < mat s p A 258 then (mat s p A 258, A - p) else g
/-- the best of those not farther back than k -/
def bst (s : ByteArray) (A : Nat) : Nat → Nat × Nat
  | 0 => (0, 0)
  | k + 1 => upd s A (bst s A k) (A - (k + 1))
theorem upd_le {s : ByteArray} {A : Nat} {g : Nat × Nat} (p : Nat) (h : g.1 ≤ 258) : (upd s A g p).1 ≤ 258 := by
  unfold upd
  split
  · exact mat_le _ _ _ _
  · exact h
theorem bst_le (s : ByteArray) (A : Nat) : ∀ k, (bst s A k).1 ≤ 258
  | 0 => by simp [bst]
  | k + 1 => upd_le _ (bst_le s A k)
/-- the best one is one of those that were looked at -/
theorem bst_is (s : ByteArray) (A : Nat) : ∀ k, k ≤ A → (bst s A k).1 = 0 ∨ (1 ≤ (bst s A k).2 ∧ (bst s A k).2 ≤ k ∧ (bst s A k).1 = mat s (A - (bst s A k).2) A 258)
  | 0, _ => .inl rfl
  | k + 1, h => by
    have ih := bst_is s A k (by omega)
    rw [bst, upd]
    split
    · right
      refine ⟨by show 1 ≤ A - (A - (k + 1)); omega, by show A - (A - (k + 1)) ≤ k + 1; omega, ?_⟩
      show _ = mat s (A - (A - (A - (k + 1)))) A 258
      rw [show A - (A - (A - (k + 1))) = A - (k + 1) by omega]
    · rcases ih with h1 | ⟨h1, h2, h3⟩
      · exact .inl h1
      · exact .inr ⟨h1, by omega, h3⟩
instance (s : ByteArray) (p c : Nat) : Decidable (three s p c) := by unfold three; infer_instance
/-- the token at a place, and where the next one stands -/
def tok (s : ByteArray) (A : Nat) : Tk := if 3 ≤ (bst s A A).1 then (0, ((bst s A A).1 : Int), ((bst s A A).2 : Int)) else ((b s A : Int), 0, 0)
def adv (s : ByteArray) (A : Nat) : Nat := if 3 ≤ (bst s A A).1 then (bst s A A).1 else 1
theorem adv_pos (s : ByteArray) (A : Nat) : 1 ≤ adv s A := by unfold adv; split <;> omega
theorem adv_in {s : ByteArray} {A : Nat} (h : A < s.size) : A + adv s A ≤ s.size := by
  unfold adv
  split
  · rename_i h3
    rcases bst_is s A A (Nat.le_refl _) with h0 | ⟨_, _, h4⟩
    · omega
    · rw [h4]
      exact mat_in s 258 _ A (by omega)
  · omega
def all (s : ByteArray) : Nat → Nat → List Tk
  | 0, _ => []
  | f + 1, A => if A < s.size then tok s A :: all s f (A + adv s A) else []
theorem all_fuel (s : ByteArray) : ∀ (f f' A : Nat), s.size - A ≤ f → s.size - A ≤ f' → all s f A = all s f' A
  | 0, 0, _, _, _ => rfl
  | 0, f' + 1, A, h, _ => by rw [all, all, if_neg (by omega)]
  | f + 1, 0, A, _, h => by rw [all, all, if_neg (by omega)]
  | f + 1, f' + 1, A, h, h' => by
    rw [all, all]
    by_cases hA : A < s.size
    · rw [if_pos hA, if_pos hA, all_fuel s f f' _ (by have := adv_pos s A; omega) (by have := adv_pos s A; omega)]
    · rw [if_neg hA, if_neg hA]
def from_ (s : ByteArray) (A : Nat) : List Tk := all s (s.size - A) A
theorem from_step {s : ByteArray} {A : Nat} (h : A < s.size) : from_ s A = tok s A :: from_ s (A + adv s A) := by
  unfold from_
  obtain ⟨f, hf⟩ : ∃ f, s.size - A = f + 1 := ⟨s.size - A - 1, by omega⟩
  rw [hf, all, if_pos h, all_fuel s f (s.size - (A + adv s A)) _ (by have := adv_pos s A; omega) (Nat.le_refl _)]
theorem from_end {s : ByteArray} {A : Nat} (h : ¬ A < s.size) : from_ s A = [] := by
  unfold from_
  rw [show s.size - A = 0 by omega]; rfl
theorem all_len (s : ByteArray) : ∀ f A, (all s f A).length ≤ f
  | 0, _ => Nat.le_refl _
  | f + 1, A => by
    rw [all]
    split
    · rw [List.length_cons]; have := all_len s f (A + adv s A); omega
    · simp
theorem from_len (s : ByteArray) (A : Nat) : (from_ s A).length ≤ s.size - A := all_len s _ _
end Ty
end Go.Proofs.Ythfdnloeicbgkaa

/- Lengths as symbols: noughts in a row, and what comes again (mathematics); a row of symbols with their further bits. -/
namespace Go.Proofs.Ythfdnloeicbgkaa
open Go.RowKit
namespace Df
/-- how many are the same from a place on -/
def alike (l : List Int) (p : Nat) : Nat := 1 + ((l.drop (p + 1)).takeWhile (fun z => z == l.getD p 0)).length
theorem alike_step {l : List Int} {p n : Nat} (h : p + n < l.length) (he : l[p + n] = l.getD p 0) : ((l.drop (p + n)).takeWhile (fun z => z == l.getD p 0)).length = 1 + ((l.drop (p + (n + 1))).takeWhile (fun z => z == l.getD p 0)).length := by
  rw [List.drop_eq_getElem_cons h, List.takeWhile_cons, he, beq_self_eq_true, if_pos rfl, List.length_cons, Nat.add_comm, Nat.add_assoc]
theorem alike_stop {l : List Int} {p n : Nat} (h : ∀ h : p + n < l.length, l[p + n] ≠ l.getD p 0) : ((l.drop (p + n)).takeWhile (fun z => z == l.getD p 0)).length = 0 := by
  by_cases h1 : p + n < l.length
  · rw [List.drop_eq_getElem_cons h1, List.takeWhile_cons]
    have h2 : (l[p + n] == l.getD p 0) = false := beq_eq_false_iff_ne.2 (h h1)
    rw [h2]
    rfl
  · rw [List.drop_eq_nil_of_le (by omega)]
    rfl
theorem alike_le {l : List Int} {p : Nat} (h : p < l.length) : p + alike l p ≤ l.length := by
  unfold alike
  have h1 := (List.takeWhile_sublist (fun z => z == l.getD p 0) (l := l.drop (p + 1))).length_le
  rw [List.length_drop] at h1
  omega
theorem alike_pos (l : List Int) (p : Nat) : 1 ≤ alike l p := by unfold alike; omega
/-- how many numbers are needed -/
def usedF (l : List Int) (least : Nat) : Nat → Nat
  | 0 => 0
  | n + 1 => if least < n + 1 ∧ l.getD n 0 = 0 then usedF l least n else n + 1
def used (l : List Int) (least : Nat) : Nat := usedF l least l.length
theorem usedF_le (l : List Int) (least : Nat) : ∀ n, usedF l least n ≤ n
  | 0 => Nat.le_refl _
  | n + 1 => by
    unfold usedF
    split
    · exact Nat.le_succ_of_le (usedF_le l least n)
    · exact Nat.le_refl _
theorem usedF_ge (l : List Int) (least : Nat) : ∀ n, least ≤ n → least ≤ usedF l least n
  | 0, h => h
  | n + 1, h => by
    unfold usedF
    split
    · next h1 => exact usedF_ge l least n (by omega)
    · exact h
theorem used_le (l : List Int) (least : Nat) : used l least ≤ l.length := usedF_le l least _
theorem used_ge {l : List Int} {least : Nat} (h : least ≤ l.length) : least ≤ used l least := usedF_ge l least _ h
/-- the sign of the lengths that stand next, and of how many -/
def run (l : List Int) (p : Nat) : Tk × Nat :=
  if l.getD p 0 = 0 ∧ 11 ≤ alike l p then ((18, ((min (alike l p) 138 - 11 : Nat) : Int), 7), min (alike l p) 138)
  else if l.getD p 0 = 0 ∧ 3 ≤ alike l p then ((17, ((alike l p - 3 : Nat) : Int), 3), alike l p)
  else if 0 < p ∧ l.getD p 0 = l.getD (p - 1) 0 ∧ 3 ≤ alike l p then ((16, ((min (alike l p) 6 - 3 : Nat) : Int), 2), min (alike l p) 6)
  else ((l.getD p 0, 0, 0), 1)
theorem run_pos (l : List Int) (p : Nat) : 1 ≤ (run l p).2 := by
  unfold run
  split
  · show 1 ≤ min _ _; omega
  · split
    · show 1 ≤ alike l p; omega
    · split
      · show 1 ≤ min _ _; omega
      · exact Nat.le_refl _
def runsF (l : List Int) : Nat → Nat → List Tk
  | 0, _ => []
  | f + 1, p => if p < l.length then (run l p).1 :: runsF l f (p + (run l p).2) else []
theorem runs_fuel (l : List Int) : ∀ (f f' p : Nat), l.length - p ≤ f → l.length - p ≤ f' → runsF l f p = runsF l f' p
  | 0, 0, _, _, _ => rfl
  | 0, f' + 1, p, h, _ => by unfold runsF; rw [if_neg (by omega)]
  | f + 1, 0, p, _, h => by unfold runsF; rw [if_neg (by omega)]
  | f + 1, f' + 1, p, h, h' => by
    unfold runsF
    have := run_pos l p
    by_cases hp : p < l.length
    · rw [if_pos hp, if_pos hp, runs_fuel l f f' _ (by omega) (by omega)]
    · rw [if_neg hp, if_neg hp]
def runsFrom (l : List Int) (p : Nat) : List Tk := runsF l (l.length - p) p
def runs (l : List Int) : List Tk := runsFrom l 0
theorem runs_step {l : List Int} {p : Nat} (h : p < l.length) : runsFrom l p = (run l p).1 :: runsFrom l (p + (run l p).2) := by
  unfold runsFrom
  obtain ⟨f, hf⟩ : ∃ f, l.length - p = f + 1 := ⟨l.length - p - 1, by omega⟩
  rw [hf]
  show (if p < l.length then _ else _) = _
  rw [if_pos h, runs_fuel l f (l.length - (p + (run l p).2)) _ (by have := run_pos l p; omega) (Nat.le_refl _)]
theorem runs_end {l : List Int} {p : Nat} (h : ¬ p < l.length) : runsFrom l p = [] := by
  unfold runsFrom
  rw [show l.length - p = 0 by omega]
  rfl
theorem runsF_len (l : List Int) : ∀ f p, (runsF l f p).length ≤ f
  | 0, _ => Nat.le_refl _
  | f + 1, p => by
    unfold runsF
    split
    · rw [List.length_cons]; exact Nat.succ_le_succ (runsF_len l f _)
    · exact Nat.zero_le _
theorem runs_len (l : List Int) : (runs l).length ≤ l.length := runsF_len l _ _
end Df
theorem tkCells_snocR : ∀ (l : List Tk) (v s d : Int), tkCells l ++ [.int .i64 v, .int .i64 s, .int .i64 d] = tkCells (l ++ [(v, s, d)])
  | [], _, _, _ => rfl
  | p :: l, v, s, d => by
    have := tkCells_snocR l v s d
    simp only [tkCells, List.cons_append] at this ⊢
    rw [← this]
/-- a row of three numbers each, of some type -/
def Own3 (T : TypeId) (w : World) (B : Nat) (v : Value) (n : Nat) (l : List Tk) : Prop := w.ownsRow B T 3 v n (tkCells l)
theorem Own3.below {T : TypeId} {w w' : World} {B n : Nat} {v : Value} {l : List Tk} (h : Own3 T w B v n l) (b : Below w.heap.size w w') : Own3 T w' B v n l := by
  have hg : w.grownBy w' none := ⟨b.os, b.tape, b.output, b.size, fun k hk _ => b.block k hk⟩
  refine World.ownsRow.kept (show World.ownsRow _ _ _ _ _ _ _ from h) hg ?_
  cases v.ownBlock with
  | none => exact .inl rfl
  | some k => exact .inr (by simp)
theorem Own3.len {T : TypeId} {w : World} {B n : Nat} {v : Value} {l : List Tk} (h : Own3 T w B v n l) : l.length = n := by
  have := h.1
  rw [tkCells_len] at this
  omega
theorem wpList_app3 {T TS : TypeId} (hT : (Try.prog.info? T).map (fun i => (i.zero, i.size, i.bytes)) = some (some (.agg #[.int .i64 0, .int .i64 0, .int .i64 0]), 3, 24)) (hU : Try.prog.underlying TS = some (.slice T))
    {ops : Array Oper} {rest : List Oper} {o : Oper} {a : Act} {Q : Exit → Act → World → Prop} (w0 : World) (hgd : o.guard = none) (s x : Operand)
    (ho : o.op = .call { callee := .builtin .append, args := #[s, x], argTypes := #[TS, TS] })
    (base : Nat) (v : Value) (n : Nat) (l : List Tk) (t1 t2 t3 : Int) (hs : a.eval s = v) (hown : Own3 T w0 base v n l) (hx : a.eval x = .slice (some ⟨w0.heap.size, 0, none⟩) 1 1) (hn : n ≤ 1000000) (hb : base ≤ w0.heap.size)
    (h : ∀ g cap w', Own3 T w' base (.slice (some ⟨g, 0, none⟩) (n + 1) cap) (n + 1) (l ++ [(t1, t2, t3)]) → Below base w0 w' → wpList Try.prog ops Q rest (a.put o.dst (.slice (some ⟨g, 0, none⟩) (n + 1) cap)) w') :
    wpList Try.prog ops Q (o :: rest) a (w0.alloc (.cells #[.int .i64 t1, .int .i64 t2, .int .i64 t3] T)) := by
  obtain ⟨i0, hi0, hz0, hz1, hz2⟩ := info_parts hT
  refine wpList_append_lies _ hgd s x _ ho base T i0 (.agg #[.int .i64 0, .int .i64 0, .int .i64 0]) 3 24 hU hi0 hz0 hz1 hz2 rfl (by decide) v n (tkCells l) hs (World.ownsRow.alloc (show World.ownsRow _ _ _ _ _ _ _ from hown) _) ⟨w0.heap.size, 0, none⟩ 1 1 [.int .i64 t1, .int .i64 t2, .int .i64 t3] hx rfl (World.news_of_block (heap_alloc_new _ _)) (fun u hu => by simp at hu; rcases hu with rfl | rfl | rfl <;> rfl) (by decide) (by unfold maxLen; omega) (by omega) (by rw [World.size_alloc]; omega) _ rfl ?_
  intro g cap w' hown' hg _ _
  rw [tkCells_snocR] at hown'
  exact h g cap w' hown' (((Below.refl base w0).alloc hb _).grown hg (by rw [World.size_alloc]; omega) (fun k hk => (World.ownsRow.lt (show World.ownsRow _ _ _ _ _ _ _ from hown) k hk).1))
end Go.Proofs.Ythfdnloeicbgkaa

/- A list of bits (a number and a size each) in memory. -/
namespace Go.Proofs.Ythfdnloeicbgkaa
open Go.RowKit

/-- the slice's cells read as the list: two cells an element -/
def Bits2 (w : World) (a : Option Addr) (l : List (Int × Int)) : Prop :=
  l = [] ∨ ∃ b off, a = some ⟨b, off, none⟩ ∧ b < w.heap.size ∧ ∀ i (h : i < l.length), w.cell? ⟨b, off + i * 2, none⟩ = some (.int .i64 (l[i]).1) ∧ w.cell? ⟨b, off + i * 2 + 1, none⟩ = some (.int .i64 (l[i]).2)

theorem Bits2.kept {w w' : World} {a : Option Addr} {l : List (Int × Int)} (h : Bits2 w a l) (hb : Below w.heap.size w w') : Bits2 w' a l := by
  rcases h with h | ⟨b, off, rfl, hbB, hc⟩
  · exact .inl h
  · exact .inr ⟨b, off, rfl, Nat.lt_of_lt_of_le hbB hb.size, fun i hi => ⟨(hb.cell (p := ⟨b, off + i * 2, none⟩) hbB).trans (hc i hi).1, (hb.cell (p := ⟨b, off + i * 2 + 1, none⟩) hbB).trans (hc i hi).2⟩⟩

/-- what a place of a row of bits holds -/
theorem Bits2.at {w : World} {a : Option Addr} {l : List (Int × Int)} (h : Bits2 w a l) {i : Nat} (hi : i < l.length) :
    ∃ b off, a = some ⟨b, off, none⟩ ∧ b < w.heap.size ∧ w.cell? ⟨b, off + i * 2, none⟩ = some (.int .i64 (l[i]).1) ∧ w.cell? ⟨b, off + i * 2 + 1, none⟩ = some (.int .i64 (l[i]).2) := by
  rcases h with h | ⟨b, off, rfl, hbB, hc⟩
  · rw [h] at hi; simp at hi
  · exact ⟨b, off, rfl, hbB, hc i hi⟩
end Go.Proofs.Ythfdnloeicbgkaa

/- A list of bits that a call gathers in a row of its own. -/
namespace Go.Proofs.Ythfdnloeicbgkaa
open Go.RowKit

theorem info_bit : (Try.prog.info? 55).map (fun i => (i.zero, i.size, i.bytes)) = some (some (.agg #[.int .i64 0, .int .i64 0]), 2, 16) := by kernel_rfl

/-- bits as they lie in memory -/
def cellsOf : List (Int × Int) → List Value
  | [] => []
  | p :: l => .int .i64 p.1 :: .int .i64 p.2 :: cellsOf l

theorem cellsOf_len : ∀ l : List (Int × Int), (cellsOf l).length = l.length * 2
  | [] => rfl
  | p :: l => by simp only [cellsOf, List.length_cons, cellsOf_len l]; omega
theorem cellsOf_get : ∀ (l : List (Int × Int)) (i : Nat) (h : i < l.length), (cellsOf l)[i * 2]? = some (.int .i64 (l[i]).1) ∧ (cellsOf l)[i * 2 + 1]? = some (.int .i64 (l[i]).2)
  | [], i, h => by simp at h
  | p :: l, 0, h => by simp [cellsOf]
  | p :: l, i + 1, h => by
    have := cellsOf_get l i (by simpa using h)
    rw [show (i + 1) * 2 = i * 2 + 1 + 1 by omega, show i * 2 + 1 + 1 + 1 = i * 2 + 1 + 1 + 1 from rfl]
    simp only [cellsOf, List.getElem?_cons_succ, List.getElem_cons_succ]
    exact this
theorem cellsOf_snoc : ∀ (l : List (Int × Int)) (v s : Int), cellsOf l ++ [.int .i64 v, .int .i64 s] = cellsOf (l ++ [(v, s)])
  | [], v, s => rfl
  | p :: l, v, s => by simp only [cellsOf, List.cons_append, cellsOf_snoc l v s]
theorem cellsOf_put (p : Int × Int) (l : List (Int × Int)) (v s : Int) : ((cellsOf (p :: l)).set 0 (.int .i64 v)).set 1 (.int .i64 s) = cellsOf ((v, s) :: l) := by simp [cellsOf]

/-- the slice v owns the bits l, n of them -/
def OwnP (w : World) (B : Nat) (v : Value) (n : Nat) (l : List (Int × Int)) : Prop := w.ownsRow B 55 2 v n (cellsOf l)

theorem OwnP.len {w : World} {B n : Nat} {v : Value} {l : List (Int × Int)} (h : OwnP w B v n l) : l.length = n := by
  have := h.1
  rw [cellsOf_len] at this; omega

theorem OwnP.bits {w : World} {B n : Nat} {v : Value} {l : List (Int × Int)} (h : OwnP w B v n l) : ∃ ao cap, v = .slice ao n cap ∧ Bits2 w ao l := by
  have hl := h.len
  rcases h.2 with ⟨rfl, h0⟩ | ⟨g, cap, cur, rfl, _, hg, _, _, _, ht⟩
  · subst h0
    exact ⟨none, 0, rfl, .inl (List.eq_nil_of_length_eq_zero hl)⟩
  · refine ⟨some ⟨g, 0, none⟩, cap, rfl, .inr ⟨g, 0, rfl, ?_, fun i hi => ?_⟩⟩
    · rcases Nat.lt_or_ge g w.heap.size with hlt | hge
      · exact hlt
      · rw [Array.getElem?_eq_none hge] at hg; cases hg
    · obtain ⟨c1, c2⟩ := cellsOf_get l i hi
      rw [Nat.zero_add]
      exact ⟨(World.ownsRow.cellAt h (i * 2) (by omega)).trans c1, (World.ownsRow.cellAt h (i * 2 + 1) (by omega)).trans c2⟩

theorem OwnP.more {w : World} {B n g cap : Nat} {l : List (Int × Int)} {v s : Int} (h : w.ownsRow B 55 2 (.slice (some ⟨g, 0, none⟩) (n + 1) cap) (n + 1) (cellsOf l ++ [.int .i64 v, .int .i64 s])) :
    OwnP w B (.slice (some ⟨g, 0, none⟩) (n + 1) cap) (n + 1) (l ++ [(v, s)]) := by
  rw [cellsOf_snoc] at h; exact h

/-- the row stays where only other blocks turn -/
theorem OwnP.same {w w' : World} {B n : Nat} {v : Value} {l : List (Int × Int)} (h : OwnP w B v n l) (hk : ∀ k, k < w.heap.size → B ≤ k → w'.heap[k]? = w.heap[k]?) : OwnP w' B v n l := by
  refine ⟨h.1, ?_⟩
  rcases h.2 with h2 | ⟨g, cap, cur, hv, hg, hh, r⟩
  · exact .inl h2
  · have hlt : g < w.heap.size := by
      rcases Nat.lt_or_ge g w.heap.size with hlt | hge
      · exact hlt
      · rw [Array.getElem?_eq_none hge] at hh; cases hh
    exact .inr ⟨g, cap, cur, hv, hg, by rw [hk g hlt hg]; exact hh, r⟩

/-- the first is another one -/
theorem OwnP.first {w : World} {B n g cap : Nat} {p : Int × Int} {l : List (Int × Int)} (h : OwnP w B (.slice (some ⟨g, 0, none⟩) n cap) n (p :: l)) (v s : Int) :
    OwnP ((w.setCell ⟨g, 0, none⟩ (.int .i64 v)).setCell ⟨g, 1, none⟩ (.int .i64 s)) B (.slice (some ⟨g, 0, none⟩) n cap) n ((v, s) :: l) := by
  have h1 := (World.ownsRow.stored h 0 (.int .i64 v)).1
  have h2 := (World.ownsRow.stored h1 1 (.int .i64 s)).1
  rw [cellsOf_put] at h2
  exact h2

theorem own_none (w : World) : OwnP (w.alloc (.cells #[] 55)) w.heap.size (.slice (some ⟨w.heap.size, 0, none⟩) 0 0) 0 [] :=
  World.ownsRow_lit w #[] 0 (Nat.le_refl _) (by decide) rfl
end Go.Proofs.Ythfdnloeicbgkaa

/- A symbol as bits: the specification's l3Sym. -/
namespace Go.Proofs.Ythfdnloeicbgkaa
open Go.RowKit

theorem Ints.at {w : World} {a : Option Addr} {zs : List Int} (h : Ints w a zs) {i : Nat} (hi : i < zs.length) :
    ∃ b off, a = some ⟨b, off, none⟩ ∧ b < w.heap.size ∧ w.cell? ⟨b, off + i, none⟩ = some (.int .i64 zs[i]) := by
  rcases h with h | ⟨b, off, rfl, hbB, hc⟩
  · rw [h] at hi; simp at hi
  · exact ⟨b, off, rfl, hbB, hc i hi⟩

set_option maxHeartbeats 1000000 in
set_option maxRecDepth 20000 in
theorem l3Sym_any (a1 a2 : Option Addr) (n c1 c2 k V S : Nat) (cs ls : List Int) (w : World) (h1 : Ints w a1 cs) (h2 : Ints w a2 ls) (hn1 : cs.length = n) (hn2 : ls.length = n) (hk : k < n)
    (hV : cs[k]'(by omega) = (V : Int)) (hS : ls[k]'(by omega) = (S : Int)) (hVb : V ≤ 16777216) (hSb : S ≤ 15) :
    Calls Try.prog 71 #[.slice a1 n c1, .slice a2 n c2, .int .i64 k] w fun e w' => e = .returned (.agg #[.int .i64 (turned V S : Nat), .int .i64 S]) ∧ Below w.heap.size w w' := by
  obtain ⟨b1, o1, rfl, hb1, e1⟩ := h1.at (show k < cs.length by omega)
  obtain ⟨b2, o2, rfl, hb2, e2⟩ := h2.at (show k < ls.length by omega)
  rw [hV] at e1
  rw [hS] at e2
  have hki : (k : Int) < (n : Int) := by omega
  have hk0 : (0 : Int) ≤ (k : Int) := by omega
  have HT : Hid (∀ w, Calls Try.prog 113 #[.int .i64 V, .int .i64 S] w fun e w' => e = .returned (.int .i64 (turned V S : Nat)) ∧ w' = w) := fun w => l3Turn_any V S w hVb hSb
  generalize turned V S = T at *
  clear h1 h2 hn1 hn2 hV hS
  have f1 : (w.alloc (.cells #[.int .i64 0, .int .i64 0] 55)).cell? ⟨b1, o1 + k, none⟩ = some (.int .i64 (V : Int)) := (World.cell?_alloc_past _ _ _ hb1).trans e1
  have f2 : (w.alloc (.cells #[.int .i64 0, .int .i64 0] 55)).cell? ⟨b2, o2 + k, none⟩ = some (.int .i64 (S : Int)) := (World.cell?_alloc_past _ _ _ hb2).trans e2
  have f3 : (w.alloc (.cells #[.int .i64 0, .int .i64 0] 55)).cell? ⟨w.heap.size, 0, none⟩ = some (.int .i64 0) := by rw [World.cell?_alloc_at _ _ _ _ rfl]; rfl
  have f4 : (w.alloc (.cells #[.int .i64 0, .int .i64 0] 55)).cell? ⟨w.heap.size, 1, none⟩ = some (.int .i64 0) := by rw [World.cell?_alloc_at _ _ _ _ rfl]; rfl
  have f5 : (w.alloc (.cells #[.int .i64 0, .int .i64 0] 55)).frozen? ⟨w.heap.size, 0, none⟩ = false := by rw [World.frozen?_alloc_at _ _ _ _ rfl]
  have f6 : (w.alloc (.cells #[.int .i64 0, .int .i64 0] 55)).frozen? ⟨w.heap.size, 1, none⟩ = false := by rw [World.frozen?_alloc_at _ _ _ _ rfl]
  have hbel : Below w.heap.size w (w.alloc (.cells #[.int .i64 0, .int .i64 0] 55)) := (Below.refl _ _).alloc (Nat.le_refl _) _
  have HF : Hid (_ ∧ _ ∧ _ ∧ _ ∧ _ ∧ _ ∧ _) := ⟨f1, f2, f3, f4, f5, f6, hbel⟩
  clear f1 f2 f3 f4 f5 f6 hbel
  go_enter Try.func71, Try.ntmps71
  go_wp2_with fail
  obtain ⟨f1, f2, f3, f4, f5, f6, hbel⟩ := HF.out
  clear HF e1 e2 hb1 hb2
  generalize w.alloc (.cells #[.int .i64 0, .int .i64 0] 55) = W at *
  go_still_tail 14, (by kernel_rfl)
  still_call (HT.out _)
  repeat still_step
  refine wpStill_nil ?_
  go_wp2_with fail
  refine bodyPost_ret (v := .agg #[.int .i64 (T : Int), .int .i64 (S : Int)]) (by simp [results, Try.results71, go_sem, *]) rfl ⟨rfl, (hbel.drew.setCell (p := ⟨w.heap.size, 0, none⟩) (Nat.le_refl _) _).setCell (p := ⟨w.heap.size, 1, none⟩) (Nat.le_refl _) _⟩
end Go.Proofs.Ythfdnloeicbgkaa

/- Bits behind bits: some more in a row of one's own; what a token is told by (mathematics). -/
namespace Go.Proofs.Ythfdnloeicbgkaa
open Go.RowKit

theorem cellsOf_app : ∀ (l m : List (Int × Int)), cellsOf l ++ cellsOf m = cellsOf (l ++ m)
  | [], m => rfl
  | p :: l, m => by
    have := cellsOf_app l m
    simp only [cellsOf, List.cons_append] at this ⊢
    rw [← this]
theorem cellsOf_one : ∀ (l : List (Int × Int)), ∀ u ∈ cellsOf l, u.oneCell' = true
  | [], u, h => by simp [cellsOf] at h
  | p :: l, u, h => by
    simp only [cellsOf, List.mem_cons] at h
    rcases h with rfl | rfl | h
    · rfl
    · rfl
    · exact cellsOf_one l u h
/-- pairs that lie in a new block, behind a row of one's own -/
theorem wpList_appP {ops : Array Oper} {rest : List Oper} {o : Oper} {a : Act} {Q : Exit → Act → World → Prop} (w0 : World) (hgd : o.guard = none) (s x : Operand)
    (ho : o.op = .call { callee := .builtin .append, args := #[s, x], argTypes := #[56, 56] })
    (base : Nat) (v : Value) (n : Nat) (l ps : List (Int × Int)) (m : Nat) (hm : ps.length = m) (h0 : 0 < m) (cs : Array Value) (hcs : cs = (cellsOf ps).toArray) (hs : a.eval s = v) (hown : OwnP w0 base v n l) (hx : a.eval x = .slice (some ⟨w0.heap.size, 0, none⟩) m m) (hn : n + m ≤ 2000000) (hb : base ≤ w0.heap.size)
    (h : ∀ g cap w', OwnP w' base (.slice (some ⟨g, 0, none⟩) (n + m) cap) (n + m) (l ++ ps) → (w0.alloc (.cells cs 55)).grownBy w' v.ownBlock → Below base w0 w' → wpList Try.prog ops Q rest (a.put o.dst (.slice (some ⟨g, 0, none⟩) (n + m) cap)) w') :
    wpList Try.prog ops Q (o :: rest) a (w0.alloc (.cells cs 55)) := by
  obtain ⟨i0, hi0, hz0, hz1, hz2⟩ := info_parts info_bit
  subst hcs
  refine wpList_append_lies _ hgd s x _ ho base 55 i0 (.agg #[.int .i64 0, .int .i64 0]) 2 16 Try.underlying56 hi0 hz0 hz1 hz2 rfl (by decide) v n (cellsOf l) hs (World.ownsRow.alloc (show World.ownsRow _ _ _ _ _ _ _ from hown) _) ⟨w0.heap.size, 0, none⟩ m m (cellsOf ps) hx (by rw [cellsOf_len, hm]) (World.news_of_block (heap_alloc_new _ _)) (cellsOf_one ps) h0 (by unfold maxLen; omega) (by omega) (by rw [World.size_alloc]; omega) _ rfl ?_
  intro g cap w' hown' hg _ _
  rw [cellsOf_app] at hown'
  exact h g cap w' hown' hg (((Below.refl base w0).alloc hb _).grown hg (by rw [World.size_alloc]; omega) (fun k hk => (World.ownsRow.lt (show World.ownsRow _ _ _ _ _ _ _ from hown) k hk).1))
theorem step_appP {ops : Array Oper} {o : Oper} {a : Act} {K : Act → World → Prop} {Q : Exit → Act → World → Prop} {E : Prop} (w0 : World) (hgd : o.guard = none) (s x : Operand)
    (ho : o.op = .call { callee := .builtin .append, args := #[s, x], argTypes := #[56, 56] })
    (base : Nat) (v : Value) (n : Nat) (l ps : List (Int × Int)) (m : Nat) (hm : ps.length = m) (h0 : 0 < m) (cs : Array Value) (hcs : cs = (cellsOf ps).toArray) (hs : a.eval s = v) (hown : OwnP w0 base v n l) (hx : a.eval x = .slice (some ⟨w0.heap.size, 0, none⟩) m m) (hn : n + m ≤ 2000000) (hb : base ≤ w0.heap.size)
    (h : ∀ g cap w', OwnP w' base (.slice (some ⟨g, 0, none⟩) (n + m) cap) (n + m) (l ++ ps) → (w0.alloc (.cells cs 55)).grownBy w' v.ownBlock → Below base w0 w' → K (a.put o.dst (.slice (some ⟨g, 0, none⟩) (n + m) cap)) w') :
    if Region.wanted o (yielded ops a.tmps) = true then Oper.wp Try.prog o a (w0.alloc (.cells cs 55)) K Q else E := by
  obtain ⟨i0, hi0, hz0, hz1, hz2⟩ := info_parts info_bit
  subst hcs
  refine step_append_lies _ hgd s x _ ho base 55 i0 (.agg #[.int .i64 0, .int .i64 0]) 2 16 Try.underlying56 hi0 hz0 hz1 hz2 rfl (by decide) v n (cellsOf l) hs (World.ownsRow.alloc (show World.ownsRow _ _ _ _ _ _ _ from hown) _) ⟨w0.heap.size, 0, none⟩ m m (cellsOf ps) hx (by rw [cellsOf_len, hm]) (World.news_of_block (heap_alloc_new _ _)) (cellsOf_one ps) h0 (by unfold maxLen; omega) (by omega) (by rw [World.size_alloc]; omega) _ rfl ?_
  intro g cap w' hown' hg _ _
  rw [cellsOf_app] at hown'
  exact h g cap w' hown' hg (((Below.refl base w0).alloc hb _).grown hg (by rw [World.size_alloc]; omega) (fun k hk => (World.ownsRow.lt (show World.ownsRow _ _ _ _ _ _ _ from hown) k hk).1))

namespace Df
/-- a token that can be told -/
def TkOk (t : Tk) : Prop := (t.2.1 = 0 ∧ 0 ≤ t.1 ∧ t.1 ≤ 255) ∨ (3 ≤ t.2.1 ∧ t.2.1 ≤ 258 ∧ 1 ≤ t.2.2 ∧ t.2.2 ≤ 5000)
/-- the bits of a token, by two codes -/
def tok (ls ds : List Int) (t : Tk) : List (Int × Int) :=
  if t.2.1 = 0 then [Cp.bit ls t.1.toNat] else [Cp.bit ls (257 + szSym t.2.1.toNat), szBit t.2.1.toNat, Cp.bit ds (dsSym t.2.2.toNat), dsBit t.2.2.toNat]
def toks (ls ds : List Int) (l : List Tk) : List (Int × Int) := l.flatMap (tok ls ds)
theorem toks_snoc (ls ds : List Int) (l : List Tk) (t : Tk) : toks ls ds (l ++ [t]) = toks ls ds l ++ tok ls ds t := by simp [toks]
theorem tok_len (ls ds : List Int) (t : Tk) : (tok ls ds t).length ≤ 4 := by unfold tok; split <;> simp
theorem toks_len (ls ds : List Int) : ∀ l : List Tk, (toks ls ds l).length ≤ 4 * l.length
  | [] => by simp [toks]
  | t :: l => by
    have h1 := toks_len ls ds l
    have h2 := tok_len ls ds t
    have e : toks ls ds (t :: l) = tok ls ds t ++ toks ls ds l := by simp [toks]
    rw [e, List.length_append, List.length_cons]
    omega
def body (ls ds : List Int) (l : List Tk) : List (Int × Int) := toks ls ds l ++ [Cp.bit ls 256]
end Df
/-- the bits of a symbol, as the specification has them -/
theorem l3Sym_bit (a1 a2 : Option Addr) (n c1 c2 k : Nat) (ls : List Int) (w : World) (h1 : Ints w a1 (Mk.mk ls)) (h2 : Ints w a2 ls) (hn : ls.length = n) (hk : k < n) (hok : Cd.okB ls = true) :
    Calls Try.prog 71 #[.slice a1 n c1, .slice a2 n c2, .int .i64 (k : Int)] w fun e w' => e = .returned (.agg #[.int .i64 (Cp.bit ls k).1, .int .i64 (Cp.bit ls k).2]) ∧ Below w.heap.size w w' := by
  obtain ⟨V, S, hV, hS, hVb, hSb⟩ := Cp.parts hok k (by omega)
  have hml : (Mk.mk ls).length = n := by rw [Mk.mk_len, hn]
  rw [Cp.bit_of hV hS]
  refine l3Sym_any a1 a2 n c1 c2 k V S (Mk.mk ls) ls w h1 h2 hml hn hk ?_ ?_ (by omega) hSb
  · rw [← hV, List.getD_eq_getElem?_getD, List.getElem?_eq_getElem (by omega)]; rfl
  · rw [← hS, List.getD_eq_getElem?_getD, List.getElem?_eq_getElem (by omega)]; rfl
end Go.Proofs.Ythfdnloeicbgkaa

/- How often each symbol comes (mathematics), and a row of numbers that fills a block. -/
namespace Go.Proofs.Ythfdnloeicbgkaa
open Go.RowKit
namespace Df
def inc (l : List Int) (i : Nat) : List Int := l.set i (l.getD i 0 + 1)
theorem inc_len (l : List Int) (i : Nat) : (inc l i).length = l.length := by simp [inc]
theorem inc_set {l : List Int} {i j : Nat} (v : Int) (h : i ≠ j) : (inc l i).set j v = inc (l.set j v) i := by
  unfold inc
  rw [List.set_comm _ _ h]
  congr 1
  rw [List.getD_eq_getElem?_getD, List.getD_eq_getElem?_getD, List.getElem?_set_ne (Ne.symm h)]
/-- the symbol of a token -/
def sym (t : Tk) : Nat := if t.2.1 = 0 then t.1.toNat else 257 + szSym t.2.1.toNat
def incS (a : List Int) (t : Tk) : List Int := inc a (sym t)
def incD (a : List Int) (t : Tk) : List Int := if t.2.1 = 0 then a else inc a (dsSym t.2.2.toNat)
def cntS (l : List Tk) : List Int := l.foldl incS (List.replicate 286 0)
def cntD (l : List Tk) : List Int := l.foldl incD (List.replicate 30 0)
theorem cntS_snoc (l : List Tk) (t : Tk) : cntS (l ++ [t]) = inc (cntS l) (sym t) := by unfold cntS; rw [List.foldl_append]; rfl
theorem cntD_snoc (l : List Tk) (t : Tk) : cntD (l ++ [t]) = incD (cntD l) t := by unfold cntD; rw [List.foldl_append]; rfl
theorem fold_len {f : List Int → Tk → List Int} (h : ∀ a t, (f a t).length = a.length) : ∀ (l : List Tk) (a : List Int), (l.foldl f a).length = a.length
  | [], _ => rfl
  | t :: l, a => by rw [List.foldl_cons, fold_len h l, h]
theorem cntS_len (l : List Tk) : (cntS l).length = 286 := by
  unfold cntS
  rw [fold_len (f := incS) (fun a t => inc_len a _), List.length_replicate]
theorem incD_len (a : List Int) (t : Tk) : (incD a t).length = a.length := by unfold incD; split; rfl; exact inc_len _ _
theorem cntD_len (l : List Tk) : (cntD l).length = 30 := by
  unfold cntD
  rw [fold_len incD_len, List.length_replicate]
/-- how often each symbol comes: the end once -/
def oftS (l : List Tk) : List Int := (cntS l).set 256 1
theorem oftS_len (l : List Tk) : (oftS l).length = 286 := by unfold oftS; rw [List.length_set, cntS_len]
theorem sym_ok {t : Tk} (h : TkOk t) : sym t < 286 ∧ sym t ≠ 256 := by
  unfold sym
  rcases h with ⟨h1, h2, h3⟩ | ⟨h1, h2, _, _⟩
  · rw [if_pos h1]; omega
  · rw [if_neg (by omega)]
    have := szSym_lt t.2.1.toNat
    omega
theorem oftS_snoc (l : List Tk) {t : Tk} (h : TkOk t) : oftS (l ++ [t]) = inc (oftS l) (sym t) := by
  unfold oftS
  rw [cntS_snoc, inc_set _ (sym_ok h).2]
/-- none is less than nought, and none more than there are tokens, but one -/
def Cnt (m : Nat) (a : List Int) : Prop := ∀ i, 0 ≤ a.getD i 0 ∧ a.getD i 0 ≤ (m : Int)
theorem getD_set (l : List Int) (i j : Nat) (v : Int) : (l.set i v).getD j 0 = if i = j ∧ i < l.length then v else l.getD j 0 := by
  simp only [List.getD_eq_getElem?_getD, List.getElem?_set]
  by_cases h : i = j
  · subst h
    by_cases h2 : i < l.length
    · simp [h2]
    · simp [h2]
  · simp [h]
theorem Cnt.inc {m : Nat} {a : List Int} (h : Cnt m a) (i : Nat) : Cnt (m + 1) (Df.inc a i) := fun j => by
  unfold Df.inc
  rw [getD_set]
  have h1 := h i
  have h2 := h j
  split <;> omega
theorem Cnt.more {m n : Nat} {a : List Int} (h : Cnt m a) (hn : m ≤ n) : Cnt n a := fun j => by have := h j; omega
theorem cnt_zero (n : Nat) : Cnt 0 (List.replicate n 0) := fun j => by
  rw [List.getD_eq_getElem?_getD, List.getElem?_replicate]
  split <;> simp
theorem cntS_cnt (l : List Tk) : ∀ k, k ≤ l.length → Cnt k (cntS (l.take k))
  | 0, _ => by rw [List.take_zero]; exact cnt_zero 286
  | k + 1, h => by
    rw [List.take_succ_eq_append_getElem (by omega), cntS_snoc]
    exact (cntS_cnt l k (by omega)).inc _
theorem cntD_cnt (l : List Tk) : ∀ k, k ≤ l.length → Cnt k (cntD (l.take k))
  | 0, _ => by rw [List.take_zero]; exact cnt_zero 30
  | k + 1, h => by
    rw [List.take_succ_eq_append_getElem (by omega), cntD_snoc]
    unfold incD
    split
    · exact (cntD_cnt l k (by omega)).more (by omega)
    · exact (cntD_cnt l k (by omega)).inc _
theorem oftS_cnt (l : List Tk) (k : Nat) (h : k ≤ l.length) : Cnt (k + 1) (oftS (l.take k)) := fun j => by
  unfold oftS
  rw [getD_set]
  have := cntS_cnt l k h j
  split <;> omega
end Df
theorem DRow.cellD {W : World} {b : Nat} {l : List Int} (h : DRow W b l) (i : Nat) (hi : i < l.length) : W.cell? ⟨b, i, none⟩ = some (.int .i64 (l.getD i 0)) := by
  rw [h.cell i hi, List.getD_eq_getElem?_getD, List.getElem?_eq_getElem hi]
  rfl
theorem DRow.other {W : World} {b c : Nat} {l : List Int} (h : DRow W b l) (hne : b ≠ c) (k : Nat) (v : Value) : DRow (W.setCell ⟨c, k, none⟩ v) b l := h.kept (Below.heap_setCell _ _ _ b hne)
theorem DRow.below {W W' : World} {b : Nat} {l : List Int} (h : DRow W b l) (hb : Below W.heap.size W W') : DRow W' b l := h.kept (hb.block b h.lt)
theorem DRow.ints {W : World} {b : Nat} {l : List Int} (h : DRow W b l) : Ints W (some ⟨b, 0, none⟩) l := .inr ⟨b, 0, rfl, h.lt, fun i hi => by rw [Nat.zero_add]; exact h.cell i hi⟩
end Go.Proofs.Ythfdnloeicbgkaa

/- Putting the two least together, again and again: how deep it goes (mathematics). -/
namespace Go.Proofs.Ythfdnloeicbgkaa
namespace Cf

/-- a node: how often it comes, how deep it is -/
abbrev Wt := Nat × Nat
def less (b : Option (Nat × Nat)) (w : Nat) : Bool :=
  match b with
  | none => true
  | some p => Nat.blt w p.2
/-- the first of the least, but one -/
def lst (but : Int) : List Wt → Nat → Option (Nat × Nat) → Option (Nat × Nat)
  | [], _, b => b
  | x :: xs, i, b => lst but xs (i + 1) (if (decide ((i : Int) ≠ but) && less b x.1) = true then some (i, x.1) else b)
/-- a list without two of its places -/
def wo {α : Type} (a b : Nat) : List α → Nat → List α
  | [], _ => []
  | x :: xs, i => if (Nat.beq i a || Nat.beq i b) = true then wo a b xs (i + 1) else x :: wo a b xs (i + 1)
theorem wo_cons {α : Type} (a b : Nat) (x : α) (xs : List α) (i : Nat) : wo a b (x :: xs) i = if (Nat.beq i a || Nat.beq i b) = true then wo a b xs (i + 1) else x :: wo a b xs (i + 1) := rfl
def hgt (ns : List Wt) (a : Nat) : Nat := (ns.getD a (0, 0)).2
/-- one round -/
def step (ns : List Wt) : List Wt :=
  match lst (-1) ns 0 none with
  | none => ns
  | some (a, wa) =>
    match lst (a : Int) ns 0 none with
    | none => ns
    | some (b, wb) => wo a b ns 0 ++ [(wa + wb, 1 + Nat.max (hgt ns a) (hgt ns b))]
def maxh : List Wt → Nat
  | [] => 0
  | x :: xs => Nat.max x.2 (maxh xs)
/-- all rounds -/
def top : Nat → List Wt → Nat
  | 0, ns => maxh ns
  | f + 1, ns => if Nat.ble ns.length 1 = true then maxh ns else top f (step ns)
def fin (ns : List Wt) : Nat := top ns.length ns

theorem lst_some (but : Int) (ns : List Wt) : ∀ (xs : List Wt) (i : Nat) (b : Option (Nat × Nat)), (∀ k x, xs[k]? = some x → ns[i + k]? = some x) → (∀ p, b = some p → (p.1 : Int) ≠ but ∧ ∃ x, ns[p.1]? = some x ∧ x.1 = p.2) → ∀ p, lst but xs i b = some p → (p.1 : Int) ≠ but ∧ ∃ x, ns[p.1]? = some x ∧ x.1 = p.2
  | [], _, b, _, hb, p, h => hb p h
  | x :: xs, i, b, hx, hb, p, h => by
    unfold lst at h
    refine lst_some but ns xs (i + 1) _ (fun k y hy => by rw [show i + 1 + k = i + (k + 1) by omega]; exact hx (k + 1) y (by simpa using hy)) (fun q hq => ?_) p h
    by_cases hc : (decide ((i : Int) ≠ but) && less b x.1) = true
    · rw [if_pos hc] at hq
      simp only [Bool.and_eq_true, decide_eq_true_eq] at hc
      cases hq
      exact ⟨hc.1, x, by have := hx 0 x rfl; rwa [Nat.add_zero] at this, rfl⟩
    · rw [if_neg hc] at hq; exact hb q hq
theorem lst_ne (but : Int) : ∀ (xs : List Wt) (i : Nat) (b : Option (Nat × Nat)), (b ≠ none ∨ ∃ k, k < xs.length ∧ ((i + k : Nat) : Int) ≠ but) → lst but xs i b ≠ none
  | [], i, b, h => by
    rcases h with h | ⟨k, hk, _⟩
    · exact h
    · simp at hk
  | x :: xs, i, b, h => by
    unfold lst
    refine lst_ne but xs (i + 1) _ ?_
    by_cases hb : b = none
    · subst hb
      by_cases hi : (i : Int) = but
      · right
        rcases h with h | ⟨k, hk, hk2⟩
        · exact absurd rfl h
        · have hk0 : k ≠ 0 := fun e => by subst e; exact hk2 (by rw [Nat.add_zero]; exact hi)
          exact ⟨k - 1, by simp at hk; omega, by rw [show i + 1 + (k - 1) = i + k by omega]; exact hk2⟩
      · left
        rw [if_pos (by simp [hi, less])]
        simp
    · left
      split
      · simp
      · exact hb
theorem lst_at {but : Int} {ns : List Wt} {p : Nat × Nat} (h : lst but ns 0 none = some p) : (p.1 : Int) ≠ but ∧ p.1 < ns.length ∧ ∃ x, ns[p.1]? = some x ∧ x.1 = p.2 := by
  obtain ⟨h1, x, h2, h3⟩ := lst_some but ns ns 0 none (fun k x hk => by rw [Nat.zero_add]; exact hk) (fun p hp => by cases hp) p h
  exact ⟨h1, (List.getElem?_eq_some_iff.1 h2).1, x, h2, h3⟩
/-- the two least, where there are two -/
theorem two {ns : List Wt} (h : 1 < ns.length) : ∃ a wa b wb, lst (-1) ns 0 none = some (a, wa) ∧ lst (a : Int) ns 0 none = some (b, wb) ∧ a ≠ b ∧ a < ns.length ∧ b < ns.length := by
  rcases h1 : lst (-1) ns 0 none with _ | ⟨a, wa⟩
  · exact absurd h1 (lst_ne (-1) ns 0 none (.inr ⟨0, by omega, by omega⟩))
  · rcases h2 : lst (a : Int) ns 0 none with _ | ⟨b, wb⟩
    · refine absurd h2 (lst_ne (a : Int) ns 0 none (.inr ?_))
      by_cases e : a = 0
      · exact ⟨1, h, by omega⟩
      · exact ⟨0, by omega, by omega⟩
    · obtain ⟨_, g2, _⟩ := lst_at h1
      obtain ⟨g3, g4, _⟩ := lst_at h2
      exact ⟨a, wa, b, wb, rfl, h2, fun e => g3 (by simp only at *; omega), g2, g4⟩
theorem step_two {ns : List Wt} {a wa b wb : Nat} (h1 : lst (-1) ns 0 none = some (a, wa)) (h2 : lst (a : Int) ns 0 none = some (b, wb)) : step ns = wo a b ns 0 ++ [(wa + wb, 1 + Nat.max (hgt ns a) (hgt ns b))] := by
  unfold step
  rw [h1]
  simp only
  rw [h2]
theorem wo_len {α : Type} {a b : Nat} (hab : a ≠ b) : ∀ (xs : List α) (i : Nat), (wo a b xs i).length + (if i ≤ a ∧ a < i + xs.length then 1 else 0) + (if i ≤ b ∧ b < i + xs.length then 1 else 0) = xs.length
  | [], i => by simp [wo]
  | x :: xs, i => by
    have ih := wo_len hab xs (i + 1)
    unfold wo
    simp only [List.length_cons]
    by_cases ha : i = a
    · rw [if_pos (by simp [ha])]
      rw [if_neg (show ¬ (i + 1 ≤ a ∧ a < i + 1 + xs.length) by omega)] at ih
      rw [if_pos (show i ≤ a ∧ a < i + (xs.length + 1) by omega)]
      by_cases hb : i + 1 ≤ b ∧ b < i + 1 + xs.length
      · rw [if_pos hb] at ih; rw [if_pos (by omega)]; omega
      · rw [if_neg hb] at ih; rw [if_neg (by omega)]; omega
    · by_cases hb : i = b
      · rw [if_pos (by simp [hb])]
        rw [if_neg (show ¬ (i + 1 ≤ b ∧ b < i + 1 + xs.length) by omega)] at ih
        rw [if_pos (show i ≤ b ∧ b < i + (xs.length + 1) by omega)]
        by_cases hb : i + 1 ≤ a ∧ a < i + 1 + xs.length
        · rw [if_pos hb] at ih; rw [if_pos (show i ≤ a ∧ a < i + (xs.length + 1) by omega)]; omega
        · rw [if_neg hb] at ih; rw [if_neg (show ¬ (i ≤ a ∧ a < i + (xs.length + 1)) by omega)]; omega
      · rw [if_neg (by simp [ha, hb])]
        simp only [List.length_cons]
        have e1 : (if i ≤ a ∧ a < i + (xs.length + 1) then 1 else 0) = if i + 1 ≤ a ∧ a < i + 1 + xs.length then 1 else 0 := by
          by_cases h : i + 1 ≤ a ∧ a < i + 1 + xs.length
          · rw [if_pos h, if_pos (by omega)]
          · rw [if_neg h, if_neg (by omega)]
        have e2 : (if i ≤ b ∧ b < i + (xs.length + 1) then 1 else 0) = if i + 1 ≤ b ∧ b < i + 1 + xs.length then 1 else 0 := by
          by_cases h : i + 1 ≤ b ∧ b < i + 1 + xs.length
          · rw [if_pos h, if_pos (by omega)]
          · rw [if_neg h, if_neg (by omega)]
        rw [e1, e2]; omega
theorem wo_mem {α : Type} {a b : Nat} : ∀ (xs : List α) (i : Nat) (x : α), x ∈ wo a b xs i → x ∈ xs
  | [], _, x, h => by simp [wo] at h
  | y :: xs, i, x, h => by
    unfold wo at h
    split at h
    · exact List.mem_cons_of_mem _ (wo_mem xs (i + 1) x h)
    · rcases List.mem_cons.1 h with rfl | h
      · simp
      · exact List.mem_cons_of_mem _ (wo_mem xs (i + 1) x h)
theorem wo_map {α β : Type} (f : α → β) {a b : Nat} : ∀ (xs : List α) (i : Nat), (wo a b xs i).map f = wo a b (xs.map f) i
  | [], _ => rfl
  | y :: xs, i => by
    rw [List.map_cons, wo_cons, wo_cons]
    by_cases h : (Nat.beq i a || Nat.beq i b) = true
    · rw [if_pos h, if_pos h]; exact wo_map f xs (i + 1)
    · rw [if_neg h, if_neg h, List.map_cons, wo_map f xs (i + 1)]
/-- a sum over a list, without two places -/
def sum {α : Type} (f : α → Nat) : List α → Nat
  | [] => 0
  | x :: xs => f x + sum f xs
theorem sum_append {α : Type} (f : α → Nat) : ∀ (l m : List α), sum f (l ++ m) = sum f l + sum f m
  | [], m => by simp [sum]
  | x :: l, m => by simp only [List.cons_append, sum, sum_append f l m]; omega
theorem wo_sum {α : Type} (f : α → Nat) {a b : Nat} (hab : a ≠ b) : ∀ (xs : List α) (i : Nat), sum f (wo a b xs i) + (if h : i ≤ a ∧ a - i < xs.length then f xs[a - i] else 0) + (if h : i ≤ b ∧ b - i < xs.length then f xs[b - i] else 0) = sum f xs
  | [], i => by simp [wo, sum]
  | x :: xs, i => by
    have ih := wo_sum f hab xs (i + 1)
    have ea : ∀ c, c ≠ i → (if h : i ≤ c ∧ c - i < (x :: xs).length then f (x :: xs)[c - i] else 0) = if h : i + 1 ≤ c ∧ c - (i + 1) < xs.length then f xs[c - (i + 1)] else 0 := fun c hc => by
      by_cases h : i + 1 ≤ c ∧ c - (i + 1) < xs.length
      · rw [dif_pos h, dif_pos (by simp only [List.length_cons]; omega)]
        congr 1
        have : c - i = (c - (i + 1)) + 1 := by omega
        simp only [this, List.getElem_cons_succ]
      · rw [dif_neg h, dif_neg (by simp only [List.length_cons]; omega)]
    have ei : ∀ c, c = i → (if h : i ≤ c ∧ c - i < (x :: xs).length then f (x :: xs)[c - i] else 0) = f x ∧ (if h : i + 1 ≤ c ∧ c - (i + 1) < xs.length then f xs[c - (i + 1)] else 0) = 0 := fun c hc => by
      subst hc
      refine ⟨?_, by rw [dif_neg (by omega)]⟩
      rw [dif_pos (by simp)]
      congr 1
      simp
    unfold wo
    simp only [sum]
    by_cases ha : i = a
    · obtain ⟨q1, q2⟩ := ei a ha.symm
      rw [if_pos (by simp [ha]), q1, ea b (fun e => hab (ha.symm.trans e.symm))]
      rw [q2] at ih
      omega
    · by_cases hb : i = b
      · obtain ⟨q1, q2⟩ := ei b hb.symm
        rw [if_pos (by simp [hb]), q1, ea a (fun e => ha e.symm)]
        rw [q2] at ih
        omega
      · rw [if_neg (by simp [ha, hb]), ea a (fun e => ha e.symm), ea b (fun e => hb e.symm)]
        simp only [sum]
        omega
theorem wo_sum0 {α : Type} (f : α → Nat) {a b : Nat} (hab : a ≠ b) (xs : List α) (ha : a < xs.length) (hb : b < xs.length) : sum f (wo a b xs 0) + f xs[a] + f xs[b] = sum f xs := by
  have := wo_sum f hab xs 0
  rw [dif_pos (by omega), dif_pos (by omega)] at this
  exact this
theorem wo_len0 {α : Type} {a b : Nat} (hab : a ≠ b) (xs : List α) (ha : a < xs.length) (hb : b < xs.length) : (wo a b xs 0).length + 2 = xs.length := by
  have := wo_len hab xs 0
  rw [if_pos (by omega), if_pos (by omega)] at this
  omega
theorem maxh_mem : ∀ (ns : List Wt) (x : Wt), x ∈ ns → x.2 ≤ maxh ns
  | y :: ns, x, h => by
    unfold maxh
    rcases List.mem_cons.1 h with rfl | h
    · exact Nat.le_max_left _ _
    · exact Nat.le_trans (maxh_mem ns x h) (Nat.le_max_right _ _)
theorem maxh_le {m : Nat} : ∀ (ns : List Wt), (∀ x ∈ ns, x.2 ≤ m) → maxh ns ≤ m
  | [], _ => Nat.zero_le _
  | y :: ns, h => Nat.max_le.2 ⟨h y (by simp), maxh_le ns (fun x hx => h x (by simp [hx]))⟩
theorem hgt_le (ns : List Wt) (a : Nat) : hgt ns a ≤ maxh ns := by
  unfold hgt
  rw [List.getD_eq_getElem?_getD]
  rcases h : ns[a]? with _ | x
  · exact Nat.zero_le _
  · exact maxh_mem ns x (List.mem_of_getElem? h)
theorem step_len {ns : List Wt} (h : 1 < ns.length) : (step ns).length + 1 = ns.length := by
  obtain ⟨a, wa, b, wb, h1, h2, h3, h4, h5⟩ := two h
  rw [step_two h1 h2, List.length_append, List.length_singleton]
  have := wo_len0 h3 ns h4 h5
  omega
theorem step_maxh {ns : List Wt} (h : 1 < ns.length) : maxh (step ns) ≤ maxh ns + 1 := by
  obtain ⟨a, wa, b, wb, h1, h2, h3, h4, h5⟩ := two h
  rw [step_two h1 h2]
  refine maxh_le _ (fun x hx => ?_)
  rcases List.mem_append.1 hx with hx | hx
  · have := maxh_mem ns x (wo_mem ns 0 x hx); omega
  · rw [List.mem_singleton] at hx
    subst hx
    have hm : Nat.max (hgt ns a) (hgt ns b) ≤ maxh ns := Nat.max_le.2 ⟨hgt_le ns a, hgt_le ns b⟩
    show 1 + Nat.max (hgt ns a) (hgt ns b) ≤ _
    omega
theorem fin_step {ns : List Wt} (h : 1 < ns.length) : fin ns = fin (step ns) := by
  have hl := step_len h
  unfold fin
  rw [← hl]
  conv => lhs; unfold top
  rw [if_neg]
  simp
  omega
theorem fin_one {ns : List Wt} (h : ns.length ≤ 1) : fin ns = maxh ns := by
  unfold fin
  rcases hl : ns.length with _ | k
  · rfl
  · unfold top
    rw [if_pos (by rw [hl]; simp; omega)]
theorem fin_le : ∀ (k : Nat) (ns : List Wt), ns.length ≤ k + 1 → fin ns ≤ maxh ns + k
  | 0, ns, h => by rw [fin_one h]; exact Nat.le_refl _
  | k + 1, ns, h => by
    by_cases h1 : 1 < ns.length
    · have := step_len h1
      have := step_maxh h1
      have := fin_le k (step ns) (by omega)
      rw [fin_step h1]; omega
    · rw [fin_one (by omega)]; omega
end Cf
end Go.Proofs.Ythfdnloeicbgkaa

/- A heap: the least of its nodes stands first (mathematics). -/
namespace Go.Proofs.Ythfdnloeicbgkaa
namespace Hp

abbrev Key := Nat × Nat
/-- comes less often, or as often and stands ahead -/
def klt (a b : Key) : Prop := a.1 < b.1 ∨ (a.1 = b.1 ∧ a.2 < b.2)
instance (a b : Key) : Decidable (klt a b) := by unfold klt; infer_instance
/-- two change places -/
def sw (l : List Nat) (i j : Nat) : List Nat := (l.set i (l.getD j 0)).set j (l.getD i 0)
theorem sw_len (l : List Nat) (i j : Nat) : (sw l i j).length = l.length := by unfold sw; simp
theorem sw_perm {l : List Nat} {i j : Nat} (hi : i < l.length) (hj : j < l.length) : (sw l i j).Perm l := by
  unfold sw
  rw [List.getD_eq_getElem?_getD, List.getD_eq_getElem?_getD, List.getElem?_eq_getElem hi, List.getElem?_eq_getElem hj]
  exact List.set_set_perm hi hj

/-- none of the first n comes ahead of the one above it -/
def Heap (K : Nat → Key) (l : List Nat) (n : Nat) : Prop := ∀ i, 0 < i → i < n → ¬ klt (K (l.getD i 0)) (K (l.getD ((i - 1) / 2) 0))
end Hp
end Go.Proofs.Ythfdnloeicbgkaa

/- The tree of a code (mathematics): the two least put together, again and again. -/
namespace Go.Proofs.Ythfdnloeicbgkaa
namespace Ct
open Cf (lst wo)

inductive Tr where
  | leaf (s : Nat)
  | node (l r : Tr)
def syms : Tr → List Nat
  | .leaf s => [s]
  | .node l r => syms l ++ syms r
def hgt : Tr → Nat
  | .leaf _ => 0
  | .node l r => 1 + Nat.max (hgt l) (hgt r)
/-- how many nodes stand above a symbol -/
def dep : Tr → Nat → Nat
  | .leaf _, _ => 0
  | .node l r, s => (syms l ++ syms r).count s + dep l s + dep r s
abbrev Nt := Nat × Tr
def wt (p : Nt) : Cf.Wt := (p.1, hgt p.2)
/-- one step -/
def step (ts : List Nt) : List Nt :=
  match lst (-1) (ts.map wt) 0 none with
  | some (a, _) =>
    match lst (a : Int) (ts.map wt) 0 none with
    | some (b, _) => wo a b ts 0 ++ [((ts.getD a (0, .leaf 0)).1 + (ts.getD b (0, .leaf 0)).1, .node (ts.getD a (0, .leaf 0)).2 (ts.getD b (0, .leaf 0)).2)]
    | none => ts
  | none => ts
theorem step_two {ts : List Nt} {a wa b wb : Nat} (h1 : lst (-1) (ts.map wt) 0 none = some (a, wa)) (h2 : lst (a : Int) (ts.map wt) 0 none = some (b, wb)) : step ts = wo a b ts 0 ++ [((ts.getD a (0, .leaf 0)).1 + (ts.getD b (0, .leaf 0)).1, .node (ts.getD a (0, .leaf 0)).2 (ts.getD b (0, .leaf 0)).2)] := by
  unfold step
  rw [h1]
  simp only
  rw [h2]
/-- the least one, but one: it is no more than any other, and less than any ahead -/
theorem lst_least (but : Int) (ns : List Cf.Wt) : ∀ (xs : List Cf.Wt) (i : Nat) (b : Option (Nat × Nat)), (∀ k x, xs[k]? = some x → ns[i + k]? = some x) → (∀ k, k < xs.length → ns[i + k]? = xs[k]?) →
    (∀ p, b = some p → p.1 < i ∧ ∀ k x, k < i → (k : Int) ≠ but → ns[k]? = some x → p.2 ≤ x.1 ∧ (k < p.1 → p.2 < x.1)) → (b = none → ∀ k, k < i → (k : Int) = but) →
    ∀ p, lst but xs i b = some p → ∀ k x, k < i + xs.length → (k : Int) ≠ but → ns[k]? = some x → p.2 ≤ x.1 ∧ (k < p.1 → p.2 < x.1)
  | [], i, b, _, _, hb, _, p, h, k, x, hk, hne, hx => (hb p h).2 k x (by simpa using hk) hne hx
  | y :: xs, i, b, h1, h1', hb, hn, p, h, k, x, hk, hne, hx => by
    have hy : ns[i]? = some y := by simpa using h1 0 y rfl
    refine lst_least but ns xs (i + 1) _ (fun k x hx => by have := h1 (k + 1) x hx; rwa [show i + (k + 1) = i + 1 + k by omega] at this) (fun k hk => by have := h1' (k + 1) (by simp; omega); rw [show i + (k + 1) = i + 1 + k by omega] at this; simpa using this) ?_ ?_ p h k x (by simp at hk; omega) hne hx
    · intro q hq
      split at hq
      · rename_i ht
        cases hq
        refine ⟨by show i < i + 1; omega, fun k x hk hne hx => ?_⟩
        show y.1 ≤ x.1 ∧ (k < i → y.1 < x.1)
        by_cases e : k = i
        · subst e
          rw [hy] at hx; cases hx
          exact ⟨Nat.le_refl _, fun h => by omega⟩
        · cases b with
          | none => exact absurd (hn rfl k (by omega)) hne
          | some q =>
            have h5 := (hb q rfl).2 k x (by omega) hne hx
            simp [Cf.less] at ht
            have := ht.2
            exact ⟨by omega, fun _ => by omega⟩
      · rename_i ht
        have h5 := hb q hq
        refine ⟨by omega, fun k x hk hne hx => ?_⟩
        by_cases e : k = i
        · subst e
          rw [hy] at hx; cases hx
          rw [hq] at ht
          simp [Cf.less] at ht
          have := ht hne
          exact ⟨by omega, fun h => by have := h5.1; omega⟩
        · exact h5.2 k x (by omega) hne hx
    · intro hq k hk
      split at hq
      · cases hq
      · rename_i ht
        by_cases e : k = i
        · subst e
          rw [hq] at ht
          simpa [Cf.less] using ht
        · exact hn hq k (by omega)
theorem lst_min {but : Int} {ns : List Cf.Wt} {p : Nat × Nat} (h : lst but ns 0 none = some p) {k : Nat} {x : Cf.Wt} (hne : (k : Int) ≠ but) (hx : ns[k]? = some x) : p.2 ≤ x.1 ∧ (k < p.1 → p.2 < x.1) := by
  have hk : k < ns.length := (List.getElem?_eq_some_iff.1 hx).1
  exact lst_least but ns ns 0 none (fun k x h => by rw [Nat.zero_add]; exact h) (fun k _ => by rw [Nat.zero_add]) (fun p h => by cases h) (fun _ k hk => by omega) p h k x (by omega) hne hx
theorem wo_sub {α : Type} (a b : Nat) : ∀ (xs : List α) (i : Nat), (wo a b xs i).Sublist xs
  | [], _ => List.Sublist.refl _
  | x :: xs, i => by
    rw [Cf.wo_cons]
    split
    · exact (wo_sub a b xs (i + 1)).cons x
    · exact (wo_sub a b xs (i + 1)).cons_cons x
end Ct
end Go.Proofs.Ythfdnloeicbgkaa

/- A heap of nodes in memory: its methods. -/
namespace Go.Proofs.Ythfdnloeicbgkaa
open Go.RowKit

def ptN (k : Nat) : Value := .pointer (some ⟨k, 0, none⟩)
/-- the nodes: how often each comes, and where it stands -/
def KeysAt (W : World) (K : Nat → Hp.Key) (l : List Nat) : Prop := ∀ k ∈ l, ∃ s x y : Value, W.heap[k]? = some (.cells #[s, x, y, .int .i64 ((K k).1 : Int), .int .i64 ((K k).2 : Int)] 161 (0, 0))
/-- a row of nodes of one's own -/
def RowN (W : World) (g n : Nat) (l : List Nat) : Prop := ∃ cs : Array Value, W.heap[g]? = some (.cells cs 140 (0, 0)) ∧ l.length = n ∧ ∀ i, i < n → cs[i]? = some (ptN (l.getD i 0))

theorem RowN.cell {W : World} {g n : Nat} {l : List Nat} (h : RowN W g n l) {i : Nat} (hi : i < n) : W.cell? ⟨g, i, none⟩ = some (ptN (l.getD i 0)) ∧ W.frozen? ⟨g, i, none⟩ = false := by
  obtain ⟨cs, h1, h2, h3⟩ := h
  simp [World.cell?, World.frozen?, h1, h3 i hi]
theorem getD_mem {l : List Nat} {i : Nat} (h : i < l.length) : l.getD i 0 ∈ l := by
  rw [List.getD_eq_getElem?_getD, List.getElem?_eq_getElem h]; exact List.getElem_mem h
end Go.Proofs.Ythfdnloeicbgkaa

/- What holds between the rounds of the tree (mathematics). -/
namespace Go.Proofs.Ythfdnloeicbgkaa
namespace Cf

abbrev Nd := Wt × List Nat
theorem wo_keep {α : Type} {a b : Nat} : ∀ (xs : List α) (i k : Nat) (x : α), xs[k]? = some x → i + k ≠ a → i + k ≠ b → x ∈ wo a b xs i
  | [], _, _, _, h, _, _ => by simp at h
  | y :: xs, i, 0, x, h, ha, hb => by
    have e : y = x := by simpa using h
    subst e
    rw [wo_cons, if_neg (by simp; omega)]
    simp
  | y :: xs, i, k + 1, x, h, ha, hb => by
    have ih := wo_keep (a := a) (b := b) xs (i + 1) k x (by simpa using h) (by omega) (by omega)
    rw [wo_cons]
    split
    · exact ih
    · exact List.mem_cons_of_mem _ ih
theorem sum_ge {α : Type} (f : α → Nat) {i j : Nat} (hij : i ≠ j) (xs : List α) (hi : i < xs.length) (hj : j < xs.length) : f xs[i] + f xs[j] ≤ sum f xs := by
  have := wo_sum0 f hij xs hi hj
  omega
theorem sum_one {α : Type} (f : α → Nat) : ∀ (xs : List α) (x : α), x ∈ xs → f x ≤ sum f xs
  | y :: xs, x, h => by
    unfold sum
    rcases List.mem_cons.1 h with rfl | h
    · omega
    · have := sum_one f xs x h; omega
structure Inv (n : Nat) (ps : List Nd) (f : Nat → Nat) : Prop where
  dup : ∀ s, sum (fun p : Nd => p.2.count s) ps ≤ 1
  rng : ∀ p ∈ ps, ∀ s ∈ p.2, s < n
  hgt : ∀ s, s < n → f s = 0 ∨ (∃ p ∈ ps, s ∈ p.2 ∧ f s ≤ p.1.2) ∨ (ps.length = 1 ∧ f s ≤ 1)
  wgt : sum (fun p : Nd => p.1.1) ps ≤ 3000000
  len : ps.length ≤ 300
  tot : sum (fun p : Nd => p.2.length) ps ≤ 300
  fin_bound : ∀ p ∈ ps, p.1.2 ≤ 400 - ps.length

/-- the nodes behind one round -/
def next (ps : List Nd) (a b : Nat) (x y : Nd) : List Nd := wo a b ps 0 ++ [((x.1.1 + y.1.1, 1 + Nat.max x.1.2 y.1.2), x.2 ++ y.2)]
theorem next_ns {ps : List Nd} {a b wa wb : Nat} {x y : Nd} (h1 : lst (-1) (ps.map (fun p => p.1)) 0 none = some (a, wa)) (h2 : lst (a : Int) (ps.map (fun p => p.1)) 0 none = some (b, wb)) (hx : ps[a]? = some x) (hy : ps[b]? = some y) : (next ps a b x y).map (fun p => p.1) = step (ps.map (fun p => p.1)) := by
  have hgx : ∀ (i : Nat) (z : Nd), ps[i]? = some z → Cf.hgt (ps.map (fun p => p.1)) i = z.1.2 := fun i z hz => by
    unfold Cf.hgt
    rw [List.getD_eq_getElem?_getD, List.getElem?_map, hz]; rfl
  obtain ⟨_, _, x', e1, e2⟩ := lst_at h1
  obtain ⟨_, _, y', e3, e4⟩ := lst_at h2
  simp only at e1 e2 e3 e4
  rw [List.getElem?_map, hx] at e1
  rw [List.getElem?_map, hy] at e3
  have e1' : x.1 = x' := by simpa using e1
  have e3' : y.1 = y' := by simpa using e3
  rw [step_two h1 h2]
  unfold next
  rw [List.map_append, wo_map, hgx a x hx, hgx b y hy, ← e2, ← e4, ← e1', ← e3']
  rfl
theorem Inv.next {n : Nat} {ps : List Nd} {f : Nat → Nat} (h : Inv n ps f) {a b : Nat} {x y : Nd} (hx : ps[a]? = some x) (hy : ps[b]? = some y) (hab : a ≠ b) : Inv n (Cf.next ps a b x y) (fun s => f s + (x.2 ++ y.2).count s) := by
  obtain ⟨ha, rfl⟩ := List.getElem?_eq_some_iff.1 hx
  obtain ⟨hb, rfl⟩ := List.getElem?_eq_some_iff.1 hy
  have hlen := wo_len0 hab ps ha hb
  refine ⟨fun s => ?_, fun p hp s hs => ?_, fun s hs => ?_, ?_, ?_, ?_, fun p hp => ?_⟩
  · unfold Cf.next
    rw [sum_append]
    have := wo_sum0 (fun p : Nd => p.2.count s) hab ps ha hb
    have h2 := h.dup s
    simp only [sum, List.count_append]
    omega
  · unfold Cf.next at hp
    rcases List.mem_append.1 hp with hp | hp
    · exact h.rng p (wo_mem ps 0 p hp) s hs
    · rw [List.mem_singleton] at hp
      subst hp
      rcases List.mem_append.1 hs with hs | hs
      · exact h.rng _ (List.getElem_mem ha) s hs
      · exact h.rng _ (List.getElem_mem hb) s hs
  · have hd := h.dup s
    have hge := sum_ge (fun p : Nd => p.2.count s) hab ps ha hb
    simp only [List.count_append]
    by_cases hin : s ∈ ps[a].2 ∨ s ∈ ps[b].2
    · right; left
      refine ⟨_, List.mem_append.2 (.inr (List.mem_singleton.2 rfl)), List.mem_append.2 hin, ?_⟩
      have hf : f s ≤ Nat.max ps[a].1.2 ps[b].1.2 := by
        rcases h.hgt s hs with h0 | ⟨p, hp, hsp, hle⟩ | ⟨h1, _⟩
        · omega
        · obtain ⟨i, hi, rfl⟩ := List.getElem_of_mem hp
          by_cases ea : i = a
          · subst ea; exact Nat.le_trans hle (Nat.le_max_left _ _)
          · by_cases eb : i = b
            · subst eb; exact Nat.le_trans hle (Nat.le_max_right _ _)
            · exfalso
              have c1 : 0 < ps[i].2.count s := List.count_pos_iff.2 hsp
              rcases hin with hin | hin
              · have := sum_ge (fun p : Nd => p.2.count s) ea ps hi ha
                have c2 : 0 < ps[a].2.count s := List.count_pos_iff.2 hin
                omega
              · have := sum_ge (fun p : Nd => p.2.count s) eb ps hi hb
                have c2 : 0 < ps[b].2.count s := List.count_pos_iff.2 hin
                omega
        · omega
      show f s + (ps[a].2.count s + ps[b].2.count s) ≤ 1 + Nat.max ps[a].1.2 ps[b].1.2
      omega
    · have c1 : ps[a].2.count s = 0 := List.count_eq_zero.2 (fun e => hin (.inl e))
      have c2 : ps[b].2.count s = 0 := List.count_eq_zero.2 (fun e => hin (.inr e))
      rw [c1, c2, Nat.add_zero]
      rcases h.hgt s hs with h0 | ⟨p, hp, hsp, hle⟩ | ⟨h1, _⟩
      · exact .inl h0
      · right; left
        obtain ⟨i, hi, rfl⟩ := List.getElem_of_mem hp
        refine ⟨ps[i], List.mem_append.2 (.inl (wo_keep ps 0 i _ (List.getElem?_eq_getElem hi) (fun e => ?_) (fun e => ?_))), hsp, hle⟩
        · rw [Nat.zero_add] at e; subst e; exact hin (.inl hsp)
        · rw [Nat.zero_add] at e; subst e; exact hin (.inr hsp)
      · omega
  · unfold Cf.next
    rw [sum_append]
    have := wo_sum0 (fun p : Nd => p.1.1) hab ps ha hb
    have h2 := h.wgt
    simp only [sum]
    omega
  · unfold Cf.next
    rw [List.length_append, List.length_singleton]
    have := h.len
    omega
  · unfold Cf.next
    rw [sum_append]
    have := wo_sum0 (fun p : Nd => p.2.length) hab ps ha hb
    have h2 := h.tot
    simp only [sum, List.length_append]
    omega
  · have hl := h.len
    unfold Cf.next at hp ⊢
    rw [List.length_append, List.length_singleton]
    rcases List.mem_append.1 hp with hp | hp
    · have := h.fin_bound p (wo_mem ps 0 p hp)
      omega
    · rw [List.mem_singleton] at hp
      subst hp
      have h1 := h.fin_bound _ (List.getElem_mem ha)
      have h2 := h.fin_bound _ (List.getElem_mem hb)
      have h3 : Nat.max ps[a].1.2 ps[b].1.2 ≤ 400 - ps.length := Nat.max_le.2 ⟨h1, h2⟩
      show 1 + Nat.max ps[a].1.2 ps[b].1.2 ≤ _
      omega
/-- at the end -/
theorem Inv.end {n : Nat} {ps : List Nd} {f : Nat → Nat} (h : Inv n ps f) (hl : ps.length ≤ 1) : ∀ s, s < n → f s ≤ Nat.max 1 (fin (ps.map (fun p => p.1))) := by
  intro s hs
  rw [fin_one (by rw [List.length_map]; exact hl)]
  rcases h.hgt s hs with h0 | ⟨p, hp, _, hle⟩ | ⟨_, h1⟩
  · rw [h0]; exact Nat.zero_le _
  · exact Nat.le_trans (Nat.le_trans hle (maxh_mem _ _ (List.mem_map.2 ⟨p, hp, rfl⟩))) (Nat.le_max_right _ _)
  · exact Nat.le_trans h1 (Nat.le_max_left _ _)
/-- at the beginning: the first k -/
def init (zs : List Int) : Nat → List Nd
  | 0 => []
  | k + 1 => if 0 < zs.getD k 0 then init zs k ++ [(((zs.getD k 0).toNat, 0), [k])] else init zs k
theorem init_len (zs : List Int) : ∀ k, (init zs k).length ≤ k
  | 0 => Nat.le_refl _
  | k + 1 => by
    have := init_len zs k
    unfold init
    split
    · rw [List.length_append, List.length_singleton]; omega
    · omega
theorem init_mem (zs : List Int) : ∀ k p, p ∈ init zs k → p.1.2 = 0 ∧ ∃ s, s < k ∧ p.2 = [s] ∧ p.1.1 = (zs.getD s 0).toNat
  | 0, p, h => by simp [init] at h
  | k + 1, p, h => by
    unfold init at h
    split at h
    · rcases List.mem_append.1 h with h | h
      · obtain ⟨h1, s, h2, h3, h4⟩ := init_mem zs k p h
        exact ⟨h1, s, by omega, h3, h4⟩
      · rw [List.mem_singleton] at h
        subst h
        exact ⟨rfl, k, by omega, rfl, rfl⟩
    · obtain ⟨h1, s, h2, h3, h4⟩ := init_mem zs k p h
      exact ⟨h1, s, by omega, h3, h4⟩
theorem init_dup (zs : List Int) (s : Nat) : ∀ k, sum (fun p : Nd => p.2.count s) (init zs k) ≤ 1 ∧ (k ≤ s → sum (fun p : Nd => p.2.count s) (init zs k) = 0)
  | 0 => ⟨by simp [init, sum], fun _ => rfl⟩
  | k + 1 => by
    obtain ⟨h1, h2⟩ := init_dup zs s k
    unfold init
    split
    · rw [sum_append]
      simp only [sum]
      by_cases e : k = s
      · subst e
        rw [h2 (Nat.le_refl _)]
        refine ⟨by simp, fun h => by omega⟩
      · have : List.count s [k] = 0 := by rw [List.count_eq_zero]; simp; omega
        rw [this]
        exact ⟨by omega, fun h => by rw [h2 (by omega)]⟩
    · exact ⟨h1, fun h => h2 (by omega)⟩
theorem init_wgt {zs : List Int} (hz : ∀ i, i < zs.length → 0 ≤ zs.getD i 0 ∧ zs.getD i 0 ≤ 9000) : ∀ k, k ≤ zs.length → sum (fun p : Nd => p.1.1) (init zs k) ≤ 9000 * k
  | 0, _ => by simp [init, sum]
  | k + 1, h => by
    have ih := init_wgt hz k (by omega)
    have := hz k (by omega)
    unfold init
    split
    · rw [sum_append]
      simp only [sum]
      omega
    · omega
theorem init_tot (zs : List Int) : ∀ k, sum (fun p : Nd => p.2.length) (init zs k) ≤ k
  | 0 => by simp [init, sum]
  | k + 1 => by
    have ih := init_tot zs k
    unfold init
    split
    · rw [sum_append]
      simp only [sum, List.length_singleton]
      omega
    · omega
theorem init_inv {zs : List Int} (hz : ∀ i, i < zs.length → 0 ≤ zs.getD i 0 ∧ zs.getD i 0 ≤ 9000) (hl : zs.length ≤ 300) : Inv zs.length (init zs zs.length) (fun _ => 0) := by
  refine ⟨fun s => (init_dup zs s _).1, fun p hp s hs => ?_, fun s _ => .inl rfl, ?_, ?_, Nat.le_trans (init_tot zs _) hl, fun p hp => by rw [(init_mem zs _ p hp).1]; exact Nat.zero_le _⟩
  · obtain ⟨_, t, h2, h3, _⟩ := init_mem zs _ p hp
    rw [h3, List.mem_singleton] at hs
    omega
  · have := init_wgt hz zs.length (Nat.le_refl _)
    omega
  · have := init_len zs zs.length
    omega
/-- how deep it goes -/
def deep (zs : List Int) : Nat := Nat.max 1 (fin ((init zs zs.length).map (fun p => p.1)))
end Cf
end Go.Proofs.Ythfdnloeicbgkaa

/- The reader of a code, by which inputs are drawn: it stands anywhere, it picks a number below a bound, and nothing but its own place turns. -/
namespace Go.Proofs.Ythfdnloeicbgkaa
open Go.RowKit

/-- the bytes of a code, below block B -/
def Row8 (w : World) (B : Nat) (a : Option Addr) (len : Nat) : Prop :=
  len = 0 ∨ ∃ b off, a = some ⟨b, off, none⟩ ∧ b < B ∧ ∀ i, i < len → ∃ c : Nat, c < 256 ∧ w.cell? ⟨b, off + i, none⟩ = some (.int .u8 (c : Int))

/-- a reader in block B, at place p -/
def RdAt (w : World) (B p : Nat) : Prop :=
  ∃ a len cap, w.cell? ⟨B, 0, none⟩ = some (.slice a len cap) ∧ w.cell? ⟨B, 1, none⟩ = some (.int .i64 (p : Int)) ∧ w.frozen? ⟨B, 1, none⟩ = false ∧ len ≤ 2000 ∧ Row8 w B a len

theorem RdAt.step {w : World} {B p : Nat} (h : RdAt w B p) (n : Nat) : RdAt ((w.setCell ⟨B, 1, none⟩ (.int .i64 ((p + 1 : Nat) : Int))).drewN n) B (p + 1) := by
  obtain ⟨a, len, cap, h0, h1, hf, hl, hr⟩ := h
  refine ⟨a, len, cap, ?_, ?_, ?_, hl, ?_⟩
  · rw [World.cell?_drewN, World.cell?_setCell_other _ _ _ _ (by simp)]; exact h0
  · rw [World.cell?_drewN]; exact World.cell?_setCell_same _ _ _ h1
  · rw [World.frozen?_drewN, World.frozen?_setCell]; exact hf
  · rcases hr with h | ⟨b, off, rfl, hb, hc⟩
    · exact .inl h
    · refine .inr ⟨b, off, rfl, hb, fun i hi => ?_⟩
      obtain ⟨c, hc1, hc2⟩ := hc i hi
      refine ⟨c, hc1, ?_⟩
      rw [World.cell?_drewN, World.cell?_setCell_other _ _ _ _ (fun e => absurd (congrArg Addr.block e) (by show ¬ B = b; omega))]; exact hc2

theorem mix_mod (X n : Int) (h0 : 0 ≤ X) (h1 : X ≤ 1000000000000) (hn : 1 ≤ n) : ∃ v : Nat, (bits .xor .i64 X (X / 64)).tmod n = (v : Int) ∧ (v : Int) < n := by
  obtain ⟨A, rfl⟩ := Int.eq_ofNat_of_zero_le h0
  obtain ⟨N, rfl⟩ := Int.eq_ofNat_of_zero_le (show 0 ≤ n by omega)
  have e := i64_xor_nat A (A / 64) (by omega) (by omega)
  rw [show ((A / 64 : Nat) : Int) = (A : Int) / 64 from by omega] at e
  rw [e]
  refine ⟨(A ^^^ A / 64) % N, ?_, ?_⟩
  · rw [Int.tmod_eq_emod_of_nonneg (by omega)]; rfl
  · have := Nat.mod_lt (A ^^^ A / 64) (show 0 < N by omega); omega

set_option maxHeartbeats 400000 in
theorem pick_far (B p len cap b off : Nat) (n : Int) (w : World) (hn : 1 ≤ n) (hn' : n ≤ 1000000000) (hp : p ≤ 1000000000)
    (h0 : w.cell? ⟨B, 0, none⟩ = some (.slice (some ⟨b, off, none⟩) len cap)) (h1 : w.cell? ⟨B, 1, none⟩ = some (.int .i64 (p : Int))) (hf : w.frozen? ⟨B, 1, none⟩ = false) (hl : len ≤ 2000)
    (hz : ¬ len = 0) (hb : b < B) (hc : ∀ i, i < len → ∃ c : Nat, c < 256 ∧ w.cell? ⟨b, off + i, none⟩ = some (.int .u8 (c : Int))) (hlt : ¬ p < len) :
    Calls Try.prog 29 #[.pointer (some ⟨B, 0, none⟩), .int .i64 n] w fun e w' => ∃ v m : Nat, e = .returned (.int .i64 (v : Int)) ∧ (v : Int) < n ∧ w' = (w.setCell ⟨B, 1, none⟩ (.int .i64 ((p : Int) + 1))).drewN m := by
  have hd : decide (n < 1) = false := by simp; omega
  have hne : ((len : Int) == 0) = false := by simp; omega
  have hlt' : decide ((p : Int) < (len : Int)) = false := by simp; omega
  obtain ⟨c, hc1, hc2⟩ := hc (p % len) (Nat.mod_lt _ (by omega))
  obtain ⟨d, hd1, hd2⟩ := hc ((p * 7 + 3) % len) (Nat.mod_lt _ (by omega))
  have hw1 : (w.setCell ⟨B, 1, none⟩ (.int .i64 ((p : Int) + 1))).cell? ⟨b, off + p % len, none⟩ = some (.int .u8 (c : Int)) := by
    rw [World.cell?_setCell_other _ _ _ _ (fun e => absurd (congrArg Addr.block e) (by show ¬ B = b; omega))]; exact hc2
  have hw2 : (w.setCell ⟨B, 1, none⟩ (.int .i64 ((p : Int) + 1))).cell? ⟨b, off + (p * 7 + 3) % len, none⟩ = some (.int .u8 (d : Int)) := by
    rw [World.cell?_setCell_other _ _ _ _ (fun e => absurd (congrArg Addr.block e) (by show ¬ B = b; omega))]; exact hd2
  have m1 : (p : Int) % (len : Int) < (len : Int) := Int.emod_lt_of_pos _ (by omega)
  have m2 : 0 ≤ (p : Int) % (len : Int) := Int.emod_nonneg _ (by omega)
  have m3 : ((p : Int) * 7 + 3) % (len : Int) < (len : Int) := Int.emod_lt_of_pos _ (by omega)
  have m4 : 0 ≤ ((p : Int) * 7 + 3) % (len : Int) := Int.emod_nonneg _ (by omega)
  have m5 : (p : Int) / (len : Int) ≤ (p : Int) := Int.ediv_le_self _ (by omega)
  have m6 : 0 ≤ (p : Int) / (len : Int) := Int.ediv_nonneg (by omega) (by omega)
  clear hc hc2 hd2
  go_enter Try.func29, Try.ntmps29
  go_wp2
  go_region
  clear hw1 hw2 h0 h1 hf
  go_wp2
  go_ret
  obtain ⟨v, e, hv⟩ := mix_mod ((c : Int) * 131 + (d : Int) * 1117 + (p : Int) * 29 + (p : Int) / (len : Int) * 53) n (by omega) (by omega) hn
  exact ⟨v, 1, ret_int e, hv, rfl⟩

set_option maxHeartbeats 400000 in
theorem pick_any (B p : Nat) (n : Int) (w : World) (hr : RdAt w B p) (hn : 1 ≤ n) (hn' : n ≤ 1000000000) (hp : p ≤ 1000000000) :
    Calls Try.prog 29 #[.pointer (some ⟨B, 0, none⟩), .int .i64 n] w fun e w' => ∃ v m : Nat, e = .returned (.int .i64 (v : Int)) ∧ (v : Int) < n ∧ w' = (w.setCell ⟨B, 1, none⟩ (.int .i64 ((p + 1 : Nat) : Int))).drewN m := by
  obtain ⟨a, len, cap, h0, h1, hf, hl, hrow⟩ := hr
  have hd : decide (n < 1) = false := by simp; omega
  have hcast : ((p + 1 : Nat) : Int) = (p : Int) + 1 := by omega
  rw [hcast]; clear hcast
  by_cases hz : len = 0
  · subst hz
    go_enter Try.func29, Try.ntmps29
    go_wp2
    go_ret
    exact ⟨0, 0, rfl, by omega, rfl⟩
  · rcases hrow with h | ⟨b, off, rfl, hb, hc⟩
    · exact absurd h hz
    · have hne : ((len : Int) == 0) = false := by simp; omega
      by_cases hlt : p < len
      · obtain ⟨c, hc1, hc2⟩ := hc p hlt
        have hc3 : (w.setCell ⟨B, 1, none⟩ (.int .i64 ((p : Int) + 1))).cell? ⟨b, off + p, none⟩ = some (.int .u8 (c : Int)) := by
          rw [World.cell?_setCell_other _ _ _ _ (fun e => absurd (congrArg Addr.block e) (by show ¬ B = b; omega))]; exact hc2
        have hlt' : (p : Int) < (len : Int) := by omega
        clear hc hc2
        go_enter Try.func29, Try.ntmps29
        go_wp2
        go_ret
        obtain ⟨N, rfl⟩ := Int.eq_ofNat_of_zero_le (show 0 ≤ n by omega)
        exact ⟨c % N, 0, rfl, by have := Nat.mod_lt c (show 0 < N by omega); omega, rfl⟩
      · exact pick_far B p len cap b off n w hn hn' hp h0 h1 hf hl hz hb hc hlt
end Go.Proofs.Ythfdnloeicbgkaa

/- The drawn text: whatever the code, some text of a bounded size; nothing but the reader turns. -/
namespace Go.Proofs.Ythfdnloeicbgkaa
open Go.RowKit

theorem RdAt.lt {w : World} {B p : Nat} (h : RdAt w B p) : B < w.heap.size := by
  obtain ⟨a, len, cap, h0, _⟩ := h
  exact World.block_lt_of_cell? _ _ h0

theorem RdAt.kept {w w' : World} {B p : Nat} (h : RdAt w B p) (hb : Below (B + 1) w w') : RdAt w' B p := by
  obtain ⟨a, len, cap, h0, h1, hf, hl, hr⟩ := h
  refine ⟨a, len, cap, (hb.cell (p := ⟨B, 0, none⟩) (by show B < B + 1; omega)).trans h0, (hb.cell (p := ⟨B, 1, none⟩) (by show B < B + 1; omega)).trans h1, (hb.frozen (p := ⟨B, 1, none⟩) (by show B < B + 1; omega)).trans hf, hl, ?_⟩
  rcases hr with h | ⟨b, off, rfl, hbB, hc⟩
  · exact .inl h
  · refine .inr ⟨b, off, rfl, hbB, fun i hi => ?_⟩
    obtain ⟨c, hc1, hc2⟩ := hc i hi
    exact ⟨c, hc1, (hb.cell (p := ⟨b, off + i, none⟩) (by show b < B + 1; omega)).trans hc2⟩

theorem RdAt.alloc {w : World} {B p : Nat} (h : RdAt w B p) (o : Obj) : RdAt (w.alloc o) B p :=
  h.kept ((Below.refl _ _).alloc h.lt o)

theorem RdAt.drew {w : World} {B p : Nat} (h : RdAt w B p) : RdAt w.drew B p := h.kept (Below.refl _ _).drew

/-- what a pick leaves -/
theorem step_only (w : World) (B : Nat) (v : Value) (m : Nat) : Only B w ((w.setCell ⟨B, 1, none⟩ v).drewN m) :=
  ⟨below_drewN ((Below.refl B w).setCell (p := ⟨B, 1, none⟩) (Nat.le_refl _) _) _, fun k _ hk => Below.heap_setCell w ⟨B, 1, none⟩ v k hk⟩

set_option maxHeartbeats 400000 in
theorem l1Many_any (s : ByteArray) (n : Nat) (w : World) (hs : s.size ≤ 100) (hn : n ≤ 10000) :
    Calls Try.prog 56 #[.string s, .int .i64 n] w fun e w' => (∃ t : ByteArray, e = .returned (.string t) ∧ t.size = n * s.size) ∧ w' = w := by
  go_enter Try.func56, Try.ntmps56
  go_wp2_with fail
  go_loop [5, 6] (fun o i => ∃ (k z : Nat) (t : ByteArray), k ≤ n ∧ i = .int .i64 k ∧ o = .string t ∧ z = k * s.size ∧ t.size = z) (fun _ i => n - (intOf i).toNat)
  case atStart => exact ⟨0, 0, ⟨#[]⟩, Nat.zero_le _, rfl, rfl, by omega, rfl⟩
  case round =>
    obtain ⟨k, z, t, hk, rfl, rfl, hz, ht⟩ := hrel
    have hz' : z ≤ n * 100 := by rw [hz]; exact Nat.mul_le_mul hk hs
    have HZ : Hid (z = k * s.size) := hz
    have HT : Hid (t.size = z) := ht
    have htb : t.size ≤ 1000000 := by omega
    clear hz ht hz'
    by_cases hlt : k < n
    · go_wp2_with fail
      go_round
      case rel => exact ⟨k + 1, z + s.size, _, by omega, by go_num, rfl, by rw [HZ.out, Nat.succ_mul], by rw [ByteArray.size_append, HT.out]⟩
      case measure => simp [intOf]; omega
    · have hk' : k = n := by omega
      subst hk'
      go_wp2_with fail
      go_ret
      exact ⟨⟨t, rfl, by rw [HT.out, HZ.out]⟩, rfl⟩

set_option maxHeartbeats 400000 in
theorem of_any (B p L : Nat) (s0 s1 s2 s3 : ByteArray) (w : World) (hr : RdAt w B p) (hp : p ≤ 1000000) (hL : B < L)
    (c0 : w.cell? ⟨L, 0, none⟩ = some (.string s0)) (c1 : w.cell? ⟨L, 1, none⟩ = some (.string s1)) (c2 : w.cell? ⟨L, 2, none⟩ = some (.string s2)) (c3 : w.cell? ⟨L, 3, none⟩ = some (.string s3))
    (h0 : s0.size ≤ 10) (h1 : s1.size ≤ 10) (h2 : s2.size ≤ 10) (h3 : s3.size ≤ 10) :
    Calls Try.prog 57 #[.pointer (some ⟨B, 0, none⟩), .slice (some ⟨L, 0, none⟩) 4 4] w fun e w' => (∃ t : ByteArray, e = .returned (.string t) ∧ t.size ≤ 10) ∧ RdAt w' B (p + 1) ∧ Only B w w' := by
  go_enter Try.func57, Try.ntmps57
  go_wp2_with fail
  refine (pick_any B p 4 w hr (by omega) (by omega) (by omega)).mono ?_
  rintro e w1 ⟨v, m, rfl, hv, rfl⟩
  have hR := hr.step m
  have hbel := step_only w B (.int .i64 ((p + 1 : Nat) : Int)) m
  have hne : ∀ i, (⟨B, 1, none⟩ : Addr) ≠ ⟨L, i, none⟩ := fun i e => absurd (congrArg Addr.block e) (by show ¬ B = L; omega)
  have d0 : ((w.setCell ⟨B, 1, none⟩ (.int .i64 ((p + 1 : Nat) : Int))).drewN m).cell? ⟨L, 0, none⟩ = some (.string s0) := (World.cell?_setCell_other _ _ _ _ (hne 0)).trans c0
  have d1 : ((w.setCell ⟨B, 1, none⟩ (.int .i64 ((p + 1 : Nat) : Int))).drewN m).cell? ⟨L, 1, none⟩ = some (.string s1) := (World.cell?_setCell_other _ _ _ _ (hne 1)).trans c1
  have d2 : ((w.setCell ⟨B, 1, none⟩ (.int .i64 ((p + 1 : Nat) : Int))).drewN m).cell? ⟨L, 2, none⟩ = some (.string s2) := (World.cell?_setCell_other _ _ _ _ (hne 2)).trans c2
  have d3 : ((w.setCell ⟨B, 1, none⟩ (.int .i64 ((p + 1 : Nat) : Int))).drewN m).cell? ⟨L, 3, none⟩ = some (.string s3) := (World.cell?_setCell_other _ _ _ _ (hne 3)).trans c3
  generalize (w.setCell ⟨B, 1, none⟩ (.int .i64 ((p + 1 : Nat) : Int))).drewN m = w1 at *
  clear c0 c1 c2 c3 hne hr
  have h4 : v = 0 ∨ v = 1 ∨ v = 2 ∨ v = 3 := by omega
  rcases h4 with rfl | rfl | rfl | rfl
  · go_wp2_with fail
    go_ret
    exact ⟨⟨s0, rfl, h0⟩, hR, hbel⟩
  · go_wp2_with fail
    go_ret
    exact ⟨⟨s1, rfl, h1⟩, hR, hbel⟩
  · go_wp2_with fail
    go_ret
    exact ⟨⟨s2, rfl, h2⟩, hR, hbel⟩
  · go_wp2_with fail
    go_ret
    exact ⟨⟨s3, rfl, h3⟩, hR, hbel⟩


theorem of_new (B p : Nat) (s0 s1 s2 s3 : ByteArray) (w : World) (hr : RdAt w B p) (hp : p ≤ 1000000)
    (h0 : s0.size ≤ 10) (h1 : s1.size ≤ 10) (h2 : s2.size ≤ 10) (h3 : s3.size ≤ 10) :
    Calls Try.prog 57 #[.pointer (some ⟨B, 0, none⟩), .slice (some ⟨w.heap.size, 0, none⟩) 4 4] (w.alloc (.cells #[.string s0, .string s1, .string s2, .string s3] 9)) fun e w' => (∃ t : ByteArray, e = .returned (.string t) ∧ t.size ≤ 10) ∧ RdAt w' B (p + 1) ∧ Only B w w' := by
  refine (of_any B p w.heap.size s0 s1 s2 s3 _ (hr.alloc _) hp hr.lt ?_ ?_ ?_ ?_ h0 h1 h2 h3).mono ?_
  · rw [World.cell?_alloc_at _ _ _ _ rfl]; rfl
  · rw [World.cell?_alloc_at _ _ _ _ rfl]; rfl
  · rw [World.cell?_alloc_at _ _ _ _ rfl]; rfl
  · rw [World.cell?_alloc_at _ _ _ _ rfl]; rfl
  · rintro e w' ⟨h, hR, hb⟩
    exact ⟨h, hR, ((Only.refl B w).alloc hr.lt _).trans hb⟩

end Go.Proofs.Ythfdnloeicbgkaa

/- A reader over a code that came in, and drawn texts. -/
namespace Go.Proofs.Ythfdnloeicbgkaa
open Go.RowKit

/-- what the walks are told of a code that came in -/
def Code8 (w : World) (a : Option Addr) (len cap : Nat) : Prop := len ≤ cap ∧ cap ≤ maxLen ∧ Row8 w w.heap.size a len

theorem Code8.kept {w w' : World} {a : Option Addr} {len cap : Nat} (h : Code8 w a len cap) (hb : Below w.heap.size w w') : Code8 w' a len cap := by
  obtain ⟨h1, h2, hr⟩ := h
  refine ⟨h1, h2, ?_⟩
  rcases hr with h | ⟨b, off, rfl, hbB, hc⟩
  · exact .inl h
  · refine .inr ⟨b, off, rfl, Nat.lt_of_lt_of_le hbB hb.size, fun i hi => ?_⟩
    obtain ⟨c, hc1, hc2⟩ := hc i hi
    exact ⟨c, hc1, (hb.cell (p := ⟨b, off + i, none⟩) hbB).trans hc2⟩

theorem Row8.less {w : World} {B : Nat} {a : Option Addr} {len k : Nat} (h : Row8 w B a len) (hk : k ≤ len) : Row8 w B a k := by
  rcases h with h | ⟨b, off, rfl, hb, hc⟩
  · exact .inl (by omega)
  · exact .inr ⟨b, off, rfl, hb, fun i hi => hc i (by omega)⟩

theorem rd_new {w : World} {a : Option Addr} {len cap : Nat} (hr : Row8 w w.heap.size a len) (hl : len ≤ 2000) :
    RdAt (w.alloc (.cells #[.slice a len cap, .int .i64 0] 74)) w.heap.size 0 := by
  refine ⟨a, len, cap, ?_, ?_, ?_, hl, ?_⟩
  · rw [World.cell?_alloc_at _ _ _ _ rfl]; rfl
  · rw [World.cell?_alloc_at _ _ _ _ rfl]; rfl
  · rw [World.frozen?_alloc_at _ _ _ _ rfl]
  · rcases hr with h | ⟨b, off, rfl, hb, hc⟩
    · exact .inl h
    · refine .inr ⟨b, off, rfl, hb, fun i hi => ?_⟩
      obtain ⟨c, hc1, hc2⟩ := hc i hi
      exact ⟨c, hc1, (World.cell?_alloc_past _ _ _ hb).trans hc2⟩

set_option maxHeartbeats 400000 in
theorem open_any (a : Option Addr) (len cap : Nat) (w : World) (h : Code8 w a len cap) :
    Calls Try.prog 12 #[.slice a len cap] w fun e w' => e = .returned (.pointer (some ⟨w.heap.size, 0, none⟩)) ∧ RdAt w' w.heap.size 0 ∧ Below w.heap.size w w' := by
  obtain ⟨h1, h2, hr⟩ := h
  unfold maxLen at h2
  by_cases hb : 2000 < len
  · have hR := rd_new (cap := cap) (hr.less (show 2000 ≤ len by omega)) (by omega)
    have hcap : (2000 : Int) ≤ (cap : Int) := by omega
    rcases hr with h | ⟨b, off, rfl, hbB, hc⟩
    · omega
    · clear hc
      go_enter Try.func12, Try.ntmps12
      go_wp2
      go_ret
      exact ⟨rfl, hR, (Below.refl _ _).alloc (Nat.le_refl _) _⟩
  · have hR := rd_new (cap := cap) hr (by omega)
    clear hr
    go_enter Try.func12, Try.ntmps12
    go_wp2
    go_ret
    exact ⟨rfl, hR, (Below.refl _ _).alloc (Nat.le_refl _) _⟩

/-- the contract of a pick, its world under a name -/
theorem pick_named (B p : Nat) (n : Int) (w : World) (hr : RdAt w B p) (hn : 1 ≤ n) (hn' : n ≤ 1000000000) (hp : p ≤ 1000000000) :
    Calls Try.prog 29 #[.pointer (some ⟨B, 0, none⟩), .int .i64 n] w fun e w' => ∃ v : Nat, e = .returned (.int .i64 (v : Int)) ∧ (v : Int) < n ∧ RdAt w' B (p + 1) ∧ Only B w w' ∧ w'.heap.size = w.heap.size := by
  refine (pick_any B p n w hr hn hn' hp).mono ?_
  rintro e w' ⟨v, m, rfl, hv, rfl⟩
  exact ⟨v, rfl, hv, hr.step m, step_only w B _ m, by simp⟩
end Go.Proofs.Ythfdnloeicbgkaa

/- The draw of the laws on rows. -/
namespace Go.Proofs.Ythfdnloeicbgkaa
open Go.RowKit

theorem Only.grown {B : Nat} {w a b : World} (h : Only B w a) (hB : B < w.heap.size) (g : Below w.heap.size a b) : Only B w b :=
  ⟨h.below.trans (g.mono (Nat.le_of_lt hB)), fun k hk hkB => (g.block k hk).trans (h.rest k hk hkB)⟩

theorem OwnI.same {w w' : World} {B n : Nat} {v : Value} {l : List Int} (h : OwnI w B v n l) (hk : ∀ k, k < w.heap.size → B ≤ k → w'.heap[k]? = w.heap[k]?) : OwnI w' B v n l := by
  refine ⟨h.1, ?_⟩
  rcases h.2 with h2 | ⟨g, cap, cur, hv, hg, hh, r⟩
  · exact .inl h2
  · have hlt : g < w.heap.size := by
      rcases Nat.lt_or_ge g w.heap.size with hlt | hge
      · exact hlt
      · rw [Array.getElem?_eq_none hge] at hh; cases hh
    exact .inr ⟨g, cap, cur, hv, hg, by rw [hk g hlt hg]; exact hh, r⟩
theorem OwnI.only {w w' : World} {B C n : Nat} {v : Value} {l : List Int} (h : OwnI w B v n l) (ho : Only C w w') (hC : C < B) : OwnI w' B v n l := h.same (fun k hk hB => ho.rest k hk (by omega))
theorem OwnI.lower {w : World} {B C n : Nat} {v : Value} {l : List Int} (h : OwnI w B v n l) (hC : C ≤ B) : OwnI w C v n l := by
  refine ⟨h.1, ?_⟩
  rcases h.2 with h2 | ⟨g, cap, cur, hv, hg, r⟩
  · exact .inl h2
  · exact .inr ⟨g, cap, cur, hv, by omega, r⟩

end Go.Proofs.Ythfdnloeicbgkaa

/- Nodes of a tree in memory, as the specification has them. -/
namespace Go.Proofs.Ythfdnloeicbgkaa
open Go.RowKit

theorem info_node : (Try.prog.info? 178).map (fun i => (i.zero, i.size, i.bytes)) = some (some (.agg #[.int .i64 0, .slice none 0 0]), 2, 32) := by kernel_rfl

/-- symbols: where they lie, how many there is room for, which they are -/
abbrev Sy := Option Addr × Nat × List Nat
def syV (s : Sy) : Value := .slice s.1 s.2.2.length s.2.1
/-- nodes as they lie in memory -/
def ndCells : List Nat → List Sy → List Value
  | w :: ws, s :: ss => .int .i64 (w : Int) :: syV s :: ndCells ws ss
  | _, _ => []
theorem ndCells_snoc : ∀ (ws : List Nat) (ss : List Sy) (w : Nat) (s : Sy), ws.length = ss.length → ndCells ws ss ++ [.int .i64 (w : Int), syV s] = ndCells (ws ++ [w]) (ss ++ [s])
  | [], [], w, s, _ => rfl
  | [], _ :: _, _, _, h => by simp at h
  | _ :: _, [], _, _, h => by simp at h
  | x :: ws, y :: ss, w, s, h => by simp only [ndCells, List.cons_append, ndCells_snoc ws ss w s (by simpa using h)]
theorem ndCells_get : ∀ (ws : List Nat) (ss : List Sy) (h : ws.length = ss.length) (i : Nat) (hi : i < ws.length), (ndCells ws ss)[i * 2]? = some (.int .i64 (ws[i] : Int)) ∧ (ndCells ws ss)[i * 2 + 1]? = some (syV (ss[i]'(by omega)))
  | w :: ws, s :: ss, h, 0, hi => by simp [ndCells]
  | w :: ws, s :: ss, h, i + 1, hi => by
    have := ndCells_get ws ss (by simpa using h) i (by simpa using hi)
    rw [show (i + 1) * 2 = i * 2 + 1 + 1 by omega, show i * 2 + 1 + 1 + 1 = i * 2 + 1 + 1 + 1 from rfl]
    simp only [ndCells, List.getElem?_cons_succ, List.getElem_cons_succ]
    exact this

/-- symbols in a row behind the block Q -/
def SymRow (Q : Nat) (W : World) (s : Sy) : Prop := s.2.2.length ≤ s.2.1 ∧ (s.2.2 = [] ∨ ∃ b cs fr, s.1 = some ⟨b, 0, none⟩ ∧ Q < b ∧ W.heap[b]? = some (.cells cs 3 fr) ∧ ∀ i (h : i < s.2.2.length), cs[i]? = some (.int .i64 (s.2.2[i] : Int)))
/-- rows of ints behind Q stay -/
def IntK (Q : Nat) (W W' : World) : Prop := W.heap.size ≤ W'.heap.size ∧ ∀ b cs fr, Q < b → W.heap[b]? = some (.cells cs 3 fr) → W'.heap[b]? = some (.cells cs 3 fr)
theorem IntK.refl (Q : Nat) (W : World) : IntK Q W W := ⟨Nat.le_refl _, fun _ _ _ _ h => h⟩
theorem IntK.trans {Q : Nat} {A B C : World} (h : IntK Q A B) (k : IntK Q B C) : IntK Q A C := ⟨Nat.le_trans h.1 k.1, fun b cs fr hb hc => k.2 b cs fr hb (h.2 b cs fr hb hc)⟩
theorem IntK.alloc {Q : Nat} {A B : World} (h : IntK Q A B) (o : Obj) : IntK Q A (B.alloc o) := h.trans ⟨by simp, fun b _ _ _ hc => (Below.heap_alloc B o b (Array.getElem?_eq_some_iff.1 hc).1).trans hc⟩
theorem IntK.drew {Q : Nat} {A B : World} (h : IntK Q A B) : IntK Q A B.drew := h
theorem IntK.drewN {Q : Nat} {A B : World} (h : IntK Q A B) (m : Nat) : IntK Q A (B.drewN m) := h
theorem IntK.out {Q : Nat} {A B : World} (h : IntK Q A B) (i : Nat) (v : Value) : IntK Q A (B.setCell ⟨Q, i, none⟩ v) := h.trans ⟨by simp, fun b _ _ hb hc => by rw [Below.heap_setCell B ⟨Q, i, none⟩ v b (by show b ≠ Q; omega)]; exact hc⟩
/-- the row of another type grows -/
theorem IntK.grown {Q : Nat} {A B C : World} {v : Value} {lo n size : Nat} {e : TypeId} {xs : List Value} (h : IntK Q A B) (hr : B.ownsRow lo e size v n xs) (he : e ≠ 3) (hg : B.grownBy C v.ownBlock) : IntK Q A C :=
  h.trans ⟨hg.size, fun b _ _ _ hc => (hg.block b (Array.getElem?_eq_some_iff.1 hc).1 (fun eb => by
    rcases hr.2 with ⟨rfl, _⟩ | ⟨g, cap, cur, rfl, _, hgg, _⟩
    · cases eb
    · simp [Value.ownBlock] at eb
      subst eb
      rw [hgg] at hc
      cases hc
      exact he rfl)).trans hc⟩
theorem IntK.below {Q : Nat} {A B C : World} (h : IntK Q A B) (hb : Below B.heap.size B C) : IntK Q A C := h.trans ⟨hb.size, fun b _ _ _ hc => (hb.block b (Array.getElem?_eq_some_iff.1 hc).1).trans hc⟩
theorem SymRow.kept {Q : Nat} {W W' : World} {s : Sy} (h : SymRow Q W s) (k : IntK Q W W') : SymRow Q W' s := by
  refine ⟨h.1, ?_⟩
  rcases h.2 with e | ⟨b, cs, fr, h1, h2, h3, h4⟩
  · exact .inl e
  · exact .inr ⟨b, cs, fr, h1, h2, k.2 b cs fr h2 h3, h4⟩
theorem SymRow.ints {Q : Nat} {W : World} {s : Sy} (h : SymRow Q W s) : Ints W s.1 (s.2.2.map (fun x : Nat => (x : Int))) := by
  rcases h.2 with e | ⟨b, cs, fr, h1, h2, h3, h4⟩
  · left; rw [e]; rfl
  · refine .inr ⟨b, 0, h1, (Array.getElem?_eq_some_iff.1 h3).1, fun i hi => ?_⟩
    rw [List.length_map] at hi
    rw [Nat.zero_add, List.getElem_map]
    simp [World.cell?, h3, h4 i hi]
theorem SymRow.low {Q : Nat} {W W' : World} {s : Sy} (h : SymRow Q W s) (hk : ∀ k, k < W.heap.size → Q < k → W'.heap[k]? = W.heap[k]?) : SymRow Q W' s := by
  refine ⟨h.1, ?_⟩
  rcases h.2 with e | ⟨b, cs, fr, h1, h2, h3, h4⟩
  · exact .inl e
  · exact .inr ⟨b, cs, fr, h1, h2, (hk b (Array.getElem?_eq_some_iff.1 h3).1 h2).trans h3, h4⟩
/-- symbols that lie in a row of the call's own -/
theorem symRow_own {Q lo n c : Nat} {W : World} {a : Option Addr} {l : List Nat} (h : OwnI W lo (.slice a n c) n (l.map (fun x : Nat => (x : Int)))) (hQ : Q < lo) : SymRow Q W (a, c, l) := by
  have hl := h.len
  rw [List.length_map] at hl
  rcases h.2 with ⟨e, h0⟩ | ⟨g, cap, cur, e, h1, h2, h3, _, _, h6⟩
  · cases e
    have : l = [] := List.eq_nil_of_length_eq_zero (by omega)
    subst this
    exact ⟨Nat.le_refl _, .inl rfl⟩
  · cases e
    refine ⟨by show l.length ≤ c; omega, .inr ⟨g, cur, (0, 0), rfl, by omega, h2, fun i hi => ?_⟩⟩
    have hi' : i < l.length := hi
    have : (cur.toList.take (n * 1))[i]? = some (.int .i64 ((l[i] : Nat) : Int)) := by
      rw [h6, intsV_get _ i (by rw [List.length_map]; exact hi'), List.getElem_map]
    rw [List.getElem?_take_of_lt (by omega)] at this
    simpa using this

/-- a list of nodes of the call's own -/
def Nodes (Q lo : Nat) (W : World) (v : Value) (ws : List Nat) (ss : List Sy) : Prop :=
  Q < lo ∧ ws.length = ss.length ∧ W.ownsRow lo 178 2 v ws.length (ndCells ws ss) ∧ ∀ s ∈ ss, SymRow Q W s
theorem Nodes.shape {Q lo : Nat} {W : World} {v : Value} {ws : List Nat} {ss : List Sy} (h : Nodes Q lo W v ws ss) : ∃ a c, v = .slice a ws.length c ∧ ws.length ≤ c := by
  rcases h.2.2.1.2 with ⟨rfl, h0⟩ | ⟨g, cap, cur, rfl, _, _, h1, _⟩
  · rw [h0]; exact ⟨none, 0, rfl, Nat.le_refl _⟩
  · exact ⟨_, cap, rfl, h1⟩
theorem Nodes.at {Q lo : Nat} {W : World} {a : Option Addr} {n c : Nat} {ws : List Nat} {ss : List Sy} (h : Nodes Q lo W (.slice a n c) ws ss) {i : Nat} (hi : i < ws.length) :
    ∃ g, a = some ⟨g, 0, none⟩ ∧ W.cell? ⟨g, i * 2, none⟩ = some (.int .i64 (ws[i] : Int)) ∧ W.cell? ⟨g, i * 2 + 1, none⟩ = some (syV (ss[i]'(by rw [← h.2.1]; exact hi))) ∧ SymRow Q W (ss[i]'(by rw [← h.2.1]; exact hi)) := by
  obtain ⟨_, h1, h2, h3⟩ := h
  rcases h2.2 with ⟨e, h0⟩ | ⟨g, cap, cur, e, _, hg, _⟩
  · omega
  · cases e
    obtain ⟨c1, c2⟩ := ndCells_get ws ss h1 i hi
    refine ⟨g, rfl, ?_, ?_, h3 _ (List.getElem_mem _)⟩
    · have := World.ownsRow.cells h2 (g := g) rfl (i * 2) _ c1
      rw [show (⟨g, 0, none⟩ : Addr).add (i * 2) = ⟨g, i * 2, none⟩ by simp [Addr.add]; try omega] at this
      exact this
    · have := World.ownsRow.cells h2 (g := g) rfl (i * 2 + 1) _ c2
      rw [show (⟨g, 0, none⟩ : Addr).add (i * 2 + 1) = ⟨g, i * 2 + 1, none⟩ by simp [Addr.add]; try omega] at this
      exact this
theorem Nodes.same {Q lo : Nat} {W W' : World} {v : Value} {ws : List Nat} {ss : List Sy} (h : Nodes Q lo W v ws ss) (hk : ∀ k, k < W.heap.size → Q < k → W'.heap[k]? = W.heap[k]?) : Nodes Q lo W' v ws ss := by
  refine ⟨h.1, h.2.1, ⟨h.2.2.1.1, ?_⟩, fun s hs => ?_⟩
  · rcases h.2.2.1.2 with h2 | ⟨g, cap, cur, hv, hg, hh, r⟩
    · exact .inl h2
    · exact .inr ⟨g, cap, cur, hv, hg, (hk g (Array.getElem?_eq_some_iff.1 hh).1 (by have := h.1; omega)).trans hh, r⟩
  · exact (h.2.2.2 s hs).low hk
theorem Nodes.lower {Q lo lo' : Nat} {W : World} {v : Value} {ws : List Nat} {ss : List Sy} (h : Nodes Q lo W v ws ss) (hl : lo' ≤ lo) (hQ : Q < lo') : Nodes Q lo' W v ws ss := by
  refine ⟨hQ, h.2.1, ⟨h.2.2.1.1, ?_⟩, h.2.2.2⟩
  rcases h.2.2.1.2 with h2 | ⟨g, cap, cur, hv, hg, r⟩
  · exact .inl h2
  · exact .inr ⟨g, cap, cur, hv, by omega, r⟩
theorem nodes_none (Q : Nat) (W : World) (hQ : Q < W.heap.size) : Nodes Q W.heap.size (W.alloc (.cells #[] 178)) (.slice (some ⟨W.heap.size, 0, none⟩) 0 0) [] [] :=
  ⟨hQ, rfl, ⟨rfl, .inr ⟨W.heap.size, 0, #[], rfl, Nat.le_refl _, heap_alloc_new W _, Nat.le_refl _, Nat.zero_le _, rfl, rfl⟩⟩, fun _ h => by simp at h⟩

/-- a node is put behind others -/
theorem wpList_appN {ops : Array Oper} {rest : List Oper} {o : Oper} {ac : Act} {K : Exit → Act → World → Prop} (w0 : World) (hgd : o.guard = none) (x y : Operand)
    (ho : o.op = .call { callee := .builtin .append, args := #[x, y], argTypes := #[176, 176] })
    (Q lo : Nat) (v : Value) (ws : List Nat) (ss : List Sy) (wt n : Nat) (s : Sy) (hs : ac.eval x = v) (hown : Nodes Q lo w0 v ws ss) (hwn : ws.length = n) (hsy : SymRow Q w0 s) (H : Nat) (hH : w0.heap.size = H) (hx : ac.eval y = .slice (some ⟨H, 0, none⟩) 1 1) (hn : n ≤ 2000000) (hb : lo ≤ w0.heap.size)
    (h : ∀ g cap w', Nodes Q lo w' (.slice (some ⟨g, 0, none⟩) (n + 1) cap) (ws ++ [wt]) (ss ++ [s]) → IntK Q w0 w' → Below lo w0 w' → wpList Try.prog ops K rest (ac.put o.dst (.slice (some ⟨g, 0, none⟩) (n + 1) cap)) w') :
    wpList Try.prog ops K (o :: rest) ac (w0.alloc (.cells #[.int .i64 (wt : Int), syV s] 178)) := by
  subst hwn
  subst hH
  obtain ⟨i0, hi0, hz0, hz1, hz2⟩ := info_parts info_node
  have hA : (w0.alloc (.cells #[.int .i64 (wt : Int), syV s] 178)).ownsRow lo 178 2 v ws.length (ndCells ws ss) := World.ownsRow.alloc hown.2.2.1 _
  refine wpList_append_lies _ hgd x y _ ho lo 178 i0 (.agg #[.int .i64 0, .slice none 0 0]) 2 32 Try.underlying176 hi0 hz0 hz1 hz2 rfl (by decide) v ws.length (ndCells ws ss) hs hA ⟨w0.heap.size, 0, none⟩ 1 1 [.int .i64 (wt : Int), syV s] hx rfl (World.news_of_block (heap_alloc_new _ _)) (fun u hu => by simp at hu; rcases hu with rfl | rfl <;> rfl) (by decide) (by unfold maxLen; omega) (by omega) (Nat.le_trans hb (by simp)) _ rfl ?_
  intro g cap w' hown' hg hat hlt
  have hk : IntK Q w0 w' := ((IntK.refl Q w0).alloc _).grown hA (by decide) hg
  refine h g cap w' ⟨hown.1, by simp [hown.2.1], ?_, fun t ht => ?_⟩ hk ?_
  · rw [List.length_append, List.length_singleton, ← ndCells_snoc _ _ _ _ hown.2.1]; exact hown'
  · rcases List.mem_append.1 ht with ht | ht
    · exact (hown.2.2.2 t ht).kept hk
    · rw [List.mem_singleton] at ht; subst ht; exact hsy.kept hk
  · exact ((Below.refl _ _).alloc hb _).trans ((Below.refl _ _).grown hg (Nat.le_trans hb (by simp)) (fun j hj => (World.ownsRow.lt hown.2.2.1 j hj).1))
end Go.Proofs.Ythfdnloeicbgkaa

/- The exact law of CodeCost, walked. -/
namespace Go.Proofs.Ythfdnloeicbgkaa
open Go.RowKit

/-- whether a number of how often a symbol comes is within its bounds -/
def oneB (z : Int) : Bool := decide (0 ≤ z) && decide (z ≤ 9000)
def oftenB (os : List Int) : Bool := os.all oneB
end Go.Proofs.Ythfdnloeicbgkaa

/- The exact law of CodeFull, walked. -/
namespace Go.Proofs.Ythfdnloeicbgkaa
open Go.RowKit

/-- whether a code leaves nothing over -/
def fullB (zs : List Int) : Bool := Cd.okB zs && decide (Cd.left zs = 0)

theorem left_of_ok {zs : List Int} (h : Cd.okB zs = true) : Cd.left zs = 32768 - (Cd.taken zs : Int) := by
  unfold Cd.okB at h
  simp only [Bool.and_eq_true, decide_eq_true_eq] at h
  unfold Cd.left; rw [if_pos h.2]

end Go.Proofs.Ythfdnloeicbgkaa

/- Plain mathematics of bits that are packed into bytes: each stands where it was put. -/
namespace Go.Proofs.Ythfdnloeicbgkaa
namespace Bp

/-- a byte of a text, with one bit more -/
theorem byte_bit : ∀ x, x < 256 → ∀ p, p < 8 → x / 2 ^ p % 2 = 0 → x ||| 2 ^ p = x + 2 ^ p ∧ x + 2 ^ p < 256 ∧ ∀ q, q < 8 → (x + 2 ^ p) / 2 ^ q % 2 = if q = p then 1 else x / 2 ^ q % 2 := by
  decide +kernel

theorem byte_step (x p b : Nat) (hx : x < 256) (hp : p < 8) (hb : b < 2) (h0 : x / 2 ^ p % 2 = 0) :
    x ||| b * 2 ^ p = x + b * 2 ^ p ∧ x + b * 2 ^ p < 256 ∧ ∀ q, q < 8 → (x + b * 2 ^ p) / 2 ^ q % 2 = if q = p then b else x / 2 ^ q % 2 := by
  rcases (by omega : b = 0 ∨ b = 1) with rfl | rfl
  · rw [Nat.zero_mul, Nat.add_zero, Nat.or_zero]
    refine ⟨rfl, hx, fun q hq => ?_⟩
    split
    · next e => rw [e]; exact h0
    · rfl
  · rw [Nat.one_mul]; exact byte_bit x hx p hp h0

/-- the bytes, with room for the next bit -/
def room (n : Nat) (out : List Nat) : List Nat := if n % 8 = 0 then out ++ [0] else out

/-- the bytes of the first n bits -/
def pack (hi : Bool) (f : Nat → Nat) : Nat → List Nat
  | 0 => []
  | n + 1 => (room n (pack hi f n)).set (n / 8) ((room n (pack hi f n)).getD (n / 8) 0 + f n * 2 ^ Bg.spot hi n)

theorem pack_len (hi : Bool) (f : Nat → Nat) : ∀ n, (pack hi f n).length = (n + 7) / 8 := by
  intro n
  induction n with
  | zero => rfl
  | succ n ih =>
    simp only [pack, List.length_set, room]
    split
    · rw [List.length_append, ih]; simp; omega
    · rw [ih]; omega

theorem room_len (hi : Bool) (f : Nat → Nat) (n : Nat) : (room n (pack hi f n)).length = n / 8 + 1 := by
  unfold room
  split
  · rw [List.length_append, pack_len]; simp; omega
  · rw [pack_len]; omega

theorem spot_inj (hi : Bool) (i n : Nat) (h : i / 8 = n / 8) (g : Bg.spot hi i = Bg.spot hi n) : i = n := by
  unfold Bg.spot at g
  split at g <;> omega

structure Inv (hi : Bool) (f : Nat → Nat) (n : Nat) (o : List Nat) : Prop where
  byte : ∀ j, o.getD j 0 < 256
  bit : ∀ i, i / 8 < o.length → o.getD (i / 8) 0 / 2 ^ Bg.spot hi i % 2 = if i < n then f i else 0

theorem getD_snoc (o : List Nat) (j : Nat) : (o ++ [0]).getD j 0 = o.getD j 0 := by
  rw [List.getD_eq_getElem?_getD, List.getD_eq_getElem?_getD]
  by_cases h : j < o.length
  · rw [List.getElem?_append_left h]
  · rw [List.getElem?_append_right (by omega), List.getElem?_eq_none (l := o) (by omega)]
    rcases (by omega : j - o.length = 0 ∨ 0 < j - o.length) with e | e
    · rw [e]; rfl
    · rw [List.getElem?_eq_none (by simp; omega)]

theorem inv_room (hi : Bool) (f : Nat → Nat) (n : Nat) (o : List Nat) (hl : o.length = (n + 7) / 8) (h : Inv hi f n o) : Inv hi f n (room n o) := by
  unfold room
  split
  · next e =>
    refine ⟨fun j => by rw [getD_snoc]; exact h.byte j, fun i hi' => ?_⟩
    rw [getD_snoc]
    by_cases g : i / 8 < o.length
    · exact h.bit i g
    · rw [List.getD_eq_getElem?_getD, List.getElem?_eq_none (by omega)]
      rw [List.length_append] at hi'
      simp at hi'
      rw [if_neg (by omega)]
      simp
  · exact h

theorem getD_set (o : List Nat) (j k x : Nat) (hj : j < o.length) : (o.set j x).getD k 0 = if j = k then x else o.getD k 0 := by
  rw [List.getD_eq_getElem?_getD, List.getElem?_set]
  split
  · first | rfl | (rw [if_pos (by omega)]; rfl)
  · rw [List.getD_eq_getElem?_getD]

theorem inv (hi : Bool) (f : Nat → Nat) (hf : ∀ i, f i < 2) : ∀ n, Inv hi f n (pack hi f n) := by
  intro n
  induction n with
  | zero => exact ⟨fun j => by simp [pack], fun i h => by simp [pack] at h⟩
  | succ n ih =>
    have hr := inv_room hi f n _ (pack_len hi f n) ih
    have hl := room_len hi f n
    simp only [pack]
    generalize room n (pack hi f n) = o at *
    have h0 := hr.bit n (by omega)
    rw [if_neg (by omega)] at h0
    have hs := Bg.spot_le hi n
    obtain ⟨_, s2, s3⟩ := byte_step (o.getD (n / 8) 0) (Bg.spot hi n) (f n) (hr.byte _) (by omega) (hf n) h0
    refine ⟨fun j => ?_, fun i hi' => ?_⟩
    · rw [getD_set _ _ _ _ (by omega)]
      split
      · exact s2
      · exact hr.byte j
    · rw [List.length_set] at hi'
      rw [getD_set _ _ _ _ (by omega)]
      have hq := Bg.spot_le hi i
      split
      · next e =>
        rw [s3 _ (by omega)]
        by_cases g : i = n
        · subst g; rw [if_pos rfl, if_pos (by omega)]
        · rw [if_neg (fun k => g (spot_inj hi i n e.symm k)), e, hr.bit i hi']
          by_cases l : i < n
          · rw [if_pos l, if_pos (by omega)]
          · rw [if_neg l, if_neg (by omega)]
      · next e =>
        rw [hr.bit i hi']
        by_cases l : i < n
        · rw [if_pos l, if_pos (by omega)]
        · have : ¬ i = n := fun k => e (by rw [k])
          rw [if_neg l, if_neg (by omega)]

/-- what a step finds: the byte with room, its bit not set -/
theorem step_facts (hi : Bool) (f : Nat → Nat) (hf : ∀ i, f i < 2) (n : Nat) :
    let x := (room n (pack hi f n)).getD (n / 8) 0
    x < 256 ∧ x + f n * 2 ^ Bg.spot hi n < 256 ∧ x ||| f n * 2 ^ Bg.spot hi n = x + f n * 2 ^ Bg.spot hi n := by
  have hr := inv_room hi f n _ (pack_len hi f n) (inv hi f hf n)
  have hl := room_len hi f n
  have h0 := hr.bit n (by omega)
  rw [if_neg (by omega)] at h0
  have hs := Bg.spot_le hi n
  obtain ⟨s1, s2, _⟩ := byte_step _ (Bg.spot hi n) (f n) (hr.byte (n / 8)) (by omega) (hf n) h0
  exact ⟨hr.byte _, s2, s1⟩

/-- the k-th bit of a number of s bits -/
def bitIn (hi : Bool) (v s k : Nat) : Nat := v / 2 ^ (if hi then s - 1 - k else k) % 2
theorem bitIn_lt (hi : Bool) (v s k : Nat) : bitIn hi v s k < 2 := Nat.mod_lt _ (by omega)

/-- a bit's number and size, ok -/
def Ok (p : Int × Int) : Prop := 0 ≤ p.2 ∧ p.2 ≤ 24 ∧ 0 ≤ p.1 ∧ p.1.toNat < 2 ^ p.2.toNat
def okB (p : Int × Int) : Bool := decide (0 ≤ p.2 ∧ p.2 ≤ 24 ∧ 0 ≤ p.1 ∧ p.1.toNat < 2 ^ p.2.toNat)
/-- all bits, one behind the other -/
def bitsOf (hi : Bool) (l : List (Int × Int)) : List Nat := l.flatMap fun p => (List.range p.2.toNat).map fun k => bitIn hi p.1.toNat p.2.toNat k
def fOf (hi : Bool) (l : List (Int × Int)) (i : Nat) : Nat := (bitsOf hi l).getD i 0
/-- how many bits the first i have -/
def tot (l : List (Int × Int)) (i : Nat) : Nat := ((l.take i).map fun p => p.2.toNat).sum

theorem bitsOf_lt (hi : Bool) (l : List (Int × Int)) : ∀ x ∈ bitsOf hi l, x < 2 := by
  intro x hx
  unfold bitsOf at hx
  rw [List.mem_flatMap] at hx
  obtain ⟨p, _, hp⟩ := hx
  rw [List.mem_map] at hp
  obtain ⟨k, _, rfl⟩ := hp
  exact bitIn_lt _ _ _ _

theorem fOf_lt (hi : Bool) (l : List (Int × Int)) (i : Nat) : fOf hi l i < 2 := by
  unfold fOf
  rw [List.getD_eq_getElem?_getD]
  by_cases h : i < (bitsOf hi l).length
  · rw [List.getElem?_eq_getElem h]; exact bitsOf_lt hi l _ (List.getElem_mem h)
  · rw [List.getElem?_eq_none (by omega)]; simp

theorem tot_succ (l : List (Int × Int)) (i : Nat) (h : i < l.length) : tot l (i + 1) = tot l i + (l[i]).2.toNat := by
  unfold tot
  rw [List.take_succ_eq_append_getElem h, List.map_append, List.sum_append]
  simp

theorem fOf_at (hi : Bool) : ∀ (l : List (Int × Int)) (i k : Nat) (h : i < l.length), k < (l[i]).2.toNat → fOf hi l (tot l i + k) = bitIn hi (l[i]).1.toNat (l[i]).2.toNat k := by
  intro l
  induction l with
  | nil => intro i k h; simp at h
  | cons p l ih =>
    intro i k h hk
    have hb : bitsOf hi (p :: l) = ((List.range p.2.toNat).map fun k => bitIn hi p.1.toNat p.2.toNat k) ++ bitsOf hi l := by simp [bitsOf]
    cases i with
    | zero =>
      simp only [List.getElem_cons_zero] at hk ⊢
      unfold fOf
      rw [hb, List.getD_eq_getElem?_getD]
      have : tot (p :: l) 0 + k = k := by simp [tot]
      rw [this, List.getElem?_append_left (by simpa using hk)]
      simp [hk]
    | succ i =>
      simp only [List.getElem_cons_succ] at hk ⊢
      rw [← ih i k (by simpa using h) hk]
      unfold fOf
      rw [hb, List.getD_eq_getElem?_getD, List.getD_eq_getElem?_getD]
      have e : tot (p :: l) (i + 1) = p.2.toNat + tot l i := by simp [tot]
      rw [List.getElem?_append_right (by simp [e]; omega)]
      congr 2
      simp [e]
      omega

/-- all are ok, and not too many -/
def Fits (l : List (Int × Int)) (i : Nat) : Prop := ∀ j (h : j < l.length), j < i → Ok l[j] ∧ tot l (j + 1) ≤ 72000

/-- the text that bits make -/
def text (hi : Bool) (l : List (Int × Int)) : List Nat := pack hi (fOf hi l) (tot l l.length)
end Bp
end Go.Proofs.Ythfdnloeicbgkaa

/- What BitsPut answers, in plain mathematics. -/
namespace Go.Proofs.Ythfdnloeicbgkaa

/-- what BitsPut answers -/
def Bp.answer (hi : Bool) (l : List (Int × Int)) : List Nat := if (∀ j (h : j < l.length), Bp.okB l[j] = true ∧ Bp.tot l (j + 1) ≤ 72000) then Bp.text hi l else []

end Go.Proofs.Ythfdnloeicbgkaa

/- Plain mathematics of writing a number in bytes. -/
namespace Go.Proofs.Ythfdnloeicbgkaa
namespace Pt

/-- the bytes of a number, the lowest first -/
def low : Nat → Nat → List UInt8
  | _, 0 => []
  | n, k + 1 => UInt8.ofNat (n % 256) :: low (n / 256) k

theorem low_len : ∀ (k n : Nat), (low n k).length = k := by
  intro k
  induction k with
  | zero => intro n; rfl
  | succ k ih => intro n; simp [low, ih]

/-- one byte more, behind -/
theorem low_snoc : ∀ (k n : Nat), low n (k + 1) = low n k ++ [UInt8.ofNat (n / 256 ^ k % 256)] := by
  intro k
  induction k with
  | zero => intro n; simp [low]
  | succ k ih =>
    intro n
    show UInt8.ofNat (n % 256) :: low (n / 256) (k + 1) = _
    rw [ih (n / 256), Nat.div_div_eq_div_mul]
    simp only [low, List.cons_append]
    rw [Nat.pow_succ, Nat.mul_comm 256]

/-- what 'NumPut' writes -/
def num (n size : Nat) (hi : Bool) : List UInt8 := if hi then (low n size).reverse else low n size

end Pt
end Go.Proofs.Ythfdnloeicbgkaa

/- Lengths as symbols, as the specification has them; how many numbers of a list are needed. -/
namespace Go.Proofs.Ythfdnloeicbgkaa
open Go.RowKit

set_option maxHeartbeats 400000 in
theorem l5Least_any (a b : Nat) (w : World) :
    Calls Try.prog 119 #[.int .i64 (a : Int), .int .i64 (b : Int)] w fun e w' => e = .returned (.int .i64 ((min a b : Nat) : Int)) ∧ w' = w := by
  by_cases h : a < b
  · have hi : (a : Int) < (b : Int) := by omega
    have HE : Hid (min a b = a) := by show _ = _; omega
    go_enter Try.func119, Try.ntmps119
    go_wp2_with fail
    go_ret
    exact ⟨by rw [HE.out]; rfl, rfl⟩
  · have hi : ¬ (a : Int) < (b : Int) := by omega
    have HE : Hid (min a b = b) := by show _ = _; omega
    go_enter Try.func119, Try.ntmps119
    go_wp2_with fail
    go_ret
    exact ⟨by rw [HE.out]; rfl, rfl⟩

set_option maxHeartbeats 2000000 in
set_option maxRecDepth 20000 in
theorem l5Alike_any (a : Option Addr) (L cap p : Nat) (l : List Int) (w : World) (h : Ints w a l) (hL : l.length = L) (hLb : L ≤ 1000) (hp : p < L) :
    Calls Try.prog 118 #[.slice a L cap, .int .i64 (p : Int)] w fun e w' => e = .returned (.int .i64 ((Df.alike l p : Nat) : Int)) ∧ ∃ q, w' = w.drewN q := by
  obtain ⟨b, off, rfl, hb, hcp⟩ := h.at (show p < l.length by omega)
  have HC : Hid (∀ i (hi : i < l.length), w.cell? ⟨b, off + i, none⟩ = some (.int .i64 l[i])) := by
    rcases h with e | ⟨b', off', e', _, h3⟩
    · rw [e] at hL; simp at hL; omega
    · cases e'; exact h3
  have HL : Hid (l.length = L) := hL
  have hpi : (p : Int) < (L : Int) := by omega
  have hv : l[p] = l.getD p 0 := by rw [List.getD_eq_getElem?_getD, List.getElem?_eq_getElem (by omega)]; rfl
  rw [hv] at hcp
  obtain ⟨v, hve⟩ : ∃ v, v = l.getD p 0 := ⟨_, rfl⟩
  rw [← hve] at hcp
  have HV : Hid (v = l.getD p 0) := hve
  clear h hL hv hve
  go_enter Try.func118, Try.ntmps118
  go_wp2_with fail
  go_loopw [5] (fun i wr => ∃ n q : Nat, 1 ≤ n ∧ p + n ≤ L ∧ i = .int .i64 (n : Int) ∧ Hid (Df.alike l p = n + ((l.drop (p + n)).takeWhile (fun z => z == l.getD p 0)).length) ∧ Hid (wr = w.drewN q)) (fun i _ => L - (intOf i).toNat)
  case atStart => exact ⟨1, 0, by omega, by omega, rfl, rfl, rfl⟩
  case round =>
    obtain ⟨n, q, hn1, hpn, rfl, HM, HW⟩ := hrel
    obtain ⟨P, hP⟩ : ∃ P, P = p + n := ⟨_, rfl⟩
    have eP : (p : Int) + (n : Int) = (P : Int) := by omega
    have fP := wrap_i64_nat P (by omega)
    have cp : wr.cell? ⟨b, off + p, none⟩ = some (.int .i64 v) := by rw [HW.out]; exact hcp
    by_cases h2 : P < L
    · have d2 : decide ((P : Int) < (L : Int)) = true := decide_eq_true (by omega)
      have hPi : (P : Int) < (L : Int) := by omega
      have hPl : P < l.length := by rw [HL.out]; exact h2
      have cP : wr.cell? ⟨b, off + P, none⟩ = some (.int .i64 l[P]) := by rw [HW.out]; exact HC.out P hPl
      have hPn : p + (n + 1) ≤ L := by omega
      by_cases h3 : l[P] = v
      · have HM2 : Hid (Df.alike l p = (n + 1) + ((l.drop (p + (n + 1))).takeWhile (fun z => z == l.getD p 0)).length) := by
          show _ = _
          subst hP
          rw [HM.out, Df.alike_step hPl (by rw [h3, HV.out])]
          omega
        rw [h3] at cP
        have d3 : (v == v) = true := beq_self_eq_true v
        clear h3 hP HM
        go_wp2_with fail
        go_quiet (fail)
        go_wp2_with fail
        go_roundw
        case rel => exact ⟨n + 1, q + nq, by omega, by omega, by go_num, HM2, by show _ = _; rw [HW.out, World.drewN_drewN]⟩
        case measure => simp [intOf]; omega
      · have HM2 : Hid (Df.alike l p = n) := by
          show _ = _
          subst hP
          rw [HM.out, Df.alike_stop (fun _ => by rw [← HV.out]; exact h3)]
          rfl
        obtain ⟨u, hu⟩ : ∃ u, u = l[P] := ⟨_, rfl⟩
        rw [← hu] at cP h3
        have d3 : (u == v) = false := beq_eq_false_iff_ne.2 h3
        clear h3 hP HM hu
        go_wp2_with fail
        go_quiet (fail)
        go_wp2_with fail
        go_ret
        exact ⟨by rw [HM2.out]; rfl, q + nq, by rw [HW.out, World.drewN_drewN]⟩
    · have d2 : decide ((P : Int) < (L : Int)) = false := decide_eq_false (by omega)
      have HM2 : Hid (Df.alike l p = n) := by
        show _ = _
        subst hP
        rw [HM.out, Df.alike_stop (fun h => by rw [HL.out] at h; omega)]
        rfl
      clear hP HM
      go_wp2_with fail
      go_quiet (fail)
      go_wp2_with fail
      go_ret
      exact ⟨by rw [HM2.out]; rfl, q + nq, by rw [HW.out, World.drewN_drewN]⟩

set_option maxHeartbeats 2000000 in
set_option maxRecDepth 20000 in
theorem l5Used_any (b off L cap least : Nat) (l : List Int) (w : World) (h : ∀ i (hi : i < l.length), w.cell? ⟨b, off + i, none⟩ = some (.int .i64 l[i])) (hL : l.length = L) (hLb : L ≤ 1000) (hle : least ≤ 1000) (hl0 : 1 ≤ least) :
    Calls Try.prog 77 #[.slice (some ⟨b, off, none⟩) L cap, .int .i64 (least : Int)] w fun e w' => e = .returned (.int .i64 ((Df.used l least : Nat) : Int)) ∧ ∃ q, w' = w.drewN q := by
  have HC : Hid (∀ i (hi : i < l.length), w.cell? ⟨b, off + i, none⟩ = some (.int .i64 l[i])) := h
  have HL : Hid (l.length = L) := hL
  clear h hL
  go_enter Try.func77, Try.ntmps77
  go_wp2_with fail
  go_loopw [5] (fun i wr => ∃ n q : Nat, n ≤ L ∧ i = .int .i64 (n : Int) ∧ Hid (Df.used l least = Df.usedF l least n) ∧ Hid (wr = w.drewN q)) (fun i _ => (intOf i).toNat)
  case atStart => exact ⟨L, 0, Nat.le_refl _, rfl, by show _ = _; unfold Df.used; rw [HL.out], rfl⟩
  case round =>
    obtain ⟨n, q, hn, rfl, HM, HW⟩ := hrel
    by_cases h2 : least < n
    · obtain ⟨n', rfl⟩ : ∃ n', n = n' + 1 := ⟨n - 1, by omega⟩
      obtain ⟨n1, hn1⟩ : ∃ n1, n1 = n' + 1 := ⟨_, rfl⟩
      rw [← hn1] at h2 hn HM
      have d2 : decide ((n1 : Int) > (least : Int)) = true := decide_eq_true (by omega)
      have h2i : (least : Int) < (n1 : Int) := by omega
      have em : (n1 : Int) - 1 = (n' : Int) := by omega
      have em2 : ((n' + 1 : Nat) : Int) = (n1 : Int) := by omega
      rw [em2]
      have hnl : n' < l.length := by rw [HL.out]; omega
      have hni : (n' : Int) < (L : Int) := by omega
      have cP : wr.cell? ⟨b, off + n', none⟩ = some (.int .i64 l[n']) := by rw [HW.out]; exact HC.out n' hnl
      have hg : l.getD n' 0 = l[n'] := by rw [List.getD_eq_getElem?_getD, List.getElem?_eq_getElem hnl]; rfl
      by_cases h3 : l[n'] = 0
      · have HM2 : Hid (Df.used l least = Df.usedF l least n') := by
          show _ = _
          rw [HM.out, hn1]
          show (if least < n' + 1 ∧ l.getD n' 0 = 0 then _ else _) = _
          rw [if_pos ⟨by omega, by rw [hg]; exact h3⟩]
        rw [h3] at cP
        clear h3 HM hg hn1
        go_wp2_with fail
        first | (go_quiet (fail); go_wp2_with fail) | skip
        go_roundw
        case rel => exact ⟨n', _, by omega, by go_num, HM2, by show _ = _; rw [HW.out]⟩
        case measure => simp [intOf]; omega
      · have HM2 : Hid (Df.used l least = n1) := by
          show _ = _
          rw [HM.out, hn1]
          show (if least < n' + 1 ∧ l.getD n' 0 = 0 then _ else _) = _
          rw [if_neg (fun h => h3 (by rw [← hg]; exact h.2))]
        obtain ⟨u, hu⟩ : ∃ u, u = l[n'] := ⟨_, rfl⟩
        rw [← hu] at cP h3
        have d3 : (u == 0) = false := beq_eq_false_iff_ne.2 h3
        clear HM hg hn1 hu
        go_wp2_with fail
        go_ret
        exact ⟨by rw [HM2.out]; rfl, q, by rw [HW.out]⟩
    · have d2 : decide ((n : Int) > (least : Int)) = false := decide_eq_false (by omega)
      have h2i : ¬ (least : Int) < (n : Int) := by omega
      have HM2 : Hid (Df.used l least = n) := by
        show _ = _
        rw [HM.out]
        cases n with
        | zero => rfl
        | succ n' =>
          show (if least < n' + 1 ∧ l.getD n' 0 = 0 then _ else _) = _
          rw [if_neg (fun h => h2 h.1)]
      clear HM
      go_wp2_with fail
      go_ret
      exact ⟨by rw [HM2.out]; rfl, q, by rw [HW.out]⟩
end Go.Proofs.Ythfdnloeicbgkaa

/- Bytes that a call gathers in a row of its own, bit by bit. -/
namespace Go.Proofs.Ythfdnloeicbgkaa
open Go.RowKit

theorem info_u8 : (Try.prog.info? 5).map (fun i => (i.zero, i.size, i.bytes)) = some (some (.int .u8 0), 1, 1) := by kernel_rfl

/-- bytes as they lie in memory -/
def bytesV (o : List Nat) : List Value := o.map fun x : Nat => Value.int .u8 (x : Int)
theorem bytesV_len (o : List Nat) : (bytesV o).length = o.length := by simp [bytesV]
theorem bytesV_get (o : List Nat) (j : Nat) (h : j < o.length) : (bytesV o)[j]? = some (.int .u8 ((o.getD j 0 : Nat) : Int)) := by
  simp [bytesV, h]
theorem bytesV_set (o : List Nat) (j x : Nat) : (bytesV o).set j (.int .u8 (x : Int)) = bytesV (o.set j x) := by simp [bytesV, List.map_set]
theorem bytesV_snoc (o : List Nat) : bytesV o ++ [.int .u8 0] = bytesV (o ++ [0]) := by simp [bytesV]

/-- the slice v owns the bytes o, L of them -/
def OwnB (w : World) (B : Nat) (v : Value) (L : Nat) (o : List Nat) : Prop := w.ownsRow B 5 1 v L (bytesV o)

theorem OwnB.len {w : World} {B L : Nat} {v : Value} {o : List Nat} (h : OwnB w B v L o) : o.length = L := by
  have := h.1
  rw [bytesV_len] at this; omega

theorem own_room {w : World} {B L g cap : Nat} {o : List Nat} {N : Nat} (h8 : N % 8 = 0) (h : w.ownsRow B 5 1 (.slice (some ⟨g, 0, none⟩) (L + 1) cap) (L + 1) (bytesV o ++ [.int .u8 0])) : OwnB w B (.slice (some ⟨g, 0, none⟩) (L + 1) cap) (L + 1) (Bp.room N o) := by
  unfold OwnB Bp.room
  rw [if_pos h8, ← bytesV_snoc]
  exact h

/-- the byte that the next bit goes into -/
theorem OwnB.cell {w : World} {B g j L cap : Nat} {o : List Nat} (h : OwnB w B (.slice (some ⟨g, 0, none⟩) L cap) L o) (hj : j < L) : w.cell? ⟨g, j, none⟩ = some (.int .u8 ((o.getD j 0 : Nat) : Int)) := by
  have := World.ownsRow.cellAt h j (by omega)
  rw [this, bytesV_get _ _ (by rw [h.len]; omega)]

theorem OwnB.free {w : World} {B g L cap : Nat} {o : List Nat} (h : OwnB w B (.slice (some ⟨g, 0, none⟩) L cap) L o) (j : Nat) : w.frozen? ⟨g, j, none⟩ = false := World.ownsRow.frozenAt h j

theorem OwnB.put {w : World} {B g L cap : Nat} {o : List Nat} (h : OwnB w B (.slice (some ⟨g, 0, none⟩) L cap) L o) (j y : Nat) : OwnB (w.setCell ⟨g, j, none⟩ (.int .u8 (y : Int))) B (.slice (some ⟨g, 0, none⟩) L cap) L (o.set j y) := by
  have := (World.ownsRow.stored h j (.int .u8 (y : Int))).1
  rw [bytesV_set] at this
  exact this

theorem OwnB.drew {w : World} {B L : Nat} {v : Value} {o : List Nat} (h : OwnB w B v L o) : OwnB w.drew B v L o := h

/-- one bit more -/
theorem OwnB.step {w : World} {B g j L cap N : Nat} {hi : Bool} {f : Nat → Nat} (h : OwnB w B (.slice (some ⟨g, 0, none⟩) L cap) L (Bp.room N (Bp.pack hi f N))) (hj : j = N / 8) {y : Nat} (hy : y = (Bp.room N (Bp.pack hi f N)).getD j 0 + f N * 2 ^ Bg.spot hi N) :
    OwnB (w.setCell ⟨g, j, none⟩ (.int .u8 (y : Int))) B (.slice (some ⟨g, 0, none⟩) L cap) L (Bp.pack hi f (N + 1)) := by
  have := h.put j y
  rw [hy, hj] at this
  rw [hy, hj]
  exact this

theorem text_nil (w : World) : Sem.run Try.prog (convert 22 9 (.slice none 0 0)) w = .ok (.string ⟨#[]⟩) w := by kernel_rfl

/-- the text of all -/
theorem OwnB.text {w : World} {B L : Nat} {v : Value} {o : List Nat} (h : OwnB w B v L o) : ∃ cap, ∃ ao, v = .slice ao L cap ∧
    Sem.run Try.prog (convert 22 9 (.slice ao L cap)) w = .ok (.string ⟨(o.map UInt8.ofNat).toArray⟩) w := by
  have hl := h.len
  rcases h.2 with ⟨rfl, h0⟩ | ⟨g, cap, cur, rfl, _, hg, _, _, _, ht⟩
  · subst h0
    refine ⟨0, none, rfl, ?_⟩
    have : o = [] := List.eq_nil_of_length_eq_zero hl
    subst this
    exact text_nil w
  · refine ⟨cap, some ⟨g, 0, none⟩, rfl, ?_⟩
    subst hl
    refine run_text w ⟨g, 0, none⟩ cap o ?_
    intro j v hj
    have := (World.ownsRow.cells h rfl) j v hj
    exact this

/-- an empty row, just laid -/
theorem own_empty (w : World) : OwnB (w.alloc (.cells #[] 5)) w.heap.size (.slice (some ⟨w.heap.size, 0, none⟩) 0 0) 0 [] :=
  World.ownsRow_lit w #[] 0 (Nat.le_refl _) (by decide) rfl
end Go.Proofs.Ythfdnloeicbgkaa

/- A text that is drawn: short, or many of one letter. -/
namespace Go.Proofs.Ythfdnloeicbgkaa
open Go.RowKit

/-- so many of one letter -/
def T9 (t : ByteArray) : Prop := t.size = 9000 ∧ ∀ i, i < 9000 → byteAt t i = 116
theorem byteAt_app_t {t : ByteArray} (h : ∀ i, i < t.size → byteAt t i = 116) : ∀ i, i < (t ++ ⟨#[116]⟩).size → byteAt (t ++ ⟨#[116]⟩) i = 116 := fun i hi => by
  have hs : (t ++ (⟨#[116]⟩ : ByteArray)).size = t.size + 1 := by rw [ByteArray.size_append]; rfl
  have e : byteAt (t ++ (⟨#[116]⟩ : ByteArray)) i = ((t.data.toList ++ [116]).getD i 0).toNat := by
    unfold byteAt
    rw [ByteArray.data_append, Array.toList_append]
  rw [e]
  have hl : t.data.toList.length = t.size := Array.length_toList
  by_cases hlt : i < t.size
  · have := h i hlt
    unfold byteAt at this
    rw [List.getD_eq_getElem?_getD, List.getElem?_append_left (by omega), ← List.getD_eq_getElem?_getD]
    exact this
  · have hie : i = t.size := by omega
    rw [List.getD_eq_getElem?_getD, List.getElem?_append_right (by omega), hl, hie, Nat.sub_self]
    rfl
set_option maxHeartbeats 400000 in
theorem manyT_any (n : Nat) (w : World) (hn : n ≤ 10000) :
    Calls Try.prog 56 #[.string ⟨#[116]⟩, .int .i64 (n : Int)] w fun e w' => (∃ t : ByteArray, e = .returned (.string t) ∧ t.size = n ∧ ∀ i, i < t.size → byteAt t i = 116) ∧ w' = w := by
  go_enter Try.func56, Try.ntmps56
  go_wp2_with fail
  go_loop [5, 6] (fun o i => ∃ (k : Nat) (t : ByteArray), k ≤ n ∧ i = .int .i64 (k : Int) ∧ o = .string t ∧ Hid (t.size = k ∧ ∀ i, i < t.size → byteAt t i = 116)) (fun _ i => n - (intOf i).toNat)
  case atStart => exact ⟨0, ⟨#[]⟩, Nat.zero_le _, rfl, rfl, rfl, fun i hi => absurd hi (Nat.not_lt_zero _)⟩
  case round =>
    obtain ⟨k, t, hk, rfl, rfl, HT⟩ := hrel
    have htb : t.size ≤ 1000000 := by have := HT.out.1; omega
    by_cases hlt : k < n
    · have HF : Hid ((t ++ (⟨#[116]⟩ : ByteArray)).size = k + 1 ∧ ∀ i, i < (t ++ (⟨#[116]⟩ : ByteArray)).size → byteAt (t ++ (⟨#[116]⟩ : ByteArray)) i = 116) := ⟨by rw [ByteArray.size_append, HT.out.1]; rfl, byteAt_app_t HT.out.2⟩
      clear HT
      go_wp2_with fail
      go_round
      case rel => exact ⟨k + 1, _, by omega, by go_num, rfl, HF⟩
      case measure => simp [intOf]; omega
    · have hk' : k = n := by omega
      subst hk'
      go_wp2_with fail
      go_ret
      exact ⟨⟨t, rfl, HT.out.1, HT.out.2⟩, rfl⟩

set_option maxHeartbeats 1000000 in
theorem text_three (B p : Nat) (w : World) (hr : RdAt w B p) (hp : p ≤ 100000) :
    Calls Try.prog 28 #[.pointer (some ⟨B, 0, none⟩)] w fun e w' => (∃ t : ByteArray, e = .returned (.string t) ∧ (t.size ≤ 2400 ∨ t.size = 9001 ∨ T9 t)) ∧ (∃ q, q ≤ p + 100 ∧ RdAt w' B q) ∧ Only B w w' := by
  go_enter Try.func28, Try.ntmps28
  go_wp2_with fail
  refine (pick_any B p 150 w hr (by omega) (by omega) (by omega)).mono ?_
  rintro e w1 ⟨v, m, rfl, hv, rfl⟩
  have hR1 := hr.step m
  have bel1 := step_only w B (.int .i64 ((p + 1 : Nat) : Int)) m
  generalize (w.setCell ⟨B, 1, none⟩ (.int .i64 ((p + 1 : Nat) : Int))).drewN m = w1 at *
  clear hr
  by_cases hv0 : v = 0
  · subst hv0
    go_wp2_with fail
    refine (pick_any B (p + 1) 2 w1 hR1 (by omega) (by omega) (by omega)).mono ?_
    rintro e w2 ⟨u, m2, rfl, hu, rfl⟩
    have hR2 := hR1.step m2
    have bel2 := step_only w1 B (.int .i64 ((p + 1 + 1 : Nat) : Int)) m2
    generalize (w1.setCell ⟨B, 1, none⟩ (.int .i64 ((p + 1 + 1 : Nat) : Int))).drewN m2 = w2 at *
    go_wp2_with fail
    rw [show (9000 : Int) + (u : Int) = ((9000 + u : Nat) : Int) from by omega]
    refine (manyT_any (9000 + u) w2 (by omega)).mono ?_
    rintro e w3 ⟨⟨t, rfl, ht⟩, rfl⟩
    have HT : Hid (t.size = 9000 + u ∧ ∀ i, i < t.size → byteAt t i = 116) := ht
    clear ht
    go_wp2_with fail
    go_ret
    refine ⟨⟨t, rfl, ?_⟩, ⟨p + 2, by omega, hR2⟩, bel1.trans bel2⟩
    have hu2 : u = 0 ∨ u = 1 := by omega
    rcases hu2 with rfl | rfl
    · exact .inr (.inr ⟨HT.out.1, fun i hi => HT.out.2 i (by rw [HT.out.1]; exact hi)⟩)
    · exact .inr (.inl HT.out.1)
  · have hvb : ((v : Int) == 0) = false := by simp; omega
    go_wp2_with fail
    refine (pick_any B (p + 1) 7 w1 hR1 (by omega) (by omega) (by omega)).mono ?_
    rintro e w2 ⟨n, m2, rfl, hn, rfl⟩
    have hR2 := hR1.step m2
    have bel2 := bel1.trans (step_only w1 B (.int .i64 ((p + 1 + 1 : Nat) : Int)) m2)
    generalize (w1.setCell ⟨B, 1, none⟩ (.int .i64 ((p + 1 + 1 : Nat) : Int))).drewN m2 = w2 at *
    clear hR1 bel1
    go_wp2_with fail
    go_loopw [3, 4] (fun o i wr => ∃ (k q : Nat) (t : ByteArray), k ≤ 6 ∧ i = .int .i64 k ∧ o = .string t ∧ t.size + 400 * k ≤ 2400 ∧ q + 14 * k ≤ p + 100 ∧ RdAt wr B q ∧ Only B w wr) (fun _ i _ => (intOf i).toNat)
    case atStart => exact ⟨n, p + 2, ⟨#[]⟩, by omega, rfl, rfl, by show 0 + 400 * n ≤ 2400; omega, by omega, hR2, bel2⟩
    case round =>
      obtain ⟨k, q, t, hk, rfl, rfl, ht, hq, hR, bel⟩ := hrel
      clear hR2 bel2
      by_cases hk0 : 0 < k
      · go_wp2_with fail
        refine (pick_any B q 5 wr hR (by omega) (by omega) (by omega)).mono ?_
        rintro e w3 ⟨c, m3, rfl, hc, rfl⟩
        have hR3 := hR.step m3
        have bel3 := bel.trans (step_only wr B (.int .i64 ((q + 1 : Nat) : Int)) m3)
        generalize (wr.setCell ⟨B, 1, none⟩ (.int .i64 ((q + 1 : Nat) : Int))).drewN m3 = w3 at *
        clear hR bel
        by_cases c0 : c = 0
        · subst c0
          go_wp2_with fail
          refine (of_new B (q + 1) ⟨#[97]⟩ ⟨#[98]⟩ ⟨#[0]⟩ ⟨#[255]⟩ w3 hR3 (by omega) (by decide) (by decide) (by decide) (by decide)).mono ?_
          rintro e w4 ⟨⟨t2, rfl, ht2⟩, hR4, bel4⟩
          have bel4' := bel3.trans bel4
          clear hR3 bel3 bel4
          go_wp2_with fail
          refine (pick_any B (q + 1 + 1) 40 w4 hR4 (by omega) (by omega) (by omega)).mono ?_
          rintro e w5 ⟨u, m5, rfl, hu, rfl⟩
          have hR5 := hR4.step m5
          have bel5 := bel4'.trans (step_only w4 B (.int .i64 ((q + 1 + 1 + 1 : Nat) : Int)) m5)
          generalize (w4.setCell ⟨B, 1, none⟩ (.int .i64 ((q + 1 + 1 + 1 : Nat) : Int))).drewN m5 = w5 at *
          clear hR4 bel4'
          go_wp2_with fail
          refine (l1Many_any t2 u w5 (by omega) (by omega)).mono ?_
          rintro e w6 ⟨⟨t3, rfl, ht3⟩, rfl⟩
          have ht3' : t3.size ≤ 400 := by rw [ht3]; exact Nat.le_trans (Nat.mul_le_mul (show u ≤ 40 by omega) ht2) (by decide)
          clear ht3
          go_wp2_with fail
          go_roundw
          case rel => exact ⟨k - 1, q + 3, _, by omega, by go_num, rfl, by rw [ByteArray.size_append]; omega, by omega, hR5, bel5⟩
          case measure => simp [intOf]; omega
        · have hc0 : ((c : Int) == 0) = false := by simp; omega
          by_cases c1 : c = 1
          · subst c1
            go_wp2_with fail
            go_roundw
            case rel => exact ⟨k - 1, q + 1, _, by omega, by go_num, rfl, by rw [ByteArray.size_append]; show t.size + 25 + _ ≤ _; omega, by omega, hR3, bel3⟩
            case measure => simp [intOf]; omega
          · have hc1 : ((c : Int) == 1) = false := by simp; omega
            by_cases c2 : c = 2
            · subst c2
              go_wp2_with fail
              refine (pick_any B (q + 1) 12 w3 hR3 (by omega) (by omega) (by omega)).mono ?_
              rintro e w4 ⟨n2, m4, rfl, hn2, rfl⟩
              have hR4 := hR3.step m4
              have bel4 := bel3.trans (step_only w3 B (.int .i64 ((q + 1 + 1 : Nat) : Int)) m4)
              generalize (w3.setCell ⟨B, 1, none⟩ (.int .i64 ((q + 1 + 1 : Nat) : Int))).drewN m4 = w4 at *
              clear hR3 bel3
              go_wp2_with fail
              go_loopw [3, 5] (fun o i wr => ∃ (j q2 : Nat) (t2 : ByteArray), j ≤ 11 ∧ i = .int .i64 j ∧ o = .string t2 ∧ t2.size + j ≤ t.size + 11 ∧ q2 + j ≤ q + 13 ∧ RdAt wr B q2 ∧ Only B w wr) (fun _ i _ => (intOf i).toNat)
              case atStart => exact ⟨n2, q + 2, t, by omega, rfl, rfl, by omega, by omega, hR4, bel4⟩
              case round =>
                obtain ⟨j, q2, t2, hj, rfl, rfl, ht2, hq2, hR5, bel5⟩ := hrel
                clear hR4 bel4
                by_cases hj0 : 0 < j
                · go_wp2_with fail
                  refine (pick_any B q2 256 _ hR5 (by omega) (by omega) (by omega)).mono ?_
                  rintro e w6 ⟨u, m6, rfl, hu, hw6⟩
                  have hR6 := hR5.step m6
                  rw [← hw6] at hR6
                  have bel6 := bel5.trans (step_only _ B (.int .i64 ((q2 + 1 : Nat) : Int)) m6)
                  rw [← hw6] at bel6
                  clear hw6 hR5 bel5
                  have htx := run_text1 w6 u w6.heap.size rfl
                  go_wp2_with fail
                  go_roundw
                  case rel => exact ⟨j - 1, q2 + 1, _, by omega, by go_num, rfl, by rw [ByteArray.size_append]; show t2.size + 1 + _ ≤ _; omega, by omega, hR6.alloc _, bel6.alloc hR6.lt _⟩
                  case measure => simp [intOf]; omega
                · have hj' : j = 0 := by omega
                  subst hj'
                  go_wp2_with fail
                  go_roundw
                  case rel => exact ⟨k - 1, q2, t2, by omega, by go_num, rfl, by omega, by omega, hR5, bel5⟩
                  case measure => simp [intOf]; omega
            · have hc2 : ((c : Int) == 2) = false := by simp; omega
              go_wp2_with fail
              refine (of_new B (q + 1) ⟨#[120]⟩ ⟨#[97, 98, 99]⟩ ⟨#[97, 98, 99, 97, 98, 99, 97, 98, 99, 100]⟩ ⟨#[32]⟩ w3 hR3 (by omega) (by decide) (by decide) (by decide) (by decide)).mono ?_
              rintro e w4 ⟨⟨t2, rfl, ht2⟩, hR4, bel4⟩
              have bel4' := bel3.trans bel4
              clear hR3 bel3 bel4
              go_wp2_with fail
              go_roundw
              case rel => exact ⟨k - 1, q + 2, _, by omega, by go_num, rfl, by rw [ByteArray.size_append]; omega, by omega, hR4, bel4'⟩
              case measure => simp [intOf]; omega
      · have hk' : k = 0 := by omega
        subst hk'
        go_wp2_with fail
        go_ret
        exact ⟨⟨t, rfl, .inl (by omega)⟩, ⟨q, by omega, hR⟩, bel⟩
end Go.Proofs.Ythfdnloeicbgkaa

/- A limit, drawn. -/
namespace Go.Proofs.Ythfdnloeicbgkaa
open Go.RowKit

/-- five limits of which one is drawn -/
def fives (m : Int) (j : Nat) : Int := if j = 2 then m else if j = 3 then 5001 else if j = 4 then -1 else 5000
theorem five_cell (W : World) (m : Int) (j : Nat) (hj : j < 5) : (W.alloc (.cells #[.int .i64 5000, .int .i64 5000, .int .i64 m, .int .i64 5001, .int .i64 (-1)] 3)).cell? ⟨W.heap.size, j, none⟩ = some (.int .i64 (fives m j)) := by
  rw [World.cell?_alloc_at _ _ _ _ rfl]
  have h : j = 0 ∨ j = 1 ∨ j = 2 ∨ j = 3 ∨ j = 4 := by omega
  rcases h with rfl | rfl | rfl | rfl | rfl <;> rfl

set_option maxHeartbeats 2000000 in
set_option maxRecDepth 20000 in
theorem l14Limit_any (B p : Nat) (w : World) (hr : RdAt w B p) (hp : p ≤ 100000) :
    Calls Try.prog 14 #[.pointer (some ⟨B, 0, none⟩)] w fun e w' => (∃ lm : Int, e = .returned (.int .i64 lm)) ∧ RdAt w' B (p + 2) ∧ Only B w w' := by
  have HR : Hid (RdAt w B p) := hr
  clear hr
  go_enter Try.func14, Try.ntmps14
  go_wp2_with fail
  refine (pick_named B p _ _ HR.out (by omega) (by omega) (by omega)).mono ?_
  rintro e w1 ⟨m, rfl, hm, hR1, hO1, -⟩
  have HR1 : Hid (RdAt (w1.alloc (.cells #[.int .i64 5000, .int .i64 5000, .int .i64 (m : Int), .int .i64 5001, .int .i64 (-1)] 3)) B (p + 1)) := hR1.alloc _
  have HO1 : Hid (Only B w (w1.alloc (.cells #[.int .i64 5000, .int .i64 5000, .int .i64 (m : Int), .int .i64 5001, .int .i64 (-1)] 3))) := hO1.alloc hR1.lt _
  have hWB : w1.heap.size ≠ B := by have := hR1.lt; omega
  clear hR1 hO1 HR
  go_wp2_with fail
  refine (pick_named B (p + 1) _ _ HR1.out (by omega) (by omega) (by omega)).mono ?_
  rintro e w2 ⟨y, rfl, hy, hR2, hO2, -⟩
  obtain ⟨Y, hY⟩ : ∃ Y : Nat, Y = y * 5 := ⟨_, rfl⟩
  obtain ⟨j, hj⟩ : ∃ j : Nat, j = Y / 14 := ⟨_, rfl⟩
  have e1 : (y : Int) * 5 = (Y : Int) := by omega
  have e2 : (Y : Int) / 14 = (j : Int) := by omega
  have e3 : (Y : Int).tdiv 14 = (j : Int) := by rw [Int.tdiv_eq_ediv_of_nonneg (by omega)]; exact e2
  have hYb : Y ≤ 65 := by omega
  have hjb : j < 5 := by omega
  have hji : (j : Int) < 5 := by omega
  have hcj : w2.cell? ⟨w1.heap.size, j, none⟩ = some (.int .i64 (fives m j)) := (hO2.cell w1.heap.size j (by simp) hWB).trans (five_cell w1 m j hjb)
  have HF : Hid (RdAt w2 B (p + 2) ∧ Only B w w2) := ⟨hR2, HO1.out.trans hO2⟩
  clear hR2 hO2 HR1 HO1 hY hj
  generalize fives m j = z at *
  go_wp2_with fail
  go_ret
  exact ⟨⟨z, rfl⟩, HF.out⟩

end Go.Proofs.Ythfdnloeicbgkaa

/- A text as bytes, and back. -/
namespace Go.Proofs.Ythfdnloeicbgkaa
open Go.RowKit

/-- the bytes of a text, laid anew -/
theorem conv_bytes (s : ByteArray) (w : World) : ∃ (cap : Nat) (w2 : World), Sem.run Try.prog (convert 9 22 (.string s)) w = .ok (.slice (some ⟨w.heap.size, 0, none⟩) s.size cap) w2 ∧
    (∀ i (h : i < s.size), w2.cell? ⟨w.heap.size, i, none⟩ = some (.int .u8 ((s[i]).toNat : Int)) ∧ w2.frozen? ⟨w.heap.size, i, none⟩ = false) ∧ Below w.heap.size w w2 ∧ w2.heap.size = w.heap.size + 1 := by
  refine ⟨_, _, run_bytes_of_string w 9 22 5 s Try.underlying9 Try.underlying22 Try.underlying5, ?_, ?_, ?_⟩
  · intro i h
    generalize grownCap w s.size 0 5 = cap
    have hg : (w.drew.alloc (.cells (bytesRow s cap) 5 ((bytesRow s cap).size, (bytesRow s cap).size + 1))).heap[w.heap.size]? = some (.cells (bytesRow s cap) 5 ((bytesRow s cap).size, (bytesRow s cap).size + 1)) := heap_alloc_new w.drew _
    refine ⟨?_, ?_⟩
    · rw [cell_of_row _ _ _ _ _ _ hg, bytesRow_at s cap i h]; rfl
    · unfold World.frozen?
      simp only [hg]
      have hsz : s.size ≤ (bytesRow s cap).size := by unfold bytesRow; simp
      simp
      omega
  · exact (Below.refl _ _).drew.alloc (Nat.le_refl _) _
  · simp

theorem text_back (W : World) (L cap n : Nat) (l : List UInt8) (hn : l.length = n) (hc : ∀ j (hj : j < l.length), W.cell? ⟨L, j, none⟩ = some (.int .u8 ((l[j]).toNat : Int))) :
    Sem.run Try.prog (convert 22 9 (.slice (some ⟨L, 0, none⟩) n cap)) W = .ok (.string ⟨l.toArray⟩) W := by
  subst hn
  refine run_convert_bytes_back W 22 9 5 ⟨L, 0, none⟩ cap l Try.underlying22 Try.underlying5 Try.underlying9 ?_
  intro j hj
  rw [show (⟨L, 0, none⟩ : Addr).add j = ⟨L, j, none⟩ from by simp [Addr.add]; try omega]
  exact hc j hj
end Go.Proofs.Ythfdnloeicbgkaa

/- A text of which a byte is another one. -/
namespace Go.Proofs.Ythfdnloeicbgkaa
open Go.RowKit

theorem size_of_empty {s : ByteArray} (h : s.toList.isEmpty = true) : s.size = 0 := by
  rw [ByteArray.toList_eq, List.isEmpty_iff] at h
  show s.data.size = 0
  rw [← Array.length_toList, h]; rfl

theorem bent_cells (s : ByteArray) (W : World) (L K v : Nat) (hK : K < s.size) (hv : v < 256) (hc : ∀ i (h : i < s.size), W.cell? ⟨L, i, none⟩ = some (.int .u8 ((s[i]).toNat : Int))) :
    ∃ l : List UInt8, l.length = s.size ∧ ∀ j (hj : j < l.length), (W.setCell ⟨L, K, none⟩ (.int .u8 (v : Int))).cell? ⟨L, j, none⟩ = some (.int .u8 ((l[j]).toNat : Int)) := by
  have hl : (s.data.toList.set K (UInt8.ofNat v)).length = s.size := by rw [List.length_set, Array.length_toList]; rfl
  refine ⟨s.data.toList.set K (UInt8.ofNat v), hl, fun j hj => ?_⟩
  by_cases e : K = j
  · subst e
    rw [World.cell?_setCell_same _ _ _ (hc K hK), List.getElem_set_self]
    simp
    omega
  · rw [World.cell?_setCell_other _ _ _ _ (fun h => e (by have := congrArg Addr.off h; simpa using this)), hc j (by rw [← hl]; exact hj), List.getElem_set_ne e]
    rfl

set_option maxHeartbeats 2000000 in
set_option maxRecDepth 20000 in
theorem l14Bend_any (B p : Nat) (s : ByteArray) (w : World) (hr : RdAt w B p) (hp : p ≤ 100000) (hs : s.size ≤ 100000) :
    Calls Try.prog 30 #[.pointer (some ⟨B, 0, none⟩), .string s] w fun e w' => (∃ t : ByteArray, e = .returned (.string t) ∧ t.size = s.size) ∧ (∃ q, q ≤ p + 2 ∧ RdAt w' B q) ∧ Only B w w' := by
  have hlt0 := hr.lt
  have HR0 : Hid (RdAt w B p) := hr
  clear hr
  by_cases hz : s.size = 0
  · have he : s = ByteArray.empty := by
      have : s.data.size = 0 := hz
      cases s with
      | mk d => simp at this; subst this; rfl
    subst he
    go_enter Try.func30, Try.ntmps30
    go_wp2_with fail
    go_ret
    exact ⟨⟨_, rfl, rfl⟩, ⟨p, by omega, HR0.out⟩, Only.refl _ _⟩
  · obtain ⟨cap, w2, hcv, hcl, belc, hsz2⟩ := conv_bytes s w
    have HCV : Hid (∀ i (h : i < s.size), w2.cell? ⟨w.heap.size, i, none⟩ = some (.int .u8 ((s[i]).toNat : Int)) ∧ w2.frozen? ⟨w.heap.size, i, none⟩ = false) := hcl
    have HR2 : Hid (RdAt w2 B p) := HR0.out.kept (belc.mono hlt0)
    have HO2 : Hid (Only B w w2) := Only.of_below belc hlt0
    have hse : s.toList.isEmpty = false := by
      rcases h : s.toList.isEmpty with _ | _
      · rfl
      · exact absurd (size_of_empty h) hz
    have hG : w.heap.size < w2.heap.size := by omega
    have hGB : w.heap.size ≠ B := by omega
    have hs1 : (1 : Int) ≤ (s.size : Int) := by omega
    clear hcl belc hsz2 HR0
    go_enter Try.func30, Try.ntmps30
    go_wp2_with fail
    clear hcv
    refine (pick_named B p _ _ HR2.out (by omega) (by omega) (by omega)).mono ?_
    rintro e w3 ⟨K, rfl, hK, hR3, hO3, -⟩
    have hKs : K < s.size := by omega
    have HC3 : Hid (∀ i (h : i < s.size), w3.cell? ⟨w.heap.size, i, none⟩ = some (.int .u8 ((s[i]).toNat : Int)) ∧ w3.frozen? ⟨w.heap.size, i, none⟩ = false) := fun i h => ⟨(hO3.cell w.heap.size i hG hGB).trans (HCV.out i h).1, (World.frozen?_of_block (w := w2) (a := ⟨w.heap.size, i, none⟩) (hO3.rest w.heap.size hG hGB)).trans (HCV.out i h).2⟩
    have HR3 : Hid (RdAt w3 B (p + 1)) := hR3
    have HO3 : Hid (Only B w w3) := HO2.out.trans hO3
    have hG3 : w.heap.size < w3.heap.size := Nat.lt_of_lt_of_le hG hO3.below.size
    clear hR3 hO3 HR2 HO2 HCV
    obtain ⟨x, hx⟩ : ∃ x : Nat, x = (s[K]'hKs).toNat := ⟨_, rfl⟩
    have hxb : x < 256 := by rw [hx]; exact UInt8.toNat_lt _
    obtain ⟨ck, fk⟩ := HC3.out K hKs
    rw [← hx] at ck
    have HV : Hid (∀ y : Nat, y < 255 → bits .xor .u8 (x : Int) (IntKind.u8.wrap (IntKind.i64.wrap (1 + (y : Int)))) = ((x ^^^ (1 + y) : Nat) : Int) ∧ x ^^^ (1 + y) < 256) := fun y hy => by
      have e1 : IntKind.i64.wrap (1 + (y : Int)) = ((1 + y : Nat) : Int) := by
        rw [← wrap_i64_nat (1 + y) (by omega)]; congr 1
      refine ⟨?_, Nat.xor_lt_two_pow (n := 8) (by omega) (by omega)⟩
      rw [e1, IntKind.wrap_u8', show ((1 + y : Nat) : Int) % 256 = ((1 + y : Nat) : Int) by omega, u8_xor_nat _ _ hxb (by omega)]
    have HX : Hid (x = (s[K]'hKs).toNat) := hx
    clear hx
    have HRd : Hid (RdAt w3.drew B (p + 1)) := HR3.out.drew
    have hKi : (K : Int) < (s.size : Int) := by omega
    go_wp2_with fail
    go_region_with (go_at_call 29; refine (pick_named B (p + 1) _ _ HRd.out (by omega) (by omega) (by omega)).mono ?_; rintro e w4 ⟨y, rfl, hy, hR4, hO4, -⟩; have HR4 : Hid (RdAt w4 B (p + 2)) := hR4; have HO4 : Hid (Only B w3.drew w4) := hO4; have ck4 : w4.cell? ⟨w.heap.size, K, none⟩ = some (.int .u8 (x : Int)) := (hO4.cell w.heap.size K hG3 hGB).trans ck; have fk4 : w4.frozen? ⟨w.heap.size, K, none⟩ = false := (World.frozen?_of_block (w := w3.drew) (a := ⟨w.heap.size, K, none⟩) (hO4.rest w.heap.size hG3 hGB)).trans fk; clear hR4 hO4)
    all_goals
      have hyn : y < 255 := by omega
      obtain ⟨hv1, hv2⟩ := HV.out y hyn
      rw [hv1]
      have hall : ∀ i (h : i < s.size), w4.cell? ⟨w.heap.size, i, none⟩ = some (.int .u8 ((s[i]).toNat : Int)) := fun i h => (HO4.out.cell w.heap.size i hG3 hGB).trans (HC3.out i h).1
      obtain ⟨l, hl, hlc⟩ := bent_cells s w4 w.heap.size K _ hKs hv2 hall
      have htb := text_back _ w.heap.size cap s.size l hl hlc
      have HF : Hid (RdAt (w4.setCell ⟨w.heap.size, K, none⟩ (.int .u8 ((x ^^^ (1 + y) : Nat) : Int))) B (p + 2) ∧ Only B w (w4.setCell ⟨w.heap.size, K, none⟩ (.int .u8 ((x ^^^ (1 + y) : Nat) : Int)))) :=
        ⟨HR4.out.kept ((Below.refl _ _).setCell (by show B + 1 ≤ w.heap.size; omega) _), ((HO3.out.drewN 1).trans HO4.out).set (Nat.le_refl _) hlt0 K _⟩
      have HL : Hid ((ByteArray.mk l.toArray).size = s.size) := by show l.toArray.size = s.size; rw [List.size_toArray]; exact hl
      clear hall hlc hl HR4 HO4 ck4 fk4 ck fk HRd HR3 HO3 HC3 HX HV hv1 hv2
      go_wp2_with fail
      go_ret
      exact ⟨⟨_, rfl, HL.out⟩, ⟨p + 2, by omega, HF.out.1⟩, HF.out.2⟩
end Go.Proofs.Ythfdnloeicbgkaa

/- A slice of bytes that came in is a code that can be read. -/
namespace Go.Proofs.Ythfdnloeicbgkaa
open Go.RowKit

theorem addr_add (b off i : Nat) : (⟨b, off, none⟩ : Addr).add i = ⟨b, off + i, none⟩ := by
  simp [Addr.add]; try omega

theorem code8_of {w : World} {a : Option Addr} {len cap : Nat} {zs : List Int}
    (h : (a = none ∧ len = 0 ∧ cap = 0 ∧ zs = []) ∨ ∃ x, a = some x ∧ len ≤ cap ∧ cap ≤ maxLen ∧ zs.length = cap ∧ (∀ i, i < zs.length → w.cell? (x.add i) = some (.int .u8 (zs.getD i 0))) ∧ ∀ n ∈ zs, (Lit.int .u8 n).wf = true) :
    Code8 w a len cap := by
  rcases h with ⟨rfl, rfl, rfl, rfl⟩ | ⟨x, rfl, hl, hm, hz, hcell, hwz⟩
  · exact ⟨Nat.le_refl _, Nat.zero_le _, .inl rfl⟩
  · refine ⟨hl, hm, ?_⟩
    by_cases h0 : len = 0
    · exact .inl h0
    · obtain ⟨b, off, spot⟩ := x
      have hc := hcell 0 (by omega)
      have hspot : spot = none := by simpa [Addr.add] using World.cell?_spot hc
      subst hspot
      rw [addr_add] at hc
      refine .inr ⟨b, off, rfl, World.block_lt_of_cell? _ _ hc, fun i hi => ?_⟩
      have h1 := hcell i (by omega)
      rw [addr_add] at h1
      have hmem : zs.getD i 0 ∈ zs := by
        rw [List.getD_eq_getElem?_getD, List.getElem?_eq_getElem (by omega)]
        exact List.getElem_mem _
      have hw := bounds_u8 (hwz _ hmem)
      exact ⟨(zs.getD i 0).toNat, by omega, by rw [h1, Int.toNat_of_nonneg hw.1]⟩
end Go.Proofs.Ythfdnloeicbgkaa
