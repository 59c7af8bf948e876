/- Texts laid together: NsUse, FxS, MarkWalks, AppInts, NmMath, NmWalks, AdMath, AdWalks. -/
import Init
import Derived.Test.YtejebodgfoihkaaProg
import Derived.Test.YtejebodgfoihkaaKEZlibGetx0a
/- Which lengths may stand in a block, in the specification. -/
namespace Go.Proofs.Ytejebodgfoihkaa
open Go.RowKit

theorem most_step {zs : List Int} {k m : Nat} (hk : k < zs.length) (h1 : ∀ z ∈ zs.take k, z ≤ (m : Int)) (h2 : m = 0 ∨ (m : Int) ∈ zs.take k) {z m2 : Nat} (hz : zs[k] = (z : Int)) (hm : m2 = max m z) : (∀ y ∈ zs.take (k + 1), y ≤ (m2 : Int)) ∧ (m2 = 0 ∨ (m2 : Int) ∈ zs.take (k + 1)) := by
  rw [Cd.take_snoc zs k hk, hz]
  constructor
  · intro y hy
    rcases List.mem_append.1 hy with e | e
    · have := h1 y e; omega
    · rw [List.mem_singleton.1 e]; omega
  · by_cases hmz : m < z
    · right
      rw [show m2 = z by omega]
      exact List.mem_append.2 (.inr (List.mem_singleton.2 rfl))
    · rw [show m2 = m by omega]
      rcases h2 with e | e
      · exact .inl e
      · exact .inr (List.mem_append.2 (.inl e))
set_option maxHeartbeats 1000000 in
theorem l3MostX (a : Option Addr) (n c : Nat) (l : List Int) (w : World) (h : Ints w a l) (hn : l.length = n) (hb : n ≤ 1000) (hv : Cd.valid l = true) :
    Calls Try.prog 71 #[.slice a n c] w fun e w' => (∃ m : Nat, e = .returned (.int .i64 (m : Int)) ∧ Nf.IsMost l m ∧ m ≤ 15) ∧ w' = w := by
  have HN : Hid (l.length = n) := hn
  have HI : Hid (Ints w a l) := h
  have HL : Hid (Cd.valid l = true) := hv
  clear h hn hv
  go_enter Try.func71, Try.ntmps71
  go_wp2_with fail
  go_loop [3, 4] (fun v i => ∃ k m : Nat, k ≤ n ∧ m ≤ 15 ∧ i = .int .i64 (k : Int) ∧ v = .int .i64 (m : Int) ∧ Hid ((∀ z ∈ l.take k, z ≤ (m : Int)) ∧ (m = 0 ∨ (m : Int) ∈ l.take k))) (fun _ i => n - (intOf i).toNat)
  case atStart => exact ⟨0, 0, by omega, by omega, rfl, rfl, ⟨fun z hz => by simp at hz, .inl rfl⟩⟩
  case round =>
    obtain ⟨k, m, hk, hm, rfl, rfl, HX⟩ := hrel
    by_cases hlt : k < n
    · have hki : (k : Int) < (n : Int) := by omega
      have hkl : k < l.length := by rw [HN.out]; exact hlt
      obtain ⟨b, off, rfl, hc⟩ : ∃ b off, a = some ⟨b, off, none⟩ ∧ w.cell? ⟨b, off + k, none⟩ = some (.int .i64 l[k]) := by
        rcases HI.out with e | ⟨b, off, e1, _, e3⟩
        · rw [e] at hkl; simp at hkl
        · exact ⟨b, off, e1, e3 k hkl⟩
      have hz := Nf.valid_mem HL.out _ (List.getElem_mem hkl)
      obtain ⟨z, hzz⟩ : ∃ z : Nat, l[k] = (z : Int) := ⟨l[k].toNat, by omega⟩
      have HS : ∀ m2, m2 = max m z → Hid ((∀ y ∈ l.take (k + 1), y ≤ (m2 : Int)) ∧ (m2 = 0 ∨ (m2 : Int) ∈ l.take (k + 1))) := fun m2 h2 => most_step hkl HX.out.1 HX.out.2 hzz h2
      rw [hzz] at hc hz
      clear hzz
      by_cases hgt : m < z
      · have hgi : (m : Int) < (z : Int) := by omega
        have HF := HS z (by omega)
        clear HS HX
        go_wp2_with fail
        go_round
        case rel => exact ⟨k + 1, z, by omega, by omega, by go_num, rfl, HF⟩
        case measure => simp [intOf]; omega
      · have hgi : ¬ (m : Int) < (z : Int) := by omega
        have HF := HS m (by omega)
        clear HS HX
        go_wp2_with fail
        go_round
        case rel => exact ⟨k + 1, m, by omega, by omega, by go_num, rfl, HF⟩
        case measure => simp [intOf]; omega
    · have hki : ¬ (k : Int) < (n : Int) := by omega
      have HF : Hid (Nf.IsMost l m) := by
        have h := HX.out
        rw [List.take_of_length_le (by have := HN.out; omega)] at h
        exact h
      clear HX
      go_wp2_with fail
      go_ret
      exact ⟨⟨m, rfl, HF.out, hm⟩, rfl⟩

theorem most_some : ∀ {zs : List Int}, Cd.valid zs = true → ∃ m, Nf.IsMost zs m
  | [], _ => ⟨0, (fun z hz => by cases hz), Or.inl rfl⟩
  | z :: l, hv => by
    obtain ⟨m, hm⟩ := most_some (zs := l) (Nf.valid_sub hv (fun y hy => List.mem_cons_of_mem _ hy))
    have hz := Nf.valid_mem hv z (List.mem_cons_self ..)
    by_cases hmz : (m : Int) < z
    · refine ⟨z.toNat, fun y hy => ?_, .inr ?_⟩
      · rcases List.mem_cons.1 hy with e | e
        · rw [e]; omega
        · have := hm.1 y e; omega
      · rw [show ((z.toNat : Nat) : Int) = z by omega]; exact List.mem_cons_self ..
    · refine ⟨m, fun y hy => ?_, ?_⟩
      · rcases List.mem_cons.1 hy with e | e
        · rw [e]; omega
        · exact hm.1 y e
      · rcases hm.2 with e | e
        · exact .inl e
        · exact .inr (List.mem_cons_of_mem _ e)
theorem come_nth {zs : List Int} {k : Nat} (h : k < zs.length) : Nf.come (zs.take (k + 1)) = Nf.come (zs.take k) + (if zs[k] != 0 then 1 else 0) := by
  rw [Cd.take_snoc zs k h, Nf.come_append]; unfold Nf.come; simp [List.countP_cons]
theorem ret_may {zs : List Int} {m : Nat} {b : Bool} (hv : Cd.valid zs = true) (hm : Nf.IsMost zs m) (h : b = true ↔ (Cd.left zs = 0 ∨ Nf.come zs = 0 ∨ (Nf.come zs = 1 ∧ m = 1))) : Nf.may zs true = b := by
  have := Nf.usable_may hv hm
  rw [← h] at this
  cases b <;> cases hh : Nf.may zs true <;> simp_all
set_option maxHeartbeats 2000000 in
theorem l4Usable_any (a : Option Addr) (cap n : Nat) (zs : List Int) (w : World) (h : Ints w a zs) (hn : zs.length = n) (hl : n ≤ 300) (hv : Cd.valid zs = true) :
    Calls Try.prog 70 #[.slice a n cap] w fun e w' => e = .returned (.bool (Nf.may zs true)) ∧ w' = w := by
  have HLF : Hid (Calls Try.prog 92 #[.slice a n cap] w fun e w' => e = .returned (.int .i64 (Cd.left zs)) ∧ w' = w) := l3Left_any a cap n zs w h hn hl
  have HMO : Hid (Calls Try.prog 71 #[.slice a n cap] w fun e w' => (∃ m : Nat, e = .returned (.int .i64 (m : Int)) ∧ Nf.IsMost zs m ∧ m ≤ 15) ∧ w' = w) := l3MostX a n cap zs w h hn (by omega) hv
  have HI : Hid (Ints w a zs) := h
  have HN : Hid (zs.length = n) := hn
  have HV : Hid (Cd.valid zs = true) := hv
  have HME : Hid (∃ q, Nf.IsMost zs q) := most_some hv
  by_cases hl0 : Cd.left zs = 0
  · rw [hl0] at HLF
    have HF : Hid (Nf.may zs true = true) := by
      obtain ⟨m, hm⟩ := HME.out
      exact (Nf.usable_may HV.out hm).2 (.inl hl0)
    clear h hn hv hl0
    go_enter Try.func70, Try.ntmps70
    go_wp2_with fail
    refine HLF.out.mono ?_
    rintro e w1 ⟨rfl, hw1⟩
    replace hw1 := hw1.symm
    subst hw1
    go_wp2_with fail
    go_ret
    exact ⟨ret_bool (by rw [HF.out]; all_goals first | rfl | (simp; done) | (simp; omega)), rfl⟩
  · obtain ⟨X, hX⟩ : ∃ X, X = Cd.left zs := ⟨_, rfl⟩
    rw [← hX] at HLF hl0
    have HL0 : Hid (¬ Cd.left zs = 0) := by rw [← hX]; exact hl0
    clear h hn hv hX
    go_enter Try.func70, Try.ntmps70
    go_wp2_with fail
    refine HLF.out.mono ?_
    rintro e w1 ⟨rfl, hw1⟩
    replace hw1 := hw1.symm
    subst hw1
    clear HLF
    go_wp2_with fail
    go_loop [3, 4] (fun v i => ∃ k m : Nat, k ≤ n ∧ m ≤ k ∧ i = .int .i64 (k : Int) ∧ v = .int .i64 (m : Int) ∧ Hid (m = Nf.come (zs.take k))) (fun _ i => n - (intOf i).toNat)
    case atStart => exact ⟨0, 0, by omega, by omega, rfl, rfl, rfl⟩
    case round =>
      obtain ⟨k, m, hk, hm, rfl, rfl, HX⟩ := hrel
      by_cases hlt : k < n
      · have hki : (k : Int) < (n : Int) := by omega
        have hkl : k < zs.length := by rw [HN.out]; exact hlt
        obtain ⟨b, off, rfl, hc⟩ : ∃ b off, a = some ⟨b, off, none⟩ ∧ w.cell? ⟨b, off + k, none⟩ = some (.int .i64 zs[k]) := by
          rcases HI.out with e | ⟨b, off, e1, _, e3⟩
          · rw [e] at hkl; simp at hkl
          · exact ⟨b, off, e1, e3 k hkl⟩
        have hz := Nf.valid_mem HV.out _ (List.getElem_mem hkl)
        have hcm := come_nth hkl
        obtain ⟨z, hzz⟩ : ∃ z : Nat, zs[k] = (z : Int) := ⟨zs[k].toNat, by omega⟩
        rw [hzz] at hc hz hcm
        clear hzz
        by_cases hgt : 0 < z
        · have hgi : (0 : Int) < (z : Int) := by omega
          have HF : Hid (m + 1 = Nf.come (zs.take (k + 1))) := by rw [if_pos (by simp; omega)] at hcm; show _ = _; rw [hcm, HX.out]
          clear HX hcm
          go_wp2_with fail
          go_round
          case rel => exact ⟨k + 1, m + 1, by omega, by omega, by go_num, by go_num, HF⟩
          case measure => simp [intOf]; omega
        · have hgi : ¬ (0 : Int) < (z : Int) := by omega
          have hz0 : z = 0 := by omega
          subst hz0
          have HF : Hid (m = Nf.come (zs.take (k + 1))) := by rw [if_neg (by simp)] at hcm; show _ = _; rw [hcm, HX.out]; rfl
          clear HX hcm
          go_wp2_with fail
          go_round
          case rel => exact ⟨k + 1, m, by omega, by omega, by go_num, rfl, HF⟩
          case measure => simp [intOf]; omega
      · have hki : ¬ (k : Int) < (n : Int) := by omega
        have HC : Hid (m = Nf.come zs) := by
          have h := HX.out
          rw [List.take_of_length_le (by have := HN.out; omega)] at h
          exact h
        clear HX
        by_cases hm0 : m = 0
        · subst hm0
          have HF : Hid (∀ q, Nf.IsMost zs q → Nf.may zs true = true) := fun q hq => (Nf.usable_may HV.out hq).2 (.inr (.inl HC.out.symm))
          go_wp2_with fail
          go_ret
          exact ⟨ret_bool (by obtain ⟨q, hq⟩ := HME.out; rw [HF.out q hq]; all_goals first | rfl | (simp; done) | (simp; omega)), rfl⟩
        · have hmi : ¬ (m : Int) = 0 := by omega
          by_cases hm1 : m = 1
          · subst hm1
            go_wp2_with fail
            refine HMO.out.mono ?_
            rintro e w1 ⟨⟨q, rfl, hq, hq15⟩, hw1⟩
            replace hw1 := hw1.symm
            subst hw1
            have HF : Hid (Nf.may zs true = decide ((q : Int) = 1)) := ret_may HV.out hq (by rw [decide_eq_true_iff]; have := HC.out; have := HL0.out; omega)
            clear hq
            go_wp2_with fail
            go_ret
            exact ⟨ret_bool (by rw [HF.out]; all_goals first | rfl | (simp; done) | (simp; omega)), rfl⟩
          · have hm1i : ¬ (m : Int) = 1 := by omega
            have HF : Hid (∀ q, Nf.IsMost zs q → Nf.may zs true = false) := fun q hq => ret_may HV.out hq (by have := HC.out; have := HL0.out; simp; omega)
            go_wp2_with fail
            go_ret
            exact ⟨ret_bool (by obtain ⟨q, hq⟩ := HME.out; rw [HF.out q hq]; all_goals first | rfl | (simp; done) | (simp; omega)), rfl⟩
end Go.Proofs.Ytejebodgfoihkaa

/- The fixed codes of the specification. -/
namespace Go.Proofs.Ytejebodgfoihkaa
open Go.RowKit

set_option maxHeartbeats 2000000 in
set_option maxRecDepth 20000 in
theorem l4Same_any (n : Int) (N : Nat) (hN : N ≤ 300) (w : World) :
    Calls Try.prog 46 #[.int .i64 n, .int .i64 (N : Int)] w fun e w' => (∃ a c, e = .returned (.slice a N c) ∧ OwnI w' w.heap.size (.slice a N c) N (List.replicate N n)) ∧ Below w.heap.size w w' := by
  obtain ⟨base, hbase⟩ : ∃ base, base = w.heap.size := ⟨_, rfl⟩
  have HO0 : Hid (OwnI (w.alloc (.cells #[] 3)) base (.slice (some ⟨base, 0, none⟩) 0 0) 0 (List.replicate 0 n) ∧ Below base w (w.alloc (.cells #[] 3))) := by
    rw [hbase]; exact ⟨ownI_none w, (Below.refl _ _).alloc (Nat.le_refl _) _⟩
  have HB : Hid (base = w.heap.size) := hbase
  go_enter Try.func46, Try.ntmps46
  go_wp2_with fail
  rw [← hbase]
  clear hbase
  go_loopw [5, 6] (fun o i wr => ∃ (k : Nat) (ao : Option Addr) (cap : Nat), k ≤ N ∧ i = .int .i64 (k : Int) ∧ o = .slice ao k cap ∧ Hid (OwnI wr base (.slice ao k cap) k (List.replicate k n) ∧ Below base w wr)) (fun _ i _ => N - (intOf i).toNat)
  case atStart => exact ⟨0, _, _, Nat.zero_le _, rfl, rfl, HO0⟩
  case round =>
    obtain ⟨k, ao, cap, hk, rfl, rfl, HR⟩ := hrel
    clear HO0
    by_cases hlt : k < N
    · have hki : (k : Int) < (N : Int) := by omega
      have hbw : base ≤ wr.heap.size := by rw [HB.out]; exact HR.out.2.size
      go_wp2_with (at_builtin; refine wpList_app1 wr (by rfl) _ _ (by rfl) base _ k (List.replicate k n) n (by rfl) HR.out.1 (by rfl) (by omega) hbw ?_)
      intro g7 cap7 w7 hown7 hg7
      have HF : Hid (OwnI w7 base (.slice (some ⟨g7, 0, none⟩) (k + 1) cap7) (k + 1) (List.replicate (k + 1) n) ∧ Below base w w7) := ⟨by rw [List.replicate_succ']; exact hown7, hg7.below HR.out.2 (Nat.le_refl _) hbw⟩
      clear hown7 hg7 HR
      go_wp2_with fail
      go_roundw
      case rel => exact ⟨k + 1, _, _, by omega, by go_num, rfl, HF⟩
      case measure => simp [intOf]; omega
    · have hki : ¬ (k : Int) < (N : Int) := by omega
      have hkN : k = N := by omega
      subst hkN
      have HE : Hid (OwnI wr w.heap.size (.slice ao k cap) k (List.replicate k n) ∧ Below w.heap.size w wr) := by have h := HR.out; rw [HB.out] at h; exact h
      clear HR
      go_wp2_with fail
      go_ret
      exact ⟨⟨_, _, rfl, HE.out.1⟩, HE.out.2⟩
theorem fixS_take {k : Nat} (hk : k < 288) : Df.fixS.take (k + 1) = Df.fixS.take k ++ [if k < 144 then 8 else if k < 256 then 9 else if k < 280 then 7 else 8] := by
  rw [List.take_succ_eq_append_getElem (by rw [Df.fixS_len]; exact hk)]
  congr 2
  unfold Df.fixS
  rw [List.getElem_map, List.getElem_range]
set_option maxHeartbeats 4000000 in
set_option maxRecDepth 20000 in
theorem l4Fixed_any (w : World) :
    Calls Try.prog 45 #[] w fun e w' => (∃ a c, e = .returned (.slice a 288 c) ∧ OwnI w' w.heap.size (.slice a 288 c) 288 Df.fixS) ∧ Below w.heap.size w w' := by
  obtain ⟨base, hbase⟩ : ∃ base, base = w.heap.size := ⟨_, rfl⟩
  have HO0 : Hid (OwnI (w.alloc (.cells #[] 3)) base (.slice (some ⟨base, 0, none⟩) 0 0) 0 (Df.fixS.take 0) ∧ Below base w (w.alloc (.cells #[] 3))) := by
    rw [hbase]; exact ⟨ownI_none w, (Below.refl _ _).alloc (Nat.le_refl _) _⟩
  have HB : Hid (base = w.heap.size) := hbase
  go_enter Try.func45, Try.ntmps45
  go_wp2_with fail
  rw [← hbase]
  clear hbase
  go_loopw [1, 2] (fun o i wr => ∃ (k : Nat) (ao : Option Addr) (cap : Nat), k ≤ 288 ∧ i = .int .i64 (k : Int) ∧ o = .slice ao k cap ∧ Hid (OwnI wr base (.slice ao k cap) k (Df.fixS.take k) ∧ Below base w wr)) (fun _ i _ => 288 - (intOf i).toNat)
  case atStart => exact ⟨0, _, _, Nat.zero_le _, rfl, rfl, HO0⟩
  case round =>
    obtain ⟨k, ao, cap, hk, rfl, rfl, HR⟩ := hrel
    clear HO0
    by_cases hlt : k < 288
    · have hki : (k : Int) < 288 := by omega
      have hbw : base ≤ wr.heap.size := by rw [HB.out]; exact HR.out.2.size
      have HT := fixS_take hlt
      by_cases h1 : k < 144
      · have h1i : (k : Int) < 144 := by omega
        rw [if_pos h1] at HT
        have HTH : Hid (Df.fixS.take (k + 1) = Df.fixS.take k ++ [8]) := HT
        clear HT
        go_wp2_with (at_builtin; refine wpList_app1 wr (by rfl) _ _ (by rfl) base _ k (Df.fixS.take k) 8 (by rfl) HR.out.1 (by rfl) (by omega) hbw ?_)
        intro g7 cap7 w7 hown7 hg7
        have HF : Hid (OwnI w7 base (.slice (some ⟨g7, 0, none⟩) (k + 1) cap7) (k + 1) (Df.fixS.take (k + 1)) ∧ Below base w w7) := ⟨by rw [HTH.out]; exact hown7, hg7.below HR.out.2 (Nat.le_refl _) hbw⟩
        clear hown7 hg7 HR HTH
        go_wp2_with fail
        go_roundw
        case rel => exact ⟨k + 1, _, _, by omega, by go_num, rfl, HF⟩
        case measure => simp [intOf]; omega
      · have h1i : ¬ (k : Int) < 144 := by omega
        rw [if_neg h1] at HT
        by_cases h2 : k < 256
        · have h2i : (k : Int) < 256 := by omega
          rw [if_pos h2] at HT
          have HTH : Hid (Df.fixS.take (k + 1) = Df.fixS.take k ++ [9]) := HT
          clear HT
          go_wp2_with (at_builtin; refine wpList_app1 wr (by rfl) _ _ (by rfl) base _ k (Df.fixS.take k) 9 (by rfl) HR.out.1 (by rfl) (by omega) hbw ?_)
          intro g7 cap7 w7 hown7 hg7
          have HF : Hid (OwnI w7 base (.slice (some ⟨g7, 0, none⟩) (k + 1) cap7) (k + 1) (Df.fixS.take (k + 1)) ∧ Below base w w7) := ⟨by rw [HTH.out]; exact hown7, hg7.below HR.out.2 (Nat.le_refl _) hbw⟩
          clear hown7 hg7 HR HTH
          go_wp2_with fail
          go_roundw
          case rel => exact ⟨k + 1, _, _, by omega, by go_num, rfl, HF⟩
          case measure => simp [intOf]; omega
        · have h2i : ¬ (k : Int) < 256 := by omega
          rw [if_neg h2] at HT
          by_cases h3 : k < 280
          · have h3i : (k : Int) < 280 := by omega
            rw [if_pos h3] at HT
            have HTH : Hid (Df.fixS.take (k + 1) = Df.fixS.take k ++ [7]) := HT
            clear HT
            go_wp2_with (at_builtin; refine wpList_app1 wr (by rfl) _ _ (by rfl) base _ k (Df.fixS.take k) 7 (by rfl) HR.out.1 (by rfl) (by omega) hbw ?_)
            intro g7 cap7 w7 hown7 hg7
            have HF : Hid (OwnI w7 base (.slice (some ⟨g7, 0, none⟩) (k + 1) cap7) (k + 1) (Df.fixS.take (k + 1)) ∧ Below base w w7) := ⟨by rw [HTH.out]; exact hown7, hg7.below HR.out.2 (Nat.le_refl _) hbw⟩
            clear hown7 hg7 HR HTH
            go_wp2_with fail
            go_roundw
            case rel => exact ⟨k + 1, _, _, by omega, by go_num, rfl, HF⟩
            case measure => simp [intOf]; omega
          · have h3i : ¬ (k : Int) < 280 := by omega
            rw [if_neg h3] at HT
            have HTH : Hid (Df.fixS.take (k + 1) = Df.fixS.take k ++ [8]) := HT
            clear HT
            go_wp2_with (at_builtin; refine wpList_app1 wr (by rfl) _ _ (by rfl) base _ k (Df.fixS.take k) 8 (by rfl) HR.out.1 (by rfl) (by omega) hbw ?_)
            intro g7 cap7 w7 hown7 hg7
            have HF : Hid (OwnI w7 base (.slice (some ⟨g7, 0, none⟩) (k + 1) cap7) (k + 1) (Df.fixS.take (k + 1)) ∧ Below base w w7) := ⟨by rw [HTH.out]; exact hown7, hg7.below HR.out.2 (Nat.le_refl _) hbw⟩
            clear hown7 hg7 HR HTH
            go_wp2_with fail
            go_roundw
            case rel => exact ⟨k + 1, _, _, by omega, by go_num, rfl, HF⟩
            case measure => simp [intOf]; omega
    · have hki : ¬ (k : Int) < 288 := by omega
      have hkN : k = 288 := by omega
      subst hkN
      have HE : Hid (OwnI wr w.heap.size (.slice ao 288 cap) 288 Df.fixS ∧ Below w.heap.size w wr) := by
        have h := HR.out
        rw [HB.out, List.take_of_length_le (by rw [Df.fixS_len]; exact Nat.le_refl _)] at h
        exact h
      clear HR
      go_wp2_with fail
      go_ret
      exact ⟨⟨_, _, rfl, HE.out.1⟩, HE.out.2⟩
end Go.Proofs.Ytejebodgfoihkaa

/- Marks laid into a list of the call's own, and found again. -/
namespace Go.Proofs.Ytejebodgfoihkaa
open Go.RowKit

/-- n cells at the head of block b, which can be written -/
def Own (w : World) (b n : Nat) (f : Nat → Int) : Prop := b < w.heap.size ∧ ∀ i, i < n → w.cell? ⟨b, i, none⟩ = some (.int .i64 (f i)) ∧ w.frozen? ⟨b, i, none⟩ = false

/-- nothing but block b has turned -/
structure Turned (b : Nat) (w w' : World) : Prop where
  os : w'.os = w.os
  tape : w'.tape = w.tape
  output : w'.output = w.output
  size : w'.heap.size = w.heap.size
  rest : ∀ k, k ≠ b → w'.heap[k]? = w.heap[k]?

theorem Turned.refl (b : Nat) (w : World) : Turned b w w := ⟨rfl, rfl, rfl, rfl, fun _ _ => rfl⟩
theorem Turned.set {b : Nat} {w w' : World} (h : Turned b w w') (i : Nat) (v : Value) : Turned b w (w'.setCell ⟨b, i, none⟩ v) :=
  ⟨h.os, h.tape, h.output, by rw [World.size_setCell]; exact h.size, fun k hk => (Below.heap_setCell w' ⟨b, i, none⟩ v k hk).trans (h.rest k hk)⟩
theorem Turned.below {b lo : Nat} {w w' : World} (h : Turned b w w') (hb : lo ≤ b) : Below lo w w' :=
  ⟨h.os, h.tape, h.output, Nat.le_of_eq h.size.symm, fun k hk => h.rest k (by omega)⟩
theorem Turned.ints {b : Nat} {w w' : World} (h : Turned b w w') {a : Option Addr} {zs : List Int} (hI : Ints w a zs) (hne : ∀ x, a = some x → x.block ≠ b) : Ints w' a zs := by
  rcases hI with e | ⟨c, off, rfl, hc, hcell⟩
  · exact .inl e
  · exact .inr ⟨c, off, rfl, by rw [h.size]; exact hc, fun i hi => (World.cell?_of_block (w := w) (a := ⟨c, off + i, none⟩) (h.rest c (hne _ rfl))).trans (hcell i hi)⟩
theorem Turned.owns {b lo : Nat} {w w' : World} (h : Turned b w w') {a : Option Addr} {l : List Int} (hI : Owns w lo a l) (hne : b < lo) : Owns w' lo a l := by
  rcases hI with e | ⟨c, rfl, hlo, hc, hcell⟩
  · exact .inl e
  · refine .inr ⟨c, rfl, hlo, by rw [h.size]; exact hc, fun i hi => ⟨?_, ?_⟩⟩
    · exact (World.cell?_of_block (w := w) (a := ⟨c, i, none⟩) (h.rest c (by omega))).trans (hcell i hi).1
    · exact (World.frozen?_of_block (w := w) (a := ⟨c, i, none⟩) (h.rest c (by omega))).trans (hcell i hi).2
theorem Owns.kept {w w' : World} {lo : Nat} {a : Option Addr} {l : List Int} (h : Owns w lo a l) (hb : Below w.heap.size w w') : Owns w' lo a l := by
  rcases h with e | ⟨c, rfl, hlo, hc, hcell⟩
  · exact .inl e
  · exact .inr ⟨c, rfl, hlo, Nat.lt_of_lt_of_le hc hb.size, fun i hi => ⟨(hb.cell (p := ⟨c, i, none⟩) hc).trans (hcell i hi).1, (hb.frozen (p := ⟨c, i, none⟩) hc).trans (hcell i hi).2⟩⟩

theorem Own.step {w : World} {b n k : Nat} {f g : Nat → Int} (h : Own w b n f) (hk : k < n) (hg : g k = (k : Int) + 1) (hf : ∀ i, i < n → i ≠ k → g i = f i) :
    Own (w.setCell ⟨b, k, none⟩ (.int .i64 ((k : Int) + 1))) b n g := by
  refine ⟨by rw [World.size_setCell]; exact h.1, fun i hi => ⟨?_, ?_⟩⟩
  · by_cases e : i = k
    · subst e; rw [World.cell?_setCell_same _ _ _ (h.2 i hi).1, hg]
    · rw [World.cell?_setCell_other _ _ _ _ (fun q => e (congrArg Addr.off q).symm), (h.2 i hi).1, hf i hi e]
  · rw [World.frozen?_setCell]; exact (h.2 i hi).2

end Go.Proofs.Ytejebodgfoihkaa

/- Ints appended to a row of the call's own: none or more. -/
namespace Go.Proofs.Ytejebodgfoihkaa
open Go.RowKit

/-- nothing is appended -/
theorem append_nothing (a : Option Addr) (n cap : Nat) (h : n ≤ cap) (b : Option Addr) (c : Nat) (ty : TypeId) (w : World) :
    (Builtin.append_ #[22, 22] ty #[.slice a n cap, .slice b 0 c]).run Try.prog w = .ok (.slice a n cap) w := by
  obtain ⟨i0, hi0, hz0, hz1, hz2⟩ := info_parts info_int
  cases a <;> cases b <;> simp [Builtin.append_, run_underlying Try.underlying22, sizeOf, typeInfo, hi0, Builtin.lenOf, Builtin.firstCells, h, storeCells, loadCells, loadCellsFrom]

theorem run_append_ints (ty : TypeId) (base : Nat) (v : Value) (n : Nat) (l : List Int) (w : World) (hown : OwnI w base v n l) (ca : Option Addr) (m c : Nat) (cs : List Int) (hc : Ints w ca cs) (hm : cs.length = m) (h63 : n + m ≤ 9000000) (hbase : base ≤ w.heap.size) :
    ∃ a cap w', (Builtin.append_ #[22, 22] ty #[v, .slice ca m c]).run Try.prog w = .ok (.slice a (n + m) cap) w' ∧ OwnI w' base (.slice a (n + m) cap) (n + m) (l ++ cs) ∧ w.grownBy w' v.ownBlock := by
  obtain ⟨i0, hi0, hz0, hz1, hz2⟩ := info_parts info_int
  rcases Nat.eq_zero_or_pos m with h0 | hp
  · subst h0
    have hcs : cs = [] := List.eq_nil_of_length_eq_zero hm
    subst hcs
    obtain ⟨ao, cap, rfl, _⟩ := hown.owns
    have hle : n ≤ cap := by
      rcases hown.2 with ⟨e, h0⟩ | ⟨g, cap', cur, e, _, _, h1, _⟩
      · cases e; omega
      · cases e; exact h1
    refine ⟨ao, cap, w, append_nothing ao n cap hle ca c ty w, by simpa using hown, ⟨rfl, rfl, rfl, Nat.le_refl _, fun _ _ _ => rfl⟩⟩
  · rcases hc with e | ⟨b, off, rfl, hb, hcell⟩
    · rw [e] at hm; simp at hm; omega
    · obtain ⟨g, cap, w', hr, h2, h3, _, _⟩ := run_append_lies (P := Try.prog) w 22 ty base 3 i0 (.int .i64 0) 1 8 Try.underlying22 hi0 hz0 hz1 hz2 rfl (by decide) v n (intsV l) hown ⟨b, off, none⟩ m c (intsV cs) (by rw [intsV_len]; omega)
        (fun j u hu => by
          have hj : j < cs.length := by
            rcases Nat.lt_or_ge j cs.length with h | h
            · exact h
            · rw [List.getElem?_eq_none (by rw [intsV_len]; exact h)] at hu; cases hu
          rw [intsV_get cs j hj] at hu
          cases hu
          have hadd : (⟨b, off, none⟩ : Addr).add j = ⟨b, off + j, none⟩ := by unfold Addr.add; split <;> simp_all
          rw [hadd]; exact hcell j hj)
        (fun u hu => by simp [intsV] at hu; obtain ⟨x, _, rfl⟩ := hu; rfl) hp (by unfold maxLen; omega) (by omega) hbase w.heap.size rfl
      exact ⟨some ⟨g, 0, none⟩, cap, w', hr, by show World.ownsRow _ _ _ _ _ _ _; rw [show intsV (l ++ cs) = intsV l ++ intsV cs by simp [intsV]]; exact h2, h3⟩

theorem wp_append_ints {w : World} {o : Oper} {a : Act} {K : Act → World → Prop} {Q : Exit → Act → World → Prop} (s x : Operand)
    (ho : o.op = .call { callee := .builtin .append, args := #[s, x], argTypes := #[22, 22] })
    (base : Nat) (v : Value) (n : Nat) (l : List Int) (hs : a.eval s = v) (hown : OwnI w base v n l) (ca : Option Addr) (m c : Nat) (cs : List Int) (hx : a.eval x = .slice ca m c) (hc : Ints w ca cs) (hm : cs.length = m) (h63 : n + m ≤ 9000000) (hbase : base ≤ w.heap.size)
    (h : ∀ a' cap w', OwnI w' base (.slice a' (n + m) cap) (n + m) (l ++ cs) → w.grownBy w' v.ownBlock → K (a.put o.dst (.slice a' (n + m) cap)) w') : o.wp Try.prog a w K Q := by
  obtain ⟨a', cap, w', hr, h2, h3⟩ := run_append_ints o.type base v n l w hown ca m c cs hc hm h63 hbase
  unfold Oper.wp execOp
  simp only [ho, resolve, invoke, builtin, Sem.run_bind, Sem.run_pure, Result.andThen_ok, List.map_toArray, List.map_cons, List.map_nil, hs, hx, hr]
  exact h a' cap w' h2 h3

theorem wpList_append_ints {w : World} {ops : Array Oper} {rest : List Oper} {o : Oper} {a : Act} {Q : Exit → Act → World → Prop} (hgd : o.guard = none) (s x : Operand)
    (ho : o.op = .call { callee := .builtin .append, args := #[s, x], argTypes := #[22, 22] })
    (base : Nat) (v : Value) (n : Nat) (l : List Int) (hs : a.eval s = v) (hown : OwnI w base v n l) (ca : Option Addr) (m c : Nat) (cs : List Int) (hx : a.eval x = .slice ca m c) (hc : Ints w ca cs) (hm : cs.length = m) (h63 : n + m ≤ 9000000) (hbase : base ≤ w.heap.size)
    (h : ∀ a' cap w', OwnI w' base (.slice a' (n + m) cap) (n + m) (l ++ cs) → w.grownBy w' v.ownBlock → wpList Try.prog ops Q rest (a.put o.dst (.slice a' (n + m) cap)) w') : wpList Try.prog ops Q (o :: rest) a w :=
  wpList_plain hgd fun _ hK => wp_append_ints s x ho base v n l hs hown ca m c cs hx hc hm h63 hbase fun a' cap w' h2 h3 => hK _ _ (h a' cap w' h2 h3)

theorem step_append_ints {w : World} {ops : Array Oper} {o : Oper} {a : Act} {K : Act → World → Prop} {Q : Exit → Act → World → Prop} {E : Prop} (hgd : o.guard = none) (s x : Operand)
    (ho : o.op = .call { callee := .builtin .append, args := #[s, x], argTypes := #[22, 22] })
    (base : Nat) (v : Value) (n : Nat) (l : List Int) (hs : a.eval s = v) (hown : OwnI w base v n l) (ca : Option Addr) (m c : Nat) (cs : List Int) (hx : a.eval x = .slice ca m c) (hc : Ints w ca cs) (hm : cs.length = m) (h63 : n + m ≤ 9000000) (hbase : base ≤ w.heap.size)
    (h : ∀ a' cap w', OwnI w' base (.slice a' (n + m) cap) (n + m) (l ++ cs) → w.grownBy w' v.ownBlock → K (a.put o.dst (.slice a' (n + m) cap)) w') :
    if Region.wanted o (yielded ops a.tmps) = true then Oper.wp Try.prog o a w K Q else E := by
  have hw : Region.wanted o (yielded ops a.tmps) = true := by simp [Region.wanted, hgd]
  rw [if_pos hw]
  exact wp_append_ints s x ho base v n l hs hown ca m c cs hx hc hm h63 hbase h
end Go.Proofs.Ytejebodgfoihkaa

/- Plain mathematics of numbers in bytes: the lowest first, or the highest first. -/
namespace Go.Proofs.Ytejebodgfoihkaa
namespace Nm

/-- the highest first, of the first k -/
def big (b : Nat → Nat) : Nat → Nat
  | 0 => 0
  | k + 1 => 256 * big b k + b k

/-- the lowest first, of the first k -/
def low (b : Nat → Nat) : Nat → Nat
  | 0 => 0
  | k + 1 => low b k + b k * 256 ^ k

/-- the lowest first, begun at the last one -/
def back (b : Nat → Nat) (size : Nat) : Nat → Nat
  | 0 => 0
  | k + 1 => 256 * back b size k + b (size - 1 - k)

theorem big_lt (b : Nat → Nat) (hb : ∀ i, b i < 256) : ∀ k, big b k < 256 ^ k := by
  intro k
  induction k with
  | zero => simp [big]
  | succ k ih => have := hb k; simp only [big, Nat.pow_succ]; omega

theorem low_lt (b : Nat → Nat) (hb : ∀ i, b i < 256) : ∀ k, low b k < 256 ^ k := by
  intro k
  induction k with
  | zero => simp [low]
  | succ k ih =>
    have h := hb k
    have h2 : b k * 256 ^ k ≤ 255 * 256 ^ k := Nat.mul_le_mul_right _ (by omega)
    simp only [low, Nat.pow_succ]; omega

/-- the number of so many bytes -/
def num (b : Nat → Nat) (size : Nat) (hi : Bool) : Nat := if hi then big b size else low b size

end Nm
end Go.Proofs.Ytejebodgfoihkaa

/- What the functions that read a number of some bytes return. -/
namespace Go.Proofs.Ytejebodgfoihkaa
open Go.RowKit

set_option maxHeartbeats 400000 in
theorem l1Field_big (s : ByteArray) (at_ size : Nat) (w : World) (h : at_ + size ≤ s.size) (hs : s.size ≤ 9000) (h4 : size ≤ 4) :
    Calls Try.prog 21 #[.string s, .int .i64 at_, .int .i64 size, .bool true] w fun e w' => e = .returned (.int .i64 (Nm.big (fun i => byteAt s (at_ + i)) size : Nat)) ∧ w' = w := by
  have hd : decide ((s.size : Int) < (at_ : Int) + (size : Int)) = false := by simp; omega
  go_enter Try.func21, Try.ntmps21
  go_wp2_with fail
  go_loop [9, 10] (fun n i => ∃ k : Nat, k ≤ size ∧ i = .int .i64 k ∧ n = .int .i64 (Nm.big (fun i => byteAt s (at_ + i)) k : Nat)) (fun _ i => size - (intOf i).toNat)
  case atStart => exact ⟨0, Nat.zero_le _, rfl, rfl⟩
  case round =>
    obtain ⟨k, hk, rfl, rfl⟩ := hrel
    have hb := Nm.big_lt (fun i => byteAt s (at_ + i)) (fun i => byteAt_lt _ _) k
    have hp : 256 ^ k ≤ 256 ^ 4 := Nat.pow_le_pow_right (by omega) (by omega)
    by_cases hlt : k < size
    · have hbe := byteAt_eq s (at_ + k) (by omega)
      have hbl := byteAt_lt s (at_ + k)
      have HN : Hid (Nm.big (fun i => byteAt s (at_ + i)) (k + 1) = 256 * Nm.big (fun i => byteAt s (at_ + i)) k + byteAt s (at_ + k)) := rfl
      generalize Nm.big (fun i => byteAt s (at_ + i)) k = x at *
      generalize 256 ^ k = p at *
      go_wp2_with fail
      go_round
      case rel => exact ⟨k + 1, by omega, by go_num, by rw [HN.out]; go_num⟩
      case measure => simp [intOf]; omega
    · have hk' : k = size := by omega
      subst hk'
      go_wp2_with fail
      go_ret
      exact ⟨rfl, rfl⟩

/-- whether a number of so many bytes is there -/
def NumThere (n : Nat) (at_ size : Int) : Prop := 1 ≤ size ∧ size ≤ 4 ∧ n ≤ 9000 ∧ 0 ≤ at_ ∧ at_ ≤ (n : Int) - size

theorem run_shl8 (b k z : Nat) (hb : b < 256) (hk : k < 4) (hz : z = b * 256 ^ k) (w : World) :
    Sem.run Try.prog (Op.shift BinOp.shl IntKind.i64 (IntKind.i64.wrap (b : Int)) IntKind.i64 (IntKind.i64.wrap (8 * (k : Int)))) w = .ok (.int .i64 (z : Int)) w := by
  have hw : IntKind.i64.wrap (8 * (k : Int)) = ((8 * k : Nat) : Int) := by
    rw [← wrap_i64_nat (8 * k) (by omega)]; congr 1
  rw [hw, wrap_i64_nat b (by omega), shift_shl_any _ _ _ _ (by omega)]
  subst hz
  have e : ((b : Int) * 2 ^ min ((8 * k : Nat) : Int).toNat IntKind.i64.bits) = ((b * 256 ^ k : Nat) : Int) := by
    have h4 : k = 0 ∨ k = 1 ∨ k = 2 ∨ k = 3 := by omega
    rcases h4 with rfl | rfl | rfl | rfl <;> simp [IntKind.bits]
  rw [e, wrap_i64_nat _ ?_]
  · rfl
  · have h1 : b * 256 ^ k ≤ 255 * 256 ^ 3 := Nat.mul_le_mul (by omega) (Nat.pow_le_pow_right (by omega) (by omega))
    omega

theorem run_shl8h (b k S z : Nat) (hb : b < 256) (hk : k < S) (hS : S ≤ 4) (hz : z = b * 256 ^ (S - 1 - k)) (w : World) :
    Sem.run Try.prog (Op.shift BinOp.shl IntKind.i64 (IntKind.i64.wrap (b : Int)) IntKind.i64 (IntKind.i64.wrap (8 * ((S : Int) - 1 - (k : Int))))) w = .ok (.int .i64 (z : Int)) w := by
  have e : (S : Int) - 1 - (k : Int) = ((S - 1 - k : Nat) : Int) := by omega
  rw [e]
  exact run_shl8 b (S - 1 - k) z hb (by omega) hz w

theorem or_high (x b k S z y : Nat) (hx : x < 256 ^ k) (hb : b < 256) (hk : k < S) (hS : S ≤ 4) (hz : z = b * 256 ^ (S - 1 - k)) (hy : y = (256 * x + b) * 256 ^ (S - (k + 1))) :
    bits .or .i64 ((x * 256 ^ (S - k) : Nat) : Int) (z : Int) = (y : Int) := by
  have h3 : 256 ^ (S - 1 - k) ≤ 256 ^ 3 := Nat.pow_le_pow_right (by omega) (by omega)
  have h1 : b * 256 ^ (S - 1 - k) ≤ 255 * 256 ^ 3 := Nat.mul_le_mul (by omega) h3
  have h4 : x * 256 ^ (S - k) < 256 ^ k * 256 ^ (S - k) := Nat.mul_lt_mul_of_pos_right hx (Nat.pow_pos (by omega))
  have h5 : 256 ^ k * 256 ^ (S - k) = 256 ^ S := by rw [← Nat.pow_add]; congr 1; omega
  have h6 : 256 ^ S ≤ 256 ^ 4 := Nat.pow_le_pow_right (by omega) hS
  have h7 : z < 256 ^ (S - k) := by
    have e : S - k = (S - 1 - k) + 1 := by omega
    rw [hz, e, Nat.pow_succ]
    have := Nat.mul_le_mul_right (256 ^ (S - 1 - k)) (show b ≤ 255 by omega)
    have hp : 0 < 256 ^ (S - 1 - k) := Nat.pow_pos (by omega)
    omega
  rw [i64_or_nat _ _ (by omega) (by omega)]
  have e : (256 : Nat) ^ (S - k) = 2 ^ (8 * (S - k)) := by rw [Nat.pow_mul]
  have := nat_join (8 * (S - k)) (x * 256 ^ (S - k)) z (by rw [e, Nat.mul_mod_left]) (by rw [← e]; exact h7)
  rw [this, hy, hz]
  have e2 : S - k = (S - (k + 1)) + 1 := by omega
  have e3 : S - 1 - k = S - (k + 1) := by omega
  rw [e2, e3, Nat.pow_succ, Nat.add_mul]
  congr 2
  generalize 256 ^ (S - (k + 1)) = p
  rw [← Nat.mul_assoc, Nat.mul_right_comm, Nat.mul_comm 256 x]

set_option maxHeartbeats 400000 in
theorem impl_numGet_high (s : ByteArray) (A S : Nat) (w : World) (h1 : 1 ≤ S) (h2 : S ≤ 4) (h3 : s.size ≤ 9000) (h4 : A + S ≤ s.size) :
    Calls Try.prog 24 #[.string s, .int .i64 A, .int .i64 S, .bool true] w fun e w' => e = .returned (.tuple #[.int .i64 (Nm.big (fun i => byteAt s (A + i)) S : Nat), .bool true]) ∧ Below w.heap.size w w' := by
  have hh : decide ((9000 : Int) < (s.size : Int)) = false := by simp; omega
  have hd : decide ((s.size : Int) - (S : Int) < (A : Int)) = false := by simp; omega
  have hd4 : decide ((4 : Int) < (S : Int)) = false := by simp; omega
  have hd1 : decide ((S : Int) < 1) = false := by simp; omega
  have hd0 : decide ((A : Int) < 0) = false := by simp
  go_enter Try.func24, Try.ntmps24
  go_wp2_with fail
  refine (orderOf_high _).mono ?_
  rintro e w1 ⟨rfl, rfl⟩
  go_wp2_with fail
  go_loopw [11, 39] (fun n i wr => ∃ k m x : Nat, k ≤ S ∧ i = .int .i64 k ∧ x = Nm.big (fun i => byteAt s (A + i)) k * 256 ^ (S - k) ∧ n = .int .i64 x ∧ wr = w1.drewN m) (fun _ i _ => S - (intOf i).toNat)
  case atStart => exact ⟨0, 0, 0, Nat.zero_le _, rfl, by simp [Nm.big], rfl, rfl⟩
  case round =>
    obtain ⟨k, m, x, hk, rfl, hx, rfl, rfl⟩ := hrel
    have hb := Nm.big_lt (fun i => byteAt s (A + i)) (fun i => byteAt_lt _ _) k
    by_cases hlt : k < S
    · obtain ⟨j, hj⟩ : ∃ j : Nat, j = A + k := ⟨_, rfl⟩
      have hjs : j < s.size := by omega
      have hbe := byteAt_eq s j hjs
      have hbl := byteAt_lt s j
      have HN : Hid (Nm.big (fun i => byteAt s (A + i)) (k + 1) * 256 ^ (S - (k + 1)) = (256 * Nm.big (fun i => byteAt s (A + i)) k + byteAt s j) * 256 ^ (S - (k + 1))) := by rw [hj]; rfl
      generalize Nm.big (fun i => byteAt s (A + i)) k = q at *
      have hix : (j : Int) < (s.size : Int) := by omega
      have hwr : IntKind.i64.wrap ((A : Int) + (k : Int)) = (j : Int) := by
        rw [← wrap_i64_nat j (by omega), hj]; congr 1
      obtain ⟨z, hz⟩ : ∃ z, z = byteAt s j * 256 ^ (S - 1 - k) := ⟨_, rfl⟩
      obtain ⟨y, hy⟩ : ∃ y, y = (256 * q + byteAt s j) * 256 ^ (S - (k + 1)) := ⟨_, rfl⟩
      have hsh := run_shl8h (byteAt s j) k S z hbl hlt h2 hz
      have hor := or_high q (byteAt s j) k S z y hb hbl hlt h2 hz hy
      rw [← hx] at hor
      rw [← hy] at HN
      clear hj hz hy hx hb
      go_wp2_with fail
      go_region_with (go_at_call 55; refine (order_high _ _ _ (by omega) (by omega) (by omega)).mono ?_; rintro e w' ⟨rfl, rfl⟩)
      all_goals go_wp2_with fail
      all_goals
        go_roundw
        case rel => exact ⟨k + 1, m + 1, y, by omega, by go_num, HN.out.symm, rfl, rfl⟩
        case measure => simp [intOf]; omega
    · have hk' : k = S := by omega
      subst hk'
      rw [Nat.sub_self, Nat.pow_zero, Nat.mul_one] at hx
      have HX : Hid (x = _) := hx
      clear hx hb
      go_wp2_with fail
      go_ret2
      exact ⟨by rw [HX.out]; rfl, below_drewN (Below.refl _ _) _⟩

set_option maxHeartbeats 400000 in
theorem impl_numGet_no (s : ByteArray) (at_ size : Int) (hi : Bool) (w : World) (hs : s.size ≤ 1048576) (h : ¬ NumThere s.size at_ size) :
    Calls Try.prog 24 #[.string s, .int .i64 at_, .int .i64 size, .bool hi] w fun e w' => e = .returned (.tuple #[.int .i64 0, .bool false]) ∧ w' = w := by
  unfold NumThere at h
  by_cases a1 : size < 1
  · clear h
    go_enter Try.func24, Try.ntmps24
    go_wp2_with fail
    go_ret2
    exact ⟨rfl, rfl⟩
  · have hd1 : decide (size < 1) = false := by simpa using a1
    by_cases a2 : 4 < size
    · clear h
      go_enter Try.func24, Try.ntmps24
      go_wp2_with fail
      go_ret2
      exact ⟨rfl, rfl⟩
    · have hd2 : decide (4 < size) = false := by simpa using a2
      by_cases a3 : 9000 < s.size
      · clear h
        go_enter Try.func24, Try.ntmps24
        go_wp2_with fail
        go_ret2
        exact ⟨rfl, rfl⟩
      · have hd3 : decide ((9000 : Int) < (s.size : Int)) = false := by simp; omega
        by_cases a4 : at_ < 0
        · clear h
          go_enter Try.func24, Try.ntmps24
          go_wp2_with fail
          go_ret2
          exact ⟨rfl, rfl⟩
        · have hd4 : decide (at_ < 0) = false := by simpa using a4
          have a5 : (s.size : Int) - size < at_ := by omega
          clear h
          go_enter Try.func24, Try.ntmps24
          go_wp2_with fail
          go_ret2
          exact ⟨rfl, rfl⟩

end Go.Proofs.Ytejebodgfoihkaa

/- Plain mathematics of the Adler sum: a fold over bytes, its bounds, and how it goes on. -/
namespace Go.Proofs.Ytejebodgfoihkaa
namespace Ad

def stepA (a : Int) (c : UInt8) : Int := (a + (c.toNat : Int)) % 65521
def stepB (a b : Int) (c : UInt8) : Int := (b + stepA a c) % 65521

def fin (p : Int × Int) : List UInt8 → Int × Int
  | [] => p
  | c :: l => fin (stepA p.1 c, stepB p.1 p.2 c) l

theorem fin_append (l m : List UInt8) : ∀ p, fin p (l ++ m) = fin (fin p l) m := by
  induction l with
  | nil => intro p; rfl
  | cons c l ih => intro p; exact ih _

theorem fin_snoc (p : Int × Int) (l : List UInt8) (c : UInt8) :
    fin p (l ++ [c]) = (stepA (fin p l).1 c, stepB (fin p l).1 (fin p l).2 c) := by
  rw [fin_append]; rfl

theorem fin_bounds (l : List UInt8) : ∀ p : Int × Int, 0 ≤ p.1 → p.1 ≤ 65520 → 0 ≤ p.2 → p.2 ≤ 65520 →
    (0 ≤ (fin p l).1 ∧ (fin p l).1 ≤ 65520) ∧ (0 ≤ (fin p l).2 ∧ (fin p l).2 ≤ 65520) := by
  induction l with
  | nil => intro p a b c d; exact ⟨⟨a, b⟩, c, d⟩
  | cons c l ih =>
    intro p h1 h2 h3 h4
    apply ih
    all_goals simp only [stepA, stepB]
    all_goals omega

/-- whether a sum may be gone on with -/
def okB (sum : Int) (n : Nat) : Bool :=
  decide (0 ≤ sum) && decide (sum ≤ 4294967295) && decide (sum % 65536 ≤ 65520) && decide (sum / 65536 ≤ 65520) && decide (n ≤ 9000)

/-- the sum of a text, gone on with -/
def more (sum : Int) (l : List UInt8) : Int :=
  if okB sum l.length = true then (fin (sum % 65536, sum / 65536) l).2 * 65536 + (fin (sum % 65536, sum / 65536) l).1 else 0

theorem more_no {sum : Int} {l : List UInt8} (h : okB sum l.length = false) : more sum l = 0 := by
  unfold more; rw [h]; rfl

theorem more_yes {sum : Int} {l : List UInt8} (h : okB sum l.length = true) :
    more sum l = (fin (sum % 65536, sum / 65536) l).2 * 65536 + (fin (sum % 65536, sum / 65536) l).1 := by
  unfold more; rw [if_pos h]

theorem okB_iff (sum : Int) (n : Nat) : okB sum n = true ↔ 0 ≤ sum ∧ sum ≤ 4294967295 ∧ sum % 65536 ≤ 65520 ∧ sum / 65536 ≤ 65520 ∧ n ≤ 9000 := by
  unfold okB; simp [and_assoc]

end Ad
end Go.Proofs.Ytejebodgfoihkaa

/- What the functions of the Adler sum return, for every sum and every text. -/
namespace Go.Proofs.Ytejebodgfoihkaa
open Go.RowKit

set_option maxHeartbeats 400000 in
theorem spec_adler_no (sum : Int) (s : ByteArray) (w : World) (hs : s.size ≤ maxLen) (hl : -9223372036854775807 ≤ sum + 1) (hh : sum ≤ 9223372036854775807)
    (h : Ad.okB sum s.size = false) :
    Calls Try.prog 34 #[.int .i64 sum, .string s] w fun e w' => e = .returned (.int .i64 0) ∧ w' = w := by
  unfold maxLen at hs
  have h' : ¬ (0 ≤ sum ∧ sum ≤ 4294967295 ∧ sum % 65536 ≤ 65520 ∧ sum / 65536 ≤ 65520 ∧ s.size ≤ 9000) := by
    intro g; rw [(Ad.okB_iff _ _).2 g] at h; cases h
  clear h
  by_cases h0 : sum < 0
  · have hd : decide (0 ≤ sum) = false := by simpa using h0
    go_enter Try.func34, Try.ntmps34
    go_wp2
    go_ret
    exact ⟨rfl, rfl⟩
  · have h0' : 0 ≤ sum := by omega
    by_cases h1 : 4294967295 < sum
    · have hd : decide (sum ≤ 4294967295) = false := by simpa using h1
      clear h'
      go_enter Try.func34, Try.ntmps34
      go_wp2
      go_ret
      exact ⟨rfl, rfl⟩
    · have h1' : sum ≤ 4294967295 := by omega
      by_cases h2 : 65520 < sum % 65536
      · clear h'
        go_enter Try.func34, Try.ntmps34
        go_wp2
        go_ret
        exact ⟨rfl, rfl⟩
      · have h2' : sum % 65536 ≤ 65520 := by omega
        have hd2 : decide (65520 < sum % 65536) = false := by simpa using h2'
        by_cases h3 : 65520 < sum / 65536
        · clear h'
          go_enter Try.func34, Try.ntmps34
          go_wp2
          go_ret
          exact ⟨rfl, rfl⟩
        · have h3' : sum / 65536 ≤ 65520 := by omega
          have hd3 : decide (65520 < sum / 65536) = false := by simpa using h3'
          have h4 : 9000 < s.size := by omega
          clear h' h0 h1 h2 h3
          go_enter Try.func34, Try.ntmps34
          go_wp2
          go_ret
          exact ⟨rfl, rfl⟩

set_option maxHeartbeats 400000 in
theorem spec_adler_yes (sum : Int) (s : ByteArray) (w : World) (h : Ad.okB sum s.size = true) :
    Calls Try.prog 34 #[.int .i64 sum, .string s] w fun e w' => e = .returned (.int .i64 (Ad.more sum s.data.toList)) ∧ w' = w := by
  have hm := Ad.more_yes (sum := sum) (l := s.data.toList) (by simpa using h)
  rw [hm]; clear hm
  obtain ⟨h0, h1, h2, h3, h4⟩ := (Ad.okB_iff _ _).1 h
  clear h
  have hd2 : decide (65520 < sum % 65536) = false := by simpa using h2
  have hd3 : decide (65520 < sum / 65536) = false := by simpa using h3
  go_enter Try.func34, Try.ntmps34
  go_wp2
  go_loop [5, 6, 7] (fun a b i => ∃ k : Nat, k ≤ s.size ∧ i = .int .i64 k ∧ a = .int .i64 (Ad.fin (sum % 65536, sum / 65536) (s.data.toList.take k)).1 ∧ b = .int .i64 (Ad.fin (sum % 65536, sum / 65536) (s.data.toList.take k)).2) (fun _ _ i => s.size - (intOf i).toNat)
  case atStart => exact ⟨0, Nat.zero_le _, rfl, rfl, rfl⟩
  case round =>
    obtain ⟨k, hk, rfl, rfl, rfl⟩ := hrel
    have hb := Ad.fin_bounds (s.data.toList.take k) (sum % 65536, sum / 65536) (by omega) (by omega) (by omega) (by omega)
    obtain ⟨⟨b1, b2⟩, b3, b4⟩ := hb
    by_cases hlt : k < s.size
    · have hsn := Ad.fin_snoc (sum % 65536, sum / 65536) (s.data.toList.take k) s[k]
      have hts := take_snoc s k hlt
      rw [← hts] at hsn
      have HS : Hid (Ad.fin (sum % 65536, sum / 65536) (s.data.toList.take (k + 1)) = _) := hsn
      clear hsn hts
      have hc : ((s[k]).toNat : Int) ≤ 255 := by have := UInt8.toNat_lt s[k]; omega
      go_wp2
      go_round
      case rel => exact ⟨k + 1, by omega, by go_num, by rw [HS.out]; rfl, by rw [HS.out]; rfl⟩
      case measure => simp [intOf]; omega
    · go_wp2
      go_ret
      exact ⟨ret_int (by rw [List.take_of_length_le (by simp; omega)]), rfl⟩

theorem spec_adler (sum : Int) (s : ByteArray) (w : World) (hs : s.size ≤ maxLen) (hl : -9223372036854775807 ≤ sum + 1) (hh : sum ≤ 9223372036854775807) :
    Calls Try.prog 34 #[.int .i64 sum, .string s] w fun e w' => e = .returned (.int .i64 (Ad.more sum s.data.toList)) ∧ w' = w := by
  cases h : Ad.okB sum s.size
  · rw [Ad.more_no (by rw [bytes_len]; exact h)]; exact spec_adler_no sum s w hs hl hh h
  · exact spec_adler_yes sum s w h

/-- 'b << 16 ' joined with a low part -/
theorem or_join (a b : Int) (h1 : 0 ≤ a) (h2 : a ≤ 65535) (h3 : 0 ≤ b) (h4 : b ≤ 65535) : bits .or .i64 (b * 65536) a = b * 65536 + a := by
  obtain ⟨A, rfl⟩ := Int.eq_ofNat_of_zero_le h1
  obtain ⟨B, rfl⟩ := Int.eq_ofNat_of_zero_le h3
  have e : ((B : Int) * 65536) = ((B * 65536 : Nat) : Int) := by omega
  rw [e, i64_or_nat _ _ (by omega) (by omega), nat_join 16 (B * 65536) A (by omega) (by omega)]
  omega

theorem and_low (a : Int) (h1 : 0 ≤ a) (h2 : a ≤ 4294967295) : bits .and .i64 a 65535 = a % 65536 := by
  obtain ⟨A, rfl⟩ := Int.eq_ofNat_of_zero_le h1
  have := i64_and_nat A 65535 (by omega) (by omega)
  rw [show ((65535 : Nat) : Int) = 65535 from rfl] at this
  rw [this, Nat.and_two_pow_sub_one_eq_mod A 16]
  omega

set_option maxHeartbeats 400000 in
theorem adNumber (a b : Int) (w : World) (h1 : 0 ≤ a) (h2 : a ≤ 65520) (h3 : 0 ≤ b) (h4 : b ≤ 65520) :
    Calls Try.prog 60 #[.agg #[.int .i64 a, .int .i64 b]] w fun e w' => e = .returned (.int .i64 (b * 65536 + a)) ∧ Below w.heap.size w w' := by
  go_enter Try.func60, Try.ntmps60
  go_wp2
  go_ret
  refine ⟨ret_int ?_, (Below.refl _ _).alloc (Nat.le_refl _) _⟩
  exact or_join a b h1 (by omega) h3 (by omega)

set_option maxHeartbeats 400000 in
theorem adOk (a b : Int) (w : World) (h1 : a ≤ 65520) (h2 : b ≤ 65520) :
    Calls Try.prog 58 #[.agg #[.int .i64 a, .int .i64 b]] w fun e w' => e = .returned (.bool true) ∧ Below w.heap.size w w' := by
  have hd : decide (b < 65521) = true := by simp; omega
  go_enter Try.func58, Try.ntmps58
  go_wp2
  go_ret
  exact ⟨rfl, (Below.refl _ _).alloc (Nat.le_refl _) _⟩

set_option maxHeartbeats 400000 in
theorem adOk_no (a b : Int) (w : World) (h1 : 65520 < a ∨ 65520 < b) :
    Calls Try.prog 58 #[.agg #[.int .i64 a, .int .i64 b]] w fun e w' => e = .returned (.bool false) ∧ Below w.heap.size w w' := by
  by_cases ha : 65520 < a
  · have hd : decide (a < 65521) = false := by simp; omega
    clear h1
    go_enter Try.func58, Try.ntmps58
    go_wp2
    go_ret
    exact ⟨rfl, (Below.refl _ _).alloc (Nat.le_refl _) _⟩
  · have hd : decide (b < 65521) = false := by simp; omega
    have ha' : a < 65521 := by omega
    clear h1 ha
    go_enter Try.func58, Try.ntmps58
    go_wp2
    go_ret
    exact ⟨rfl, (Below.refl _ _).alloc (Nat.le_refl _) _⟩

set_option maxHeartbeats 400000 in
theorem adMore (a b : Int) (s : ByteArray) (w : World) (hs : s.size ≤ maxLen) (h1 : 0 ≤ a) (h2 : a ≤ 65520) (h3 : 0 ≤ b) (h4 : b ≤ 65520) :
    Calls Try.prog 59 #[.agg #[.int .i64 a, .int .i64 b], .string s] w fun e w' => e = .returned (.agg #[.int .i64 (Ad.fin (a, b) s.data.toList).1, .int .i64 (Ad.fin (a, b) s.data.toList).2]) ∧ Below w.heap.size w w' := by
  unfold maxLen at hs
  go_enter Try.func59, Try.ntmps59
  go_wp2
  go_loopw [8] (fun i wr => ∃ k n : Nat, k ≤ s.size ∧ i = .int .i64 k ∧ wr = ((w.alloc (.cells #[.int .i64 (Ad.fin (a, b) (s.data.toList.take k)).1, .int .i64 (Ad.fin (a, b) (s.data.toList.take k)).2] 80)).alloc (.cells #[.int .i64 0, .int .i64 0] 80)).drewN n) (fun i _ => s.size - (intOf i).toNat)
  case atStart => exact ⟨0, 0, Nat.zero_le _, rfl, rfl⟩
  case round =>
    obtain ⟨k, n, hk, rfl, rfl⟩ := hrel
    have hb := Ad.fin_bounds (s.data.toList.take k) (a, b) (by omega) (by omega) (by omega) (by omega)
    obtain ⟨⟨b1, b2⟩, b3, b4⟩ := hb
    by_cases hlt : k < s.size
    · have hsn := Ad.fin_snoc (a, b) (s.data.toList.take k) s[k]
      have hts := take_snoc s k hlt
      rw [← hts] at hsn
      have HS : Hid (Ad.fin (a, b) (s.data.toList.take (k + 1)) = _) := hsn
      clear hsn hts
      have hc : ((s[k]).toNat : Int) ≤ 255 := by have := UInt8.toNat_lt s[k]; omega
      generalize Ad.fin (a, b) (List.take k s.data.toList) = q at *
      go_wp2
      go_region
      all_goals go_wp2
      go_roundw
      case rel => exact ⟨k + 1, n + 1, by omega, by go_num, by rw [two_store, HS.out]; simp [Ad.stepA, Ad.stepB]⟩
      case measure => simp [intOf]; omega
    · have hall : s.data.toList.take k = s.data.toList := List.take_of_length_le (by simp; omega)
      rw [hall]; clear hall
      go_wp2
      exact bodyPost_ret (v := .agg #[.int .i64 (Ad.fin (a, b) s.data.toList).1, .int .i64 (Ad.fin (a, b) s.data.toList).2]) (by simp [results, Try.results59, go_sem]) rfl ⟨rfl, ((below_drewN (((Below.refl _ _).alloc (Nat.le_refl _) _).alloc (by simp) _) _).setCell (by simp) _).setCell (by simp) _⟩

set_option maxHeartbeats 400000 in
theorem sumOk_yes (sum : Int) (s : ByteArray) (w : World) (h0 : 0 ≤ sum) (h1 : sum ≤ 4294967295) (h2 : s.size ≤ 9000) :
    Calls Try.prog 57 #[.int .i64 sum, .string s] w fun e w' => e = .returned (.bool true) ∧ w' = w := by
  have hd : decide ((s.size : Int) ≤ 9000) = true := by simp; omega
  go_enter Try.func57, Try.ntmps57
  go_wp2
  go_ret
  exact ⟨rfl, rfl⟩

set_option maxHeartbeats 400000 in
theorem sumOk_no (sum : Int) (s : ByteArray) (w : World) (hs : s.size ≤ maxLen) (h : sum < 0 ∨ 4294967295 < sum ∨ 9000 < s.size) :
    Calls Try.prog 57 #[.int .i64 sum, .string s] w fun e w' => e = .returned (.bool false) ∧ w' = w := by
  unfold maxLen at hs
  by_cases h0 : sum < 0
  · have hd : decide (0 ≤ sum) = false := by simp; omega
    clear h
    go_enter Try.func57, Try.ntmps57
    go_wp2
    go_ret
    exact ⟨rfl, rfl⟩
  · have h0' : 0 ≤ sum := by omega
    clear h0
    by_cases h1 : 4294967295 < sum
    · have hd : decide (sum ≤ 4294967295) = false := by simp; omega
      clear h
      go_enter Try.func57, Try.ntmps57
      go_wp2
      go_ret
      exact ⟨rfl, rfl⟩
    · have h1' : sum ≤ 4294967295 := by omega
      have hd : decide ((s.size : Int) ≤ 9000) = false := by simp; omega
      clear h h1
      go_enter Try.func57, Try.ntmps57
      go_wp2
      go_ret
      exact ⟨rfl, rfl⟩

set_option maxHeartbeats 400000 in
theorem impl_adler_yes (sum : Int) (s : ByteArray) (w : World) (h : Ad.okB sum s.size = true) :
    Calls Try.prog 36 #[.int .i64 sum, .string s] w fun e w' => e = .returned (.int .i64 (Ad.more sum s.data.toList)) ∧ Below w.heap.size w w' := by
  have hm := Ad.more_yes (sum := sum) (l := s.data.toList) (by simpa using h)
  rw [hm]; clear hm
  obtain ⟨h0, h1, h2, h3, h4⟩ := (Ad.okB_iff _ _).1 h
  clear h
  have hb := Ad.fin_bounds s.data.toList (sum % 65536, sum / 65536) (by omega) (by omega) (by omega) (by omega)
  obtain ⟨⟨b1, b2⟩, b3, b4⟩ := hb
  have hand := and_low sum h0 h1
  go_enter Try.func36, Try.ntmps36
  go_wp2_with fail
  refine (sumOk_yes sum s _ h0 h1 h4).mono ?_
  rintro e w1 ⟨rfl, rfl⟩
  go_wp2_with fail
  refine (adOk _ _ _ h2 h3).mono ?_
  rintro e w1 ⟨rfl, bel1⟩
  have c0 : w1.cell? ⟨w.heap.size, 0, none⟩ = some (.int .i64 (sum % 65536)) := (bel1.cell (by simp)).trans (by simp)
  have c1 : w1.cell? ⟨w.heap.size, 1, none⟩ = some (.int .i64 (sum / 65536)) := (bel1.cell (by simp)).trans (by simp)
  have bel : Below w.heap.size w w1 := ((Below.refl _ _).alloc (Nat.le_refl _) _).trans (bel1.mono (by simp))
  clear bel1
  go_wp2_with fail
  refine (adMore _ _ s _ (by unfold maxLen; omega) (by omega) h2 (by omega) h3).mono ?_
  rintro e w2 ⟨rfl, bel2⟩
  go_wp2_with fail
  refine (adNumber _ _ _ b1 b2 b3 b4).mono ?_
  rintro e w3 ⟨rfl, bel3⟩
  go_wp2_with fail
  go_ret
  exact ⟨rfl, bel.trans ((bel2.mono bel.size).trans (bel3.mono (Nat.le_trans bel.size bel2.size)))⟩

set_option maxHeartbeats 400000 in
theorem impl_adler_no (sum : Int) (s : ByteArray) (w : World) (hs : s.size ≤ maxLen) (hl : -9223372036854775807 ≤ sum + 1) (hh : sum ≤ 9223372036854775807)
    (h : Ad.okB sum s.size = false) :
    Calls Try.prog 36 #[.int .i64 sum, .string s] w fun e w' => e = .returned (.int .i64 0) ∧ Below w.heap.size w w' := by
  have h' : ¬ (0 ≤ sum ∧ sum ≤ 4294967295 ∧ sum % 65536 ≤ 65520 ∧ sum / 65536 ≤ 65520 ∧ s.size ≤ 9000) := by
    intro g; rw [(Ad.okB_iff _ _).2 g] at h; cases h
  clear h
  by_cases hn : sum < 0 ∨ 4294967295 < sum ∨ 9000 < s.size
  · go_enter Try.func36, Try.ntmps36
    go_wp2_with fail
    refine (sumOk_no sum s _ hs hn).mono ?_
    rintro e w1 ⟨rfl, rfl⟩
    go_wp2_with fail
    go_ret
    exact ⟨rfl, (Below.refl _ _).alloc (Nat.le_refl _) _⟩
  · have h0 : 0 ≤ sum := by omega
    have h1 : sum ≤ 4294967295 := by omega
    have hno : 65520 < sum % 65536 ∨ 65520 < sum / 65536 := by omega
    have h4 : s.size ≤ 9000 := by omega
    have hand := and_low sum h0 h1
    clear hn h'
    go_enter Try.func36, Try.ntmps36
    go_wp2_with fail
    refine (sumOk_yes sum s _ h0 h1 h4).mono ?_
    rintro e w1 ⟨rfl, rfl⟩
    go_wp2_with fail
    refine (adOk_no _ _ _ hno).mono ?_
    rintro e w1 ⟨rfl, bel1⟩
    go_wp2_with fail
    go_ret
    exact ⟨rfl, ((Below.refl _ _).alloc (Nat.le_refl _) _).trans (bel1.mono (by simp))⟩

theorem impl_adler (sum : Int) (s : ByteArray) (w : World) (hs : s.size ≤ maxLen) (hl : -9223372036854775807 ≤ sum + 1) (hh : sum ≤ 9223372036854775807) :
    Calls Try.prog 36 #[.int .i64 sum, .string s] w fun e w' => e = .returned (.int .i64 (Ad.more sum s.data.toList)) ∧ Below w.heap.size w w' := by
  cases h : Ad.okB sum s.size
  · rw [Ad.more_no (by rw [bytes_len]; exact h)]; exact impl_adler_no sum s w hs hl hh h
  · exact impl_adler_yes sum s w h

set_option maxHeartbeats 400000 in
theorem impl_adler32 (s : ByteArray) (w : World) (hs : s.size ≤ maxLen) :
    Calls Try.prog 25 #[.string s] w fun e w' => e = .returned (.int .i64 (Ad.more 1 s.data.toList)) ∧ Below w.heap.size w w' := by
  go_enter Try.func25, Try.ntmps25
  go_wp2_with fail
  refine (impl_adler 1 s _ hs (by omega) (by omega)).mono ?_
  rintro e w1 ⟨rfl, bel1⟩
  go_wp2_with fail
  go_ret
  exact ⟨rfl, bel1⟩

set_option maxHeartbeats 400000 in
theorem spec_adler32 (s : ByteArray) (w : World) (hs : s.size ≤ maxLen) :
    Calls Try.prog 22 #[.string s] w fun e w' => e = .returned (.int .i64 (Ad.more 1 s.data.toList)) ∧ w' = w := by
  go_enter Try.func22, Try.ntmps22
  go_wp2_with fail
  refine (spec_adler 1 s _ hs (by omega) (by omega)).mono ?_
  rintro e w1 ⟨rfl, rfl⟩
  go_wp2_with fail
  go_ret
  exact ⟨rfl, rfl⟩

end Go.Proofs.Ytejebodgfoihkaa
