/- The program's fitOk and CodeFit. -/
import Derived.Test.YtcolgcddhchkhaaCtFit
namespace Go.Proofs.Ytcolgcddhchkhaa
open Go.RowKit

/-- whether there is a code -/
def fitB (l : List Int) (m : Int) : Bool := decide (l.length ≤ 300) && (decide (1 ≤ m) && (decide (m ≤ 15) && (oftenB l && decide (Ct.come l ≤ 2 ^ m.toNat))))
theorem shl_fit (b : Nat) (hb : b ≤ 15) : IntKind.i64.wrap (2 ^ b) = ((2 ^ b : Nat) : Int) := by
  have h : 2 ^ b ≤ 2 ^ 15 := Nat.pow_le_pow_right (by omega) hb
  have := wrap_i64_nat (2 ^ b) (by omega)
  rw [← this]
  congr 1
theorem often_all {l : List Int} (h : oftenB l = true) : ∀ i, i < l.length → 0 ≤ l.getD i 0 ∧ l.getD i 0 ≤ 9000 := fun i hi => by
  unfold oftenB oneB at h
  simp only [List.all_eq_true, Bool.and_eq_true, decide_eq_true_eq] at h
  rw [List.getD_eq_getElem?_getD, List.getElem?_eq_getElem hi]
  exact h _ (List.getElem_mem hi)
set_option maxHeartbeats 4000000 in
set_option maxRecDepth 20000 in
theorem fitOk_any (a : Option Addr) (n c : Nat) (l : List Int) (m : Int) (w : World) (h : Ints w a l) (hn : l.length = n) (hb : n ≤ 1048576) :
    Calls Try.prog 40 #[.slice a n c, .int .i64 m] w fun e w' => e = .returned (.bool (fitB l m)) ∧ w' = w := by
  have HI : Hid (Ints w a l) := h
  have HN : Hid (l.length = n) := hn
  have HOF : Hid (Calls Try.prog 48 #[.slice a n c] w fun e w' => e = .returned (.bool (oftenB l)) ∧ w' = w) := oftenOk_any a c n l w h hn hb
  have HB : Hid (fitB l m = (decide (n ≤ 300) && (decide (1 ≤ m) && (decide (m ≤ 15) && (oftenB l && decide (Ct.come l ≤ 2 ^ m.toNat)))))) := by show _ = _; unfold fitB; rw [hn]
  have hcm : Ct.come l = (Ct.Tr.leaf 0, (initT l n).length).2 := by unfold Ct.come; rw [hn]
  clear h hn
  by_cases c1 : n ≤ 300
  · have d1 : decide ((n : Int) > 300) = false := by simp; omega
    by_cases c2 : 1 ≤ m
    · have d2 : decide (m < 1) = false := by simp; omega
      by_cases c3 : m ≤ 15
      · have d3 : decide (m > 15) = false := by simp; omega
        cases ho : oftenB l with
        | false =>
          have HF : Hid (fitB l m = false) := by show _ = _; rw [HB.out, ho]; simp
          rw [ho] at HOF
          clear HB ho hcm
          go_enter Try.func40, Try.ntmps40
          go_wp2_with fail
          refine HOF.out.mono ?_
          rintro e w1 ⟨rfl, hw1⟩
          replace hw1 := hw1.symm
          subst hw1
          go_wp2_with fail
          go_ret
          exact ⟨by rw [HF.out]; rfl, rfl⟩
        | true =>
          have HZ : Hid (∀ i, i < l.length → 0 ≤ l.getD i 0 ∧ l.getD i 0 ≤ 9000) := often_all ho
          rw [ho] at HOF
          have HF : Hid (fitB l m = decide ((initT l n).length ≤ 2 ^ m.toNat)) := by
            show _ = _
            rw [HB.out, ho, decide_eq_true c1, decide_eq_true c2, decide_eq_true c3, hcm]
            simp
          obtain ⟨M, hM⟩ : ∃ M : Nat, m = (M : Int) := ⟨m.toNat, by omega⟩
          subst hM
          rw [Int.toNat_natCast] at HF
          have hsh := shl_fit M (by omega)
          have h2 : 2 ^ M ≤ 2 ^ 15 := Nat.pow_le_pow_right (by omega) (by omega)
          generalize 2 ^ M = T at *
          clear HB ho hcm
          go_enter Try.func40, Try.ntmps40
          go_wp2_with fail
          refine HOF.out.mono ?_
          rintro e w1 ⟨rfl, hw1⟩
          replace hw1 := hw1.symm
          subst hw1
          go_wp2_with fail
          go_loopw [5, 26] (fun v i wr => ∃ k C : Nat, k ≤ n ∧ C ≤ k ∧ i = .int .i64 (k : Int) ∧ v = .int .i64 (C : Int) ∧ wr = w ∧ Hid ((initT l k).length = C)) (fun _ i _ => n - (intOf i).toNat)
          case atStart => exact ⟨0, 0, Nat.zero_le _, Nat.le_refl _, rfl, rfl, rfl, rfl⟩
          case round =>
            obtain ⟨k, C, hk, hC, rfl, rfl, hwr, HC⟩ := hrel
            subst hwr
            by_cases hlt : k < n
            · have hki : (k : Int) < (n : Int) := by omega
              have hkl : k < l.length := by rw [HN.out]; exact hlt
              obtain ⟨ab, ao, rfl, hac⟩ : ∃ ab ao, a = some ⟨ab, ao, none⟩ ∧ wr.cell? ⟨ab, ao + k, none⟩ = some (.int .i64 (l.getD k 0)) := by
                rcases HI.out with e | ⟨b, off, e1, e2, e3⟩
                · rw [e] at hkl; simp at hkl
                · refine ⟨b, off, e1, ?_⟩
                  rw [e3 k hkl, List.getD_eq_getElem?_getD, List.getElem?_eq_getElem hkl]; rfl
              have hzk := HZ.out k hkl
              have hin : initT l (k + 1) = if 0 < l.getD k 0 then initT l k ++ [((l.getD k 0).toNat, .leaf k)] else initT l k := rfl
              generalize l.getD k 0 = z at *
              by_cases hz0 : z = 0
              · have HC2 : Hid ((initT l (k + 1)).length = C) := by show _ = _; rw [hin, if_neg (by omega)]; exact HC.out
                have dz : (z != 0) = false := by rw [hz0]; rfl
                clear HC hin hz0 hzk
                go_wp2_with fail
                go_roundw
                case rel => exact ⟨k + 1, C, by omega, by omega, by go_num, rfl, trivial, HC2⟩
                case measure => simp [intOf]; omega
              · have HC2 : Hid ((initT l (k + 1)).length = C + 1) := by show _ = _; rw [hin, if_pos (by omega), List.length_append, HC.out]; rfl
                have dz : (z != 0) = true := by rw [bne_iff_ne]; exact hz0
                clear HC hin hz0 hzk
                go_wp2_with fail
                go_roundw
                case rel => exact ⟨k + 1, C + 1, by omega, by omega, by go_num, by go_num, trivial, HC2⟩
                case measure => simp [intOf]; omega
            · have hki : ¬ (k : Int) < (n : Int) := by omega
              obtain rfl : k = n := by omega
              have HF2 : Hid (fitB l (M : Int) = decide (C ≤ T)) := by show _ = _; rw [HF.out, HC.out]
              clear HC HF
              go_wp2_with fail
              go_ret
              exact ⟨by rw [HF2.out]; rfl, rfl⟩
      · have d3 : decide (m > 15) = true := by simp; omega
        have HF : Hid (fitB l m = false) := by show _ = _; rw [HB.out, decide_eq_false c3]; simp
        clear HB HOF hcm
        go_enter Try.func40, Try.ntmps40
        go_wp2_with fail
        go_ret
        exact ⟨by rw [HF.out]; rfl, rfl⟩
    · have d2 : decide (m < 1) = true := by simp; omega
      have HF : Hid (fitB l m = false) := by show _ = _; rw [HB.out, decide_eq_false c2]; simp
      clear HB HOF hcm
      go_enter Try.func40, Try.ntmps40
      go_wp2_with fail
      go_ret
      exact ⟨by rw [HF.out]; rfl, rfl⟩
  · have d1 : decide ((n : Int) > 300) = true := by simp; omega
    have HF : Hid (fitB l m = false) := by show _ = _; rw [HB.out, decide_eq_false c1]; simp
    clear HB HOF hcm
    go_enter Try.func40, Try.ntmps40
    go_wp2_with fail
    go_ret
    exact ⟨by rw [HF.out]; rfl, rfl⟩
theorem own_ints2 {w : World} {b n : Nat} {f : Nat → Nat} (h : OwnL w b n f) : Ints w (some ⟨b, 0, none⟩) ((List.range n).map (fun i => ((f i : Nat) : Int))) := by
  refine .inr ⟨b, 0, rfl, h.1.1, fun i hi => ?_⟩
  rw [List.length_map, List.length_range] at hi
  rw [Nat.zero_add, List.getElem_map, List.getElem_range]
  exact (h.1.2 i hi).1
theorem above_iff {f : Nat → Nat} {n M : Nat} : (aboveB ((List.range n).map (fun i => ((f i : Nat) : Int))) (M : Int) = true) ↔ ∃ i, i < n ∧ M < f i := by
  unfold aboveB
  rw [List.any_eq_true]
  constructor
  · rintro ⟨z, hz, hd⟩
    obtain ⟨i, hi, rfl⟩ := List.mem_map.1 hz
    exact ⟨i, List.mem_range.1 hi, by have := of_decide_eq_true hd; omega⟩
  · rintro ⟨i, hi, hlt⟩
    exact ⟨_, List.mem_map.2 ⟨i, List.mem_range.2 hi, rfl⟩, decide_eq_true (by omega)⟩
/-- the answer: none where there is no code; else the lengths -/
def FitEnd (l : List Int) (m : Int) (w : World) (e : Ending) (w' : World) : Prop :=
  ((fitB l m = false ∧ ∃ a c, e = .returned (.slice a 0 c)) ∨ (fitB l m = true ∧ ∃ b f, e = .returned (.slice (some ⟨b, 0, none⟩) l.length l.length) ∧ w.heap.size ≤ b ∧ OwnL w' b l.length f ∧ Ct.Fits m.toNat l f)) ∧ Below w.heap.size w w'
set_option maxHeartbeats 4000000 in
set_option maxRecDepth 20000 in
theorem impl_codeFit (a : Option Addr) (n c : Nat) (l : List Int) (m : Int) (w : World) (h : Ints w a l) (hn : l.length = n) (hb : n ≤ 1048576) :
    Calls Try.prog 10 #[.slice a n c, .int .i64 m] w (FitEnd l m w) := by
  have HFO : Hid (Calls Try.prog 40 #[.slice a n c, .int .i64 m] w fun e w' => e = .returned (.bool (fitB l m)) ∧ w' = w) := fitOk_any a n c l m w h hn hb
  cases hf : fitB l m with
  | false =>
    have HE : Hid (FitEnd l m w (.returned (.slice none 0 0)) w) := ⟨.inl ⟨hf, _, _, rfl⟩, Below.refl _ _⟩
    rw [hf] at HFO
    clear h hn hf
    go_enter Try.func10, Try.ntmps10
    go_wp2_with fail
    refine HFO.out.mono ?_
    rintro e w1 ⟨rfl, hw1⟩
    replace hw1 := hw1.symm
    subst hw1
    go_wp2_with fail
    go_ret
    exact HE.out
  | true =>
    have hg : l.length ≤ 300 ∧ 1 ≤ m ∧ m ≤ 15 ∧ oftenB l = true ∧ Ct.come l ≤ 2 ^ m.toNat := by
      unfold fitB at hf
      simpa [and_assoc] using hf
    obtain ⟨M, hM⟩ : ∃ M : Nat, m = (M : Int) := ⟨m.toNat, by omega⟩
    subst hM
    rw [Int.toNat_natCast] at hg
    have HG : Hid (Ct.Good M l) := ⟨hg.1, often_all hg.2.2.2.1, hg.2.2.2.2⟩
    have hM1 : 1 ≤ M := by omega
    have hn3 : n ≤ 300 := by omega
    have HE : Hid (∀ (b : Nat) (f : Nat → Nat) (W : World), w.heap.size ≤ b → OwnL W b n f → Ct.Fits M l f → Below w.heap.size w W → FitEnd l (M : Int) w (.returned (.slice (some ⟨b, 0, none⟩) n n)) W) := fun b f W h1 h2 h3 h4 => ⟨.inr ⟨hf, b, f, by rw [hn], h1, by rw [hn]; exact h2, by rw [Int.toNat_natCast]; exact h3⟩, h4⟩
    have HTL : Hid (Calls Try.prog 41 #[.slice a n c] w (TLEnd l n w)) := treeLengths_any a n c l w h hn hn3 (often_all hg.2.2.2.1)
    have HI : Hid (Ints w a l) := h
    have HN : Hid (l.length = n) := hn
    rw [hf] at HFO
    clear h hn hf hg
    go_enter Try.func10, Try.ntmps10
    go_wp2_with fail
    refine HFO.out.mono ?_
    rintro e w1 ⟨rfl, hw1⟩
    replace hw1 := hw1.symm
    subst hw1
    go_wp2_with fail
    refine HTL.out.mono ?_
    rintro e w2 ⟨⟨rfl, f, o2, hl2⟩, b2⟩
    have H2 : Hid (OwnL w2 w.heap.size n f ∧ Ct.IsLens l f ∧ Below w.heap.size w w2) := ⟨o2, hl2, b2⟩
    clear o2 hl2 b2 HTL HFO
    go_wp2_with fail
    go_loopw [0, 5] (fun o v wr => ∃ (x : List Int) (ax : Option Addr) (cx b : Nat) (f : Nat → Nat), o = .slice ax n cx ∧ v = .slice (some ⟨b, 0, none⟩) n n ∧ Hid (x.length = n ∧ Ints wr ax x ∧ OwnL wr b n f ∧ Ct.IsLens x f ∧ Ct.Good M x ∧ (∀ G, Ct.Fits M x G → Ct.Fits M l G) ∧ w.heap.size ≤ b ∧ Below w.heap.size w wr)) (fun o _ wr => memSum wr o)
    case atStart => exact ⟨l, a, c, w.heap.size, f, rfl, rfl, HN.out, HI.out.kept H2.out.2.2, H2.out.1, H2.out.2.1, HG.out, fun G h => h, Nat.le_refl _, H2.out.2.2⟩
    case round =>
      obtain ⟨x, ax, cx, b, fx, rfl, rfl, HR⟩ := hrel
      clear H2
      have HAB : Hid (Calls Try.prog 42 #[.slice (some ⟨b, 0, none⟩) n n, .int .i64 (M : Int)] wr fun e w' => e = .returned (.bool (aboveB ((List.range n).map (fun i => ((fx i : Nat) : Int))) (M : Int))) ∧ w' = wr) := oneAbove_any _ n n _ _ wr (own_ints2 HR.out.2.2.1) (by simp) (by omega)
      cases hab : aboveB ((List.range n).map (fun i => ((fx i : Nat) : Int))) (M : Int) with
      | true =>
        rw [hab] at HAB
        have hex := above_iff.1 hab
        have HLS : Hid (memSum wr (.slice ax n cx) = Ct.tot x ∧ Ct.tot (Ct.hv x) < Ct.tot x) := ⟨memSum_is HR.out.2.1 HR.out.1, HR.out.2.2.2.2.1.less hM1 HR.out.2.2.2.1 (by rw [HR.out.1]; exact hex)⟩
        have HHV : Hid (Calls Try.prog 43 #[.slice ax n cx] wr fun e w' => e = .returned (.slice (some ⟨wr.heap.size, 0, none⟩) n n) ∧ Ints w' (some ⟨wr.heap.size, 0, none⟩) (Ct.hv x) ∧ Below wr.heap.size wr w') := halves_any ax n cx x wr HR.out.2.1 HR.out.1 hn3 HR.out.2.2.2.2.1.2.1
        have HT2 : Hid (∀ w', Ints w' (some ⟨wr.heap.size, 0, none⟩) (Ct.hv x) → Calls Try.prog 41 #[.slice (some ⟨wr.heap.size, 0, none⟩) n n] w' (TLEnd (Ct.hv x) n w')) := fun w' hw' => treeLengths_any _ n n (Ct.hv x) w' hw' (by rw [Ct.hv_len]; exact HR.out.1) hn3 HR.out.2.2.2.2.1.hv.2.1
        have HEX : Hid (∃ i, i < x.length ∧ M < fx i) := by rw [HR.out.1]; exact hex
        clear hab hex
        go_wp2_with fail
        refine HAB.out.mono ?_
        rintro e w3 ⟨rfl, hw3⟩
        replace hw3 := hw3.symm
        subst hw3
        clear HAB
        go_wp2_with fail
        refine HHV.out.mono ?_
        rintro e w4 ⟨rfl, i4, b4⟩
        have HT4 : Hid (Calls Try.prog 41 #[.slice (some ⟨wr.heap.size, 0, none⟩) n n] w4 (TLEnd (Ct.hv x) n w4)) := HT2.out w4 i4
        have H4 : Hid (Ints w4 (some ⟨wr.heap.size, 0, none⟩) (Ct.hv x) ∧ Below wr.heap.size wr w4) := ⟨i4, b4⟩
        clear i4 b4 HT2 HHV
        go_wp2_with fail
        refine HT4.out.mono ?_
        rintro e w5 ⟨⟨rfl, f5, o5, l5⟩, b5⟩
        have hsz : w.heap.size ≤ wr.heap.size := HR.out.2.2.2.2.2.2.2.size
        have hsz4 := H4.out.2.size
        have hi5 := H4.out.1.kept b5
        have HR5 : Hid ((Ct.hv x).length = n ∧ Ints w5 (some ⟨wr.heap.size, 0, none⟩) (Ct.hv x) ∧ OwnL w5 w4.heap.size n f5 ∧ Ct.IsLens (Ct.hv x) f5 ∧ Ct.Good M (Ct.hv x) ∧ (∀ G, Ct.Fits M (Ct.hv x) G → Ct.Fits M l G) ∧ w.heap.size ≤ w4.heap.size ∧ Below w.heap.size w w5) :=
          ⟨by rw [Ct.hv_len]; exact HR.out.1, hi5, o5, l5, HR.out.2.2.2.2.1.hv, fun G hG => HR.out.2.2.2.2.2.1 G (.more HR.out.2.2.2.1 HEX.out hG), by omega, (HR.out.2.2.2.2.2.2.2.trans (H4.out.2.mono hsz)).trans (b5.mono (by omega))⟩
        have HM5 : Hid (memSum w5 (.slice (some ⟨wr.heap.size, 0, none⟩) n n) < memSum wr (.slice ax n cx)) := by
          show _ < _
          rw [HLS.out.1, memSum_is hi5 (by rw [Ct.hv_len]; exact HR.out.1)]
          exact HLS.out.2
        clear o5 l5 b5 hi5 hsz hsz4 HR H4 HT4 HLS HEX
        go_wp2_with fail
        go_roundw
        case rel => exact ⟨Ct.hv x, _, _, _, f5, rfl, rfl, HR5⟩
        case measure => exact HM5.out
      | false =>
        rw [hab] at HAB
        have HF : Hid (FitEnd l (M : Int) w (.returned (.slice (some ⟨b, 0, none⟩) n n)) wr) := HE.out b fx wr HR.out.2.2.2.2.2.2.1 HR.out.2.2.1 (HR.out.2.2.2.2.2.1 fx (.stop HR.out.2.2.2.1 (fun i hi => by
          rcases Nat.lt_or_ge M (fx i) with q | q
          · have hin : i < n := by rw [← HR.out.1]; exact hi
            have := (above_iff (n := n) (f := fx) (M := M)).2 ⟨i, hin, q⟩
            rw [hab] at this
            cases this
          · exact q))) HR.out.2.2.2.2.2.2.2
        clear hab HR
        go_wp2_with fail
        refine HAB.out.mono ?_
        rintro e w3 ⟨rfl, hw3⟩
        replace hw3 := hw3.symm
        subst hw3
        go_wp2_with fail
        go_ret
        exact HF.out
end Go.Proofs.Ytcolgcddhchkhaa
