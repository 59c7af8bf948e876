/- Tokens of a text, by the specification: those of Ty. -/
import Derived.Test.YtmfnepibhhhdcaaTkSpec
import Derived.Test.YtmfnepibhhhdcaaTyMath
namespace Go.Proofs.Ytmfnepibhhhdcaa
open Go.RowKit

set_option maxHeartbeats 2000000 in
set_option maxRecDepth 20000 in
theorem l5Match_is (s : ByteArray) (a c : Nat) (w : World) (hs : s.size ≤ 9001) (hab : a ≤ c) (hb : c ≤ s.size) :
    Calls Try.prog 112 #[.string s, .int .i64 (a : Int), .int .i64 (c : Int)] w fun e w' => e = .returned (.int .i64 ((Ty.mat s a c 258 : Nat) : Int)) ∧ ∃ q, w' = w.drewN q := by
  go_enter Try.func112, Try.ntmps112
  go_wp2_with fail
  go_loopw [7] (fun i wr => ∃ n q : Nat, n ≤ 258 ∧ c + n ≤ s.size ∧ i = .int .i64 (n : Int) ∧ Hid (Ty.mat s a c 258 = n + Ty.mat s (a + n) (c + n) (258 - n)) ∧ Hid (wr = w.drewN q)) (fun i _ => 258 - (intOf i).toNat)
  case atStart => exact ⟨0, 0, by omega, by omega, rfl, by show _ = _; simp, rfl⟩
  case round =>
    obtain ⟨n, q, hn, hbn, rfl, HM, HW⟩ := hrel
    by_cases h1 : n < 258
    · have d1 : decide ((n : Int) < 258) = true := decide_eq_true (by omega)
      obtain ⟨B, hB⟩ : ∃ B, B = c + n := ⟨_, rfl⟩
      have eB : (c : Int) + (n : Int) = (B : Int) := by omega
      have fB := wrap_i64_nat B (by omega)
      obtain ⟨A, hA⟩ : ∃ A, A = a + n := ⟨_, rfl⟩
      have eA : (a : Int) + (n : Int) = (A : Int) := by omega
      have fA := wrap_i64_nat A (by omega)
      by_cases h2 : B < s.size
      · have d2 : decide ((B : Int) < (s.size : Int)) = true := decide_eq_true (by omega)
        have hA2 : A < s.size := by omega
        have hAi : (A : Int) < (s.size : Int) := by omega
        have hBi : (B : Int) < (s.size : Int) := by omega
        have hBn : c + (n + 1) ≤ s.size := by omega
        by_cases h3 : (s[A]).toNat = (s[B]).toNat
        · have HM2 : Hid (Ty.mat s a c 258 = (n + 1) + Ty.mat s (a + (n + 1)) (c + (n + 1)) (258 - (n + 1))) := by
            show _ = _
            rw [HM.out, show 258 - n = (258 - (n + 1)) + 1 by omega, Ty.mat_yes (by omega) (by rw [← hA, ← hB, Ty.b_at hA2, Ty.b_at h2, h3]), show a + n + 1 = a + (n + 1) by omega, show c + n + 1 = c + (n + 1) by omega]
            omega
          have d3 : (((s[A]).toNat : Int) == ((s[B]).toNat : Int)) = true := by rw [beq_iff_eq]; omega
          clear h3 hB hA HM
          go_wp2_with fail
          go_quiet (fail)
          go_wp2_with fail
          go_roundw
          case rel => exact ⟨n + 1, q + nq, by omega, hBn, by go_num, HM2, by show _ = _; rw [HW.out, World.drewN_drewN]⟩
          case measure => simp [intOf]; omega
        · have HM2 : Hid (Ty.mat s a c 258 = n) := by
            show _ = _
            rw [HM.out, Ty.mat_no (by rw [← hA, ← hB, Ty.b_at hA2, Ty.b_at h2]; exact fun h => h3 h.2)]; rfl
          have d3 : (((s[A]).toNat : Int) == ((s[B]).toNat : Int)) = false := by rw [beq_eq_false_iff_ne]; omega
          clear h3 hB hA HM
          go_wp2_with fail
          go_quiet (fail)
          go_wp2_with fail
          go_ret
          exact ⟨by rw [HM2.out]; rfl, q + nq, by rw [HW.out, World.drewN_drewN]⟩
      · have d2 : decide ((B : Int) < (s.size : Int)) = false := decide_eq_false (by omega)
        have HM2 : Hid (Ty.mat s a c 258 = n) := by
          show _ = _
          rw [HM.out, Ty.mat_no (by rw [← hB]; exact fun h => h2 h.1)]; rfl
        clear hB hA HM
        go_wp2_with fail
        go_quiet (fail)
        go_wp2_with fail
        go_ret
        exact ⟨by rw [HM2.out]; rfl, q + nq, by rw [HW.out, World.drewN_drewN]⟩
    · have d1 : decide ((n : Int) < 258) = false := decide_eq_false (by omega)
      have HM2 : Hid (Ty.mat s a c 258 = n) := by
        show _ = _
        rw [HM.out, show 258 - n = 0 by omega]; rfl
      clear HM
      go_wp2_with fail
      go_quiet (fail)
      go_wp2_with fail
      go_ret
      exact ⟨by rw [HM2.out]; rfl, q + nq, by rw [HW.out, World.drewN_drewN]⟩

def BestIs (s : ByteArray) (A : Nat) (w : World) (e : Ending) (w' : World) : Prop := e = .returned (.tuple #[.int .i64 (((Ty.bst s A A).1 : Nat) : Int), .int .i64 (((Ty.bst s A A).2 : Nat) : Int)]) ∧ ∃ q, w' = w.drewN q
set_option maxHeartbeats 2000000 in
set_option maxRecDepth 20000 in
theorem l5Best_is (s : ByteArray) (A : Nat) (w : World) (hs : s.size ≤ 9001) (hA : A ≤ s.size) :
    Calls Try.prog 82 #[.string s, .int .i64 (A : Int)] w (BestIs s A w) := by
  have HM : Hid (∀ (a : Nat) (w : World), a ≤ A → Calls Try.prog 112 #[.string s, .int .i64 (a : Int), .int .i64 (A : Int)] w fun e w' => e = .returned (.int .i64 ((Ty.mat s a A 258 : Nat) : Int)) ∧ ∃ q, w' = w.drewN q) := fun a w h => l5Match_is s a A w hs h hA
  go_enter Try.func82, Try.ntmps82
  go_wp2_with fail
  go_loopw [6, 7, 8] (fun n d i wr => ∃ N D k q : Nat, n = .int .i64 (N : Int) ∧ d = .int .i64 (D : Int) ∧ i = .int .i64 ((k + 1 : Nat) : Int) ∧ k ≤ A ∧ Hid (Ty.bst s A k = (N, D)) ∧ Hid (wr = w.drewN q)) (fun _ _ i _ => A + 1 - (intOf i).toNat)
  case atStart => exact ⟨0, 0, 0, 0, rfl, rfl, rfl, by omega, rfl, rfl⟩
  case round =>
    obtain ⟨N, D, k, q, rfl, rfl, rfl, hk2, HB, HW⟩ := hrel
    obtain ⟨k1, hk1⟩ : ∃ k1, k1 = k + 1 := ⟨_, rfl⟩
    rw [← hk1]
    have hk1b : k1 ≤ A + 1 := by omega
    by_cases hk : k1 ≤ A
    · have hki : (k1 : Int) ≤ (A : Int) := by omega
      obtain ⟨a, ha⟩ : ∃ a, a = A - k1 := ⟨_, rfl⟩
      have ea : (A : Int) - (k1 : Int) = (a : Int) := by omega
      have HMC := HM.out a wr (by omega)
      obtain ⟨n, hn⟩ : ∃ n, n = Ty.mat s a A 258 := ⟨_, rfl⟩
      rw [← hn] at HMC
      have HMH : Hid (Calls Try.prog 112 #[.string s, .int .i64 (a : Int), .int .i64 (A : Int)] wr fun e w' => e = .returned (.int .i64 (n : Int)) ∧ ∃ q, w' = wr.drewN q) := HMC
      have hn1 : n ≤ 258 := by rw [hn]; exact Ty.mat_le _ _ _ _
      have HB2 : Hid (Ty.bst s A (k + 1) = if N < n then (n, k1) else (N, D)) := by
        show _ = _
        rw [Ty.bst, HB.out, Ty.upd, ← hk1, ← ha, ← hn]
        show (if N < n then (n, A - a) else (N, D)) = _
        rw [show A - a = k1 by omega]
      have hK1 : Hid (k1 = k + 1) := hk1
      clear HMC ha hn HB hk1
      go_wp2_with fail
      refine HMH.out.mono ?_
      rintro e w2 ⟨rfl, q2, hq2⟩
      have HW2 : Hid (w2 = w.drewN (q + q2)) := by show _ = _; rw [hq2, HW.out, World.drewN_drewN]
      clear hq2 HMH
      by_cases hgt : N < n
      · have hgti : (N : Int) < (n : Int) := by omega
        go_wp2_with fail
        go_roundw
        case rel => exact ⟨n, k1, k1, q + q2, rfl, rfl, by go_num, by omega, by show _ = _; rw [hK1.out, HB2.out, if_pos hgt, hK1.out], HW2.out⟩
        case measure => simp [intOf]; omega
      · have hgti : ¬ (N : Int) < (n : Int) := by omega
        go_wp2_with fail
        go_roundw
        case rel => exact ⟨N, D, k1, q + q2, rfl, rfl, by go_num, by omega, by show _ = _; rw [hK1.out, HB2.out, if_neg hgt], HW2.out⟩
        case measure => simp [intOf]; omega
    · have hki : ¬ (k1 : Int) ≤ (A : Int) := by omega
      have hkA : k = A := by omega
      have HB3 : Ty.bst s A A = (N, D) := by rw [← HB.out, hkA]
      have HF : Hid (BestIs s A w (.returned (.tuple #[.int .i64 (N : Int), .int .i64 (D : Int)])) wr) := ⟨by rw [HB3], q, HW.out⟩
      clear hkA hk1 HB HB3
      go_wp2_with fail
      exact bodyPost_ret (v := .tuple #[.int .i64 (N : Int), .int .i64 (D : Int)]) (by simp [results, Try.results82, go_sem]) rfl HF.out

/-- just these tokens, in a row of its own -/
def TkIs (w : World) (l : List Tk) (e : Ending) (w' : World) : Prop :=
  ∃ (ao : Option Addr) (cap : Nat), e = .returned (.slice ao l.length cap) ∧ OwnK w' w.heap.size (.slice ao l.length cap) l.length l ∧ Below w.heap.size w w'

set_option maxHeartbeats 2000000 in
set_option maxRecDepth 20000 in
theorem l5Tokens_is (s : ByteArray) (w : World) (hs : s.size ≤ 5000) :
    Calls Try.prog 45 #[.string s] w (TkIs w (Ty.from_ s 0)) := by
  have HE : Hid (OwnK (w.alloc (.cells #[] 39)) w.heap.size (.slice (some ⟨w.heap.size, 0, none⟩) 0 0) 0 []) := tk_own_none w
  have HM : Hid (∀ (A : Nat) (w : World), A ≤ s.size → Calls Try.prog 82 #[.string s, .int .i64 (A : Int)] w (BestIs s A w)) := fun A w h => l5Best_is s A w (by omega) h
  obtain ⟨i0, hi0, hz0, hz1, hz2⟩ := info_parts info_tok
  go_enter Try.func45, Try.ntmps45
  go_wp2_with fail
  go_loopw [3, 4] (fun o i wr => ∃ (A : Nat) (l : List Tk) (ao : Option Addr) (cap : Nat), A ≤ s.size ∧ l.length ≤ A ∧ i = .int .i64 (A : Int) ∧ o = .slice ao l.length cap ∧ Hid (Ty.from_ s 0 = l ++ Ty.from_ s A) ∧ Hid (OwnK wr w.heap.size (.slice ao l.length cap) l.length l ∧ Below w.heap.size w wr)) (fun _ i _ => s.size - (intOf i).toNat)
  case atStart => exact ⟨0, [], _, _, Nat.zero_le _, Nat.zero_le _, rfl, rfl, rfl, HE.out, (Below.refl _ _).alloc (Nat.le_refl _) _⟩
  case round =>
    obtain ⟨A, l, ao, cap, hA, hlA, rfl, rfl, HX, HS⟩ := hrel
    clear HE
    by_cases hlt : A < s.size
    · have hlti : (A : Int) < (s.size : Int) := by omega
      have hbst := Ty.bst_le s A A
      have hadv := Ty.adv_in hlt
      have HX2 : Hid (Ty.from_ s 0 = (l ++ [Ty.tok s A]) ++ Ty.from_ s (A + Ty.adv s A)) := by
        show _ = _
        rw [HX.out, Ty.from_step hlt, List.append_assoc]; rfl
      have hT : Ty.tok s A = if 3 ≤ (Ty.bst s A A).1 then (0, ((Ty.bst s A A).1 : Int), ((Ty.bst s A A).2 : Int)) else ((Ty.b s A : Int), 0, 0) := rfl
      have hV : Ty.adv s A = if 3 ≤ (Ty.bst s A A).1 then (Ty.bst s A A).1 else 1 := rfl
      have HMC := HM.out A wr hA
      unfold BestIs at HMC
      generalize Ty.tok s A = tk at *
      generalize Ty.adv s A = av at *
      generalize Ty.bst s A A = nd at *
      obtain ⟨n, d⟩ := nd
      dsimp only at HMC hT hV hbst
      have HMH : Hid (Calls Try.prog 82 #[.string s, .int .i64 (A : Int)] wr fun e w' => e = .returned (.tuple #[.int .i64 (n : Int), .int .i64 (d : Int)]) ∧ ∃ q, w' = wr.drewN q) := HMC
      clear HMC HX
      go_wp2_with fail
      refine HMH.out.mono ?_
      rintro e w2 ⟨rfl, q2, hq2⟩
      have hown : OwnK w2 w.heap.size (.slice ao l.length cap) l.length l := by rw [hq2]; exact HS.out.1
      have hbel : Below w.heap.size w w2 := by rw [hq2]; exact below_drewN HS.out.2 q2
      have hbs : w.heap.size ≤ w2.heap.size := hbel.size
      have hlt0 := World.ownsRow.lt (show World.ownsRow _ _ _ _ _ _ _ from hown)
      have hm63 : l.length + 1 ≤ maxLen := by unfold maxLen; omega
      have hlen : (l.length + 1) * 24 ≤ 140737488355328 := by omega
      clear hq2 HMH HS
      by_cases hn3 : n < 3
      · have hn3i : (n : Int) < 3 := by omega
        rw [if_neg (by omega)] at hT hV
        rw [Ty.b_at hlt] at hT
        obtain ⟨c, hc⟩ : ∃ c : Nat, c = (s[A]).toNat := ⟨_, rfl⟩
        have hcb : c < 256 := by rw [hc]; exact UInt8.toNat_lt _
        rw [← hc] at hT
        rw [hT, hV] at HX2
        have hc' : (s[A]).toNat = c := hc.symm
        have hone : ∀ u ∈ [Value.int .i64 (c : Int), Value.int .i64 0, Value.int .i64 0], u.oneCell' = true := by intro u hu; simp at hu; rcases hu with rfl | rfl | rfl <;> rfl
        clear hc hT hV
        go_wp2_with (at_builtin; refine wpList_append_lies _ (by rfl) _ _ _ (by rfl) w.heap.size 39 i0 (.agg #[.int .i64 0, .int .i64 0, .int .i64 0]) 3 24 Try.underlying31 hi0 hz0 hz1 hz2 rfl (by decide) _ l.length (tkCells l) (by rfl) (World.ownsRow.alloc (show World.ownsRow _ _ _ _ _ _ _ from hown) _) ⟨w2.heap.size, 0, none⟩ 1 1 [.int .i64 (c : Int), .int .i64 0, .int .i64 0] (by rfl) rfl (World.news_of_block (heap_alloc_new _ _)) hone (by decide) hm63 hlen (by simp; omega) _ rfl ?_)
        intro g cap2 w4 hown4 hgrow hat hlt4
        have hb4 : Below w.heap.size w w4 := (hbel.alloc hbs _).grown hgrow (by simp; omega) (fun k hk => (hlt0 k hk).1)
        have HF4 : Hid (OwnK w4 w.heap.size (.slice (some ⟨g, 0, none⟩) (l.length + 1) cap2) (l.length + 1) (l ++ [((c : Int), 0, 0)]) ∧ Below w.heap.size w w4) := ⟨OwnK.more hown4, hb4⟩
        clear hown4 hgrow hat hlt0 hown hbel hone hm63 hlen hlt4 hb4
        go_wp2_with fail
        go_roundw
        case rel => exact ⟨A + 1, l ++ [((c : Int), 0, 0)], some ⟨g, 0, none⟩, cap2, by omega, by rw [List.length_append]; show l.length + 1 ≤ _; omega, by go_num, by rw [List.length_append]; rfl, HX2, by rw [List.length_append]; exact HF4.out⟩
        case measure => simp [intOf]; omega
      · have hn3i : ¬ (n : Int) < 3 := by omega
        rw [if_pos (by omega)] at hT hV
        rw [hT, hV] at HX2
        have hAn : A + n ≤ s.size := by omega
        have hone : ∀ u ∈ [Value.int .i64 0, Value.int .i64 (n : Int), Value.int .i64 (d : Int)], u.oneCell' = true := by intro u hu; simp at hu; rcases hu with rfl | rfl | rfl <;> rfl
        clear hT hV hadv
        go_wp2_with (at_builtin; refine wpList_append_lies _ (by rfl) _ _ _ (by rfl) w.heap.size 39 i0 (.agg #[.int .i64 0, .int .i64 0, .int .i64 0]) 3 24 Try.underlying31 hi0 hz0 hz1 hz2 rfl (by decide) _ l.length (tkCells l) (by rfl) (World.ownsRow.alloc (show World.ownsRow _ _ _ _ _ _ _ from hown) _) ⟨w2.heap.size, 0, none⟩ 1 1 [.int .i64 0, .int .i64 (n : Int), .int .i64 (d : Int)] (by rfl) rfl (World.news_of_block (heap_alloc_new _ _)) hone (by decide) hm63 hlen (by simp; omega) _ rfl ?_)
        intro g cap2 w4 hown4 hgrow hat hlt4
        have hb4 : Below w.heap.size w w4 := (hbel.alloc hbs _).grown hgrow (by simp; omega) (fun k hk => (hlt0 k hk).1)
        have HF4 : Hid (OwnK w4 w.heap.size (.slice (some ⟨g, 0, none⟩) (l.length + 1) cap2) (l.length + 1) (l ++ [(0, (n : Int), (d : Int))]) ∧ Below w.heap.size w w4) := ⟨OwnK.more hown4, hb4⟩
        clear hown4 hgrow hat hlt0 hown hbel hone hm63 hlen hlt4 hb4
        go_wp2_with fail
        go_roundw
        case rel => exact ⟨A + n, l ++ [(0, (n : Int), (d : Int))], some ⟨g, 0, none⟩, cap2, by omega, by rw [List.length_append]; show l.length + 1 ≤ _; omega, by go_num, by rw [List.length_append]; rfl, HX2, by rw [List.length_append]; exact HF4.out⟩
        case measure => simp [intOf]; omega
    · have hlti : ¬ (A : Int) < (s.size : Int) := by omega
      have HF : Hid (TkIs w (Ty.from_ s 0) (.returned (.slice ao l.length cap)) wr) := by
        have e : Ty.from_ s 0 = l := by rw [HX.out, Ty.from_end hlt, List.append_nil]
        rw [e]
        exact ⟨ao, cap, rfl, HS.out.1, HS.out.2⟩
      clear HS HX
      go_wp2_with fail
      go_ret
      exact HF.out

/-- the tokens of a text that is not too long -/
def tyAns (s : ByteArray) : List Tk := if 5000 < s.size then [] else Ty.from_ s 0
set_option maxHeartbeats 1000000 in
theorem spec_tokensOf (s : ByteArray) (w : World) (hs : s.size ≤ 2000000) :
    Calls Try.prog 14 #[.string s] w (TkIs w (tyAns s)) := by
  by_cases h : (s.size : Int) > 5000
  · have d : decide ((s.size : Int) > 5000) = true := decide_eq_true h
    have HF : Hid (TkIs w (tyAns s) (.returned (.slice (some ⟨w.heap.size, 0, none⟩) 0 0)) (w.alloc (.cells #[] 39))) := by
      unfold tyAns
      rw [if_pos (by omega)]
      exact ⟨_, _, rfl, tk_own_none w, (Below.refl _ _).alloc (Nat.le_refl _) _⟩
    go_enter Try.func14, Try.ntmps14
    go_wp2_with fail
    go_ret
    exact HF.out
  · have d : decide ((s.size : Int) > 5000) = false := decide_eq_false h
    have HT : Hid (Calls Try.prog 45 #[.string s] w (TkIs w (tyAns s))) := by
      unfold tyAns
      rw [if_neg (by omega)]
      exact l5Tokens_is s w (by omega)
    generalize tyAns s = l at *
    go_enter Try.func14, Try.ntmps14
    go_wp2_with fail
    refine HT.out.mono ?_
    rintro e w1 ⟨ao, cap, rfl, h2, h3⟩
    have HF : Hid (TkIs w l (.returned (.slice ao l.length cap)) w1) := ⟨ao, cap, rfl, h2, h3⟩
    clear h2 h3 HT
    go_wp2_with fail
    go_ret
    exact HF.out
end Go.Proofs.Ytmfnepibhhhdcaa
