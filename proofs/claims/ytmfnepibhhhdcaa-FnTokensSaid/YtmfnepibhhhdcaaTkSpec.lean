/- Tokens of a text, by the specification: some list of tokens. -/
import Derived.Test.YtmfnepibhhhdcaaTkOwn
import Derived.Deep.AppendLies
import Derived.Below
import Derived.BigQuiet
import Derived.Deep.QuietTactic
namespace Go.Proofs.Ytmfnepibhhhdcaa
open Go.RowKit

theorem tkCells_snoc : ∀ (l : List Tk) (v s d : Int), tkCells l ++ [.int .i64 v, .int .i64 s, .int .i64 d] = tkCells (l ++ [(v, s, d)])
  | [], v, s, d => rfl
  | p :: l, v, s, d => by simp only [tkCells, List.cons_append, tkCells_snoc l v s d]
theorem OwnK.more {w : World} {B n g cap : Nat} {l : List Tk} {v s d : Int} (h : w.ownsRow B 39 3 (.slice (some ⟨g, 0, none⟩) (n + 1) cap) (n + 1) (tkCells l ++ [.int .i64 v, .int .i64 s, .int .i64 d])) :
    OwnK w B (.slice (some ⟨g, 0, none⟩) (n + 1) cap) (n + 1) (l ++ [(v, s, d)]) := by
  rw [tkCells_snoc] at h; exact h
theorem tk_own_none (w : World) : OwnK (w.alloc (.cells #[] 39)) w.heap.size (.slice (some ⟨w.heap.size, 0, none⟩) 0 0) 0 [] :=
  World.ownsRow_lit w #[] 0 (Nat.le_refl _) (by decide) rfl

set_option maxHeartbeats 2000000 in
set_option maxRecDepth 20000 in
theorem l5Match_any (s : ByteArray) (a b : Nat) (w : World) (hs : s.size ≤ 9001) (hab : a ≤ b) (hb : b ≤ s.size) :
    Calls Try.prog 112 #[.string s, .int .i64 (a : Int), .int .i64 (b : Int)] w fun e w' => (∃ n : Nat, e = .returned (.int .i64 (n : Int)) ∧ n ≤ 258 ∧ b + n ≤ s.size) ∧ ∃ q, w' = w.drewN q := by
  go_enter Try.func112, Try.ntmps112
  go_wp2_with fail
  go_loopw [7] (fun i wr => ∃ n q : Nat, n ≤ 258 ∧ b + n ≤ s.size ∧ i = .int .i64 (n : Int) ∧ Hid (wr = w.drewN q)) (fun i _ => 258 - (intOf i).toNat)
  case atStart => exact ⟨0, 0, by omega, by omega, rfl, rfl⟩
  case round =>
    obtain ⟨n, q, hn, hbn, rfl, HW⟩ := hrel
    by_cases h1 : n < 258
    · have d1 : decide ((n : Int) < 258) = true := decide_eq_true (by omega)
      obtain ⟨B, hB⟩ : ∃ B, B = b + n := ⟨_, rfl⟩
      have eB : (b : Int) + (n : Int) = (B : Int) := by omega
      have fB := wrap_i64_nat B (by omega)
      obtain ⟨A, hA⟩ : ∃ A, A = a + n := ⟨_, rfl⟩
      have eA : (a : Int) + (n : Int) = (A : Int) := by omega
      have fA := wrap_i64_nat A (by omega)
      by_cases h2 : B < s.size
      · have d2 : decide ((B : Int) < (s.size : Int)) = true := decide_eq_true (by omega)
        have hA2 : A < s.size := by omega
        have hAi : (A : Int) < (s.size : Int) := by omega
        have hBi : (B : Int) < (s.size : Int) := by omega
        have hBn : b + (n + 1) ≤ s.size := by omega
        obtain ⟨x, hx⟩ : ∃ x : Nat, x = (s[A]).toNat := ⟨_, rfl⟩
        obtain ⟨y, hy⟩ : ∃ y : Nat, y = (s[B]).toNat := ⟨_, rfl⟩
        clear hB hA
        by_cases h3 : (s[A]).toNat = (s[B]).toNat
        · have d3 : (((s[A]).toNat : Int) == ((s[B]).toNat : Int)) = true := by rw [beq_iff_eq]; omega
          clear h3 hx hy
          go_wp2_with fail
          go_quiet (fail)
          go_wp2_with fail
          go_roundw
          case rel => exact ⟨n + 1, q + nq, by omega, hBn, by go_num, by show _ = _; rw [HW.out, World.drewN_drewN]⟩
          case measure => simp [intOf]; omega
        · have d3 : (((s[A]).toNat : Int) == ((s[B]).toNat : Int)) = false := by rw [beq_eq_false_iff_ne]; omega
          clear h3 hx hy
          go_wp2_with fail
          go_quiet (fail)
          go_wp2_with fail
          go_ret
          exact ⟨⟨n, rfl, hn, hbn⟩, q + nq, by rw [HW.out, World.drewN_drewN]⟩
      · have d2 : decide ((B : Int) < (s.size : Int)) = false := decide_eq_false (by omega)
        clear hB hA
        go_wp2_with fail
        go_quiet (fail)
        go_wp2_with fail
        go_ret
        exact ⟨⟨n, rfl, hn, hbn⟩, q + nq, by rw [HW.out, World.drewN_drewN]⟩
    · have d1 : decide ((n : Int) < 258) = false := decide_eq_false (by omega)
      go_wp2_with fail
      go_quiet (fail)
      go_wp2_with fail
      go_ret
      exact ⟨⟨n, rfl, hn, hbn⟩, q + nq, by rw [HW.out, World.drewN_drewN]⟩

def BestEnd (s : ByteArray) (A : Nat) (w : World) (e : Ending) (w' : World) : Prop := (∃ n d : Nat, e = .returned (.tuple #[.int .i64 (n : Int), .int .i64 (d : Int)]) ∧ n ≤ 258 ∧ A + n ≤ s.size) ∧ ∃ q, w' = w.drewN q
set_option maxHeartbeats 2000000 in
set_option maxRecDepth 20000 in
theorem l5Best_any (s : ByteArray) (A : Nat) (w : World) (hs : s.size ≤ 9001) (hA : A ≤ s.size) :
    Calls Try.prog 82 #[.string s, .int .i64 (A : Int)] w (BestEnd s A w) := by
  have HM : Hid (∀ (a : Nat) (w : World), a ≤ A → Calls Try.prog 112 #[.string s, .int .i64 (a : Int), .int .i64 (A : Int)] w fun e w' => (∃ n : Nat, e = .returned (.int .i64 (n : Int)) ∧ n ≤ 258 ∧ A + n ≤ s.size) ∧ ∃ q, w' = w.drewN q) := fun a w h => l5Match_any s a A w hs h hA
  go_enter Try.func82, Try.ntmps82
  go_wp2_with fail
  go_loopw [6, 7, 8] (fun n d i wr => ∃ N D k q : Nat, N ≤ 258 ∧ A + N ≤ s.size ∧ n = .int .i64 (N : Int) ∧ d = .int .i64 (D : Int) ∧ i = .int .i64 (k : Int) ∧ 1 ≤ k ∧ k ≤ A + 1 ∧ Hid (wr = w.drewN q)) (fun _ _ i _ => A + 1 - (intOf i).toNat)
  case atStart => exact ⟨0, 0, 1, 0, by omega, by omega, rfl, rfl, rfl, by omega, by omega, rfl⟩
  case round =>
    obtain ⟨N, D, k, q, hN, hAN, rfl, rfl, rfl, hk1, hk2, HW⟩ := hrel
    by_cases hk : k ≤ A
    · have hki : (k : Int) ≤ (A : Int) := by omega
      obtain ⟨a, ha⟩ : ∃ a, a = A - k := ⟨_, rfl⟩
      have ea : (A : Int) - (k : Int) = (a : Int) := by omega
      have HMC := HM.out a wr (by omega)
      have HMH : Hid (Calls Try.prog 112 #[.string s, .int .i64 (a : Int), .int .i64 (A : Int)] wr fun e w' => (∃ n : Nat, e = .returned (.int .i64 (n : Int)) ∧ n ≤ 258 ∧ A + n ≤ s.size) ∧ ∃ q, w' = wr.drewN q) := HMC
      clear HMC ha
      go_wp2_with fail
      refine HMH.out.mono ?_
      rintro e w2 ⟨⟨n, rfl, hn1, hn2⟩, q2, hq2⟩
      have HW2 : Hid (w2 = w.drewN (q + q2)) := by show _ = _; rw [hq2, HW.out, World.drewN_drewN]
      clear hq2 HMH
      by_cases hgt : N < n
      · have hgti : (N : Int) < (n : Int) := by omega
        go_wp2_with fail
        go_roundw
        case rel => exact ⟨n, k, k + 1, q + q2, hn1, hn2, rfl, rfl, by go_num, by omega, by omega, HW2.out⟩
        case measure => simp [intOf]; omega
      · have hgti : ¬ (N : Int) < (n : Int) := by omega
        go_wp2_with fail
        go_roundw
        case rel => exact ⟨N, D, k + 1, q + q2, hN, hAN, rfl, rfl, by go_num, by omega, by omega, HW2.out⟩
        case measure => simp [intOf]; omega
    · have hki : ¬ (k : Int) ≤ (A : Int) := by omega
      have HF : Hid (BestEnd s A w (.returned (.tuple #[.int .i64 (N : Int), .int .i64 (D : Int)])) wr) := ⟨⟨N, D, rfl, hN, hAN⟩, q, HW.out⟩
      go_wp2_with fail
      exact bodyPost_ret (v := .tuple #[.int .i64 (N : Int), .int .i64 (D : Int)]) (by simp [results, Try.results82, go_sem]) rfl HF.out

/-- some list of tokens, in a row of its own -/
def TkDrawn (w : World) (n : Nat) (e : Ending) (w' : World) : Prop :=
  ∃ (l : List Tk) (ao : Option Addr) (cap : Nat), e = .returned (.slice ao l.length cap) ∧ l.length ≤ n ∧ OwnK w' w.heap.size (.slice ao l.length cap) l.length l ∧ Below w.heap.size w w'

set_option maxHeartbeats 2000000 in
set_option maxRecDepth 20000 in
theorem l5Tokens_any (s : ByteArray) (w : World) (hs : s.size ≤ 5000) :
    Calls Try.prog 45 #[.string s] w (TkDrawn w s.size) := by
  have HE : Hid (OwnK (w.alloc (.cells #[] 39)) w.heap.size (.slice (some ⟨w.heap.size, 0, none⟩) 0 0) 0 []) := tk_own_none w
  have HM : Hid (∀ (A : Nat) (w : World), A ≤ s.size → Calls Try.prog 82 #[.string s, .int .i64 (A : Int)] w fun e w' => (∃ n d : Nat, e = .returned (.tuple #[.int .i64 (n : Int), .int .i64 (d : Int)]) ∧ n ≤ 258 ∧ A + n ≤ s.size) ∧ ∃ q, w' = w.drewN q) := fun A w h => l5Best_any s A w (by omega) h
  obtain ⟨i0, hi0, hz0, hz1, hz2⟩ := info_parts info_tok
  go_enter Try.func45, Try.ntmps45
  go_wp2_with fail
  go_loopw [3, 4] (fun o i wr => ∃ (A : Nat) (l : List Tk) (ao : Option Addr) (cap : Nat), A ≤ s.size ∧ l.length ≤ A ∧ i = .int .i64 (A : Int) ∧ o = .slice ao l.length cap ∧ Hid (OwnK wr w.heap.size (.slice ao l.length cap) l.length l ∧ Below w.heap.size w wr)) (fun _ i _ => s.size - (intOf i).toNat)
  case atStart => exact ⟨0, [], _, _, Nat.zero_le _, Nat.zero_le _, rfl, rfl, HE.out, (Below.refl _ _).alloc (Nat.le_refl _) _⟩
  case round =>
    obtain ⟨A, l, ao, cap, hA, hlA, rfl, rfl, HS⟩ := hrel
    clear HE
    by_cases hlt : A < s.size
    · have hlti : (A : Int) < (s.size : Int) := by omega
      have HMH : Hid (Calls Try.prog 82 #[.string s, .int .i64 (A : Int)] wr fun e w' => (∃ n d : Nat, e = .returned (.tuple #[.int .i64 (n : Int), .int .i64 (d : Int)]) ∧ n ≤ 258 ∧ A + n ≤ s.size) ∧ ∃ q, w' = wr.drewN q) := HM.out A wr hA
      go_wp2_with fail
      refine HMH.out.mono ?_
      rintro e w2 ⟨⟨n, d, rfl, hn1, hn2⟩, q2, hq2⟩
      have hown : OwnK w2 w.heap.size (.slice ao l.length cap) l.length l := by rw [hq2]; exact HS.out.1
      have hbel : Below w.heap.size w w2 := by rw [hq2]; exact below_drewN HS.out.2 q2
      have hbs : w.heap.size ≤ w2.heap.size := hbel.size
      have hlt0 := World.ownsRow.lt (show World.ownsRow _ _ _ _ _ _ _ from hown)
      have hm63 : l.length + 1 ≤ maxLen := by unfold maxLen; omega
      have hlen : (l.length + 1) * 24 ≤ 140737488355328 := by omega
      clear hq2 HMH HS
      by_cases hn3 : n < 3
      · have hn3i : (n : Int) < 3 := by omega
        obtain ⟨c, hc⟩ : ∃ c : Nat, c = (s[A]).toNat := ⟨_, rfl⟩
        have hcb : c < 256 := by rw [hc]; exact UInt8.toNat_lt _
        have hc' : (s[A]).toNat = c := hc.symm
        have hone : ∀ u ∈ [Value.int .i64 (c : Int), Value.int .i64 0, Value.int .i64 0], u.oneCell' = true := by intro u hu; simp at hu; rcases hu with rfl | rfl | rfl <;> rfl
        clear hc
        go_wp2_with (at_builtin; refine wpList_append_lies _ (by rfl) _ _ _ (by rfl) w.heap.size 39 i0 (.agg #[.int .i64 0, .int .i64 0, .int .i64 0]) 3 24 Try.underlying31 hi0 hz0 hz1 hz2 rfl (by decide) _ l.length (tkCells l) (by rfl) (World.ownsRow.alloc (show World.ownsRow _ _ _ _ _ _ _ from hown) _) ⟨w2.heap.size, 0, none⟩ 1 1 [.int .i64 (c : Int), .int .i64 0, .int .i64 0] (by rfl) rfl (World.news_of_block (heap_alloc_new _ _)) hone (by decide) hm63 hlen (by simp; omega) _ rfl ?_)
        intro g cap2 w4 hown4 hgrow hat hlt4
        have hb4 : Below w.heap.size w w4 := (hbel.alloc hbs _).grown hgrow (by simp; omega) (fun k hk => (hlt0 k hk).1)
        have HF4 : Hid (OwnK w4 w.heap.size (.slice (some ⟨g, 0, none⟩) (l.length + 1) cap2) (l.length + 1) (l ++ [((c : Int), 0, 0)]) ∧ Below w.heap.size w w4) := ⟨OwnK.more hown4, hb4⟩
        clear hown4 hgrow hat hlt0 hown hbel hone hm63 hlen hlt4 hb4
        go_wp2_with fail
        go_roundw
        case rel => exact ⟨A + 1, l ++ [((c : Int), 0, 0)], some ⟨g, 0, none⟩, cap2, by omega, by rw [List.length_append]; show l.length + 1 ≤ _; omega, by go_num, by rw [List.length_append]; rfl, by rw [List.length_append]; exact HF4.out⟩
        case measure => simp [intOf]; omega
      · have hn3i : ¬ (n : Int) < 3 := by omega
        have hone : ∀ u ∈ [Value.int .i64 0, Value.int .i64 (n : Int), Value.int .i64 (d : Int)], u.oneCell' = true := by intro u hu; simp at hu; rcases hu with rfl | rfl | rfl <;> rfl
        go_wp2_with (at_builtin; refine wpList_append_lies _ (by rfl) _ _ _ (by rfl) w.heap.size 39 i0 (.agg #[.int .i64 0, .int .i64 0, .int .i64 0]) 3 24 Try.underlying31 hi0 hz0 hz1 hz2 rfl (by decide) _ l.length (tkCells l) (by rfl) (World.ownsRow.alloc (show World.ownsRow _ _ _ _ _ _ _ from hown) _) ⟨w2.heap.size, 0, none⟩ 1 1 [.int .i64 0, .int .i64 (n : Int), .int .i64 (d : Int)] (by rfl) rfl (World.news_of_block (heap_alloc_new _ _)) hone (by decide) hm63 hlen (by simp; omega) _ rfl ?_)
        intro g cap2 w4 hown4 hgrow hat hlt4
        have hb4 : Below w.heap.size w w4 := (hbel.alloc hbs _).grown hgrow (by simp; omega) (fun k hk => (hlt0 k hk).1)
        have HF4 : Hid (OwnK w4 w.heap.size (.slice (some ⟨g, 0, none⟩) (l.length + 1) cap2) (l.length + 1) (l ++ [(0, (n : Int), (d : Int))]) ∧ Below w.heap.size w w4) := ⟨OwnK.more hown4, hb4⟩
        clear hown4 hgrow hat hlt0 hown hbel hone hm63 hlen hlt4 hb4
        go_wp2_with fail
        go_roundw
        case rel => exact ⟨A + n, l ++ [(0, (n : Int), (d : Int))], some ⟨g, 0, none⟩, cap2, by omega, by rw [List.length_append]; show l.length + 1 ≤ _; omega, by go_num, by rw [List.length_append]; rfl, by rw [List.length_append]; exact HF4.out⟩
        case measure => simp [intOf]; omega
    · have hlti : ¬ (A : Int) < (s.size : Int) := by omega
      have HF : Hid (TkDrawn w s.size (.returned (.slice ao l.length cap)) wr) := ⟨l, ao, cap, rfl, by omega, HS.out.1, HS.out.2⟩
      clear HS
      go_wp2_with fail
      go_ret
      exact HF.out

set_option maxHeartbeats 1000000 in
theorem spec_tokensOf_some (s : ByteArray) (w : World) (hs : s.size ≤ 9001) :
    Calls Try.prog 14 #[.string s] w (TkDrawn w 5000) := by
  by_cases h : (s.size : Int) > 5000
  · have d : decide ((s.size : Int) > 5000) = true := decide_eq_true h
    have HF : Hid (TkDrawn w 5000 (.returned (.slice (some ⟨w.heap.size, 0, none⟩) 0 0)) (w.alloc (.cells #[] 39))) := ⟨[], _, _, rfl, Nat.zero_le _, tk_own_none w, (Below.refl _ _).alloc (Nat.le_refl _) _⟩
    go_enter Try.func14, Try.ntmps14
    go_wp2_with fail
    go_ret
    exact HF.out
  · have d : decide ((s.size : Int) > 5000) = false := decide_eq_false h
    have HT : Hid (Calls Try.prog 45 #[.string s] w (TkDrawn w s.size)) := l5Tokens_any s w (by omega)
    go_enter Try.func14, Try.ntmps14
    go_wp2_with fail
    refine HT.out.mono ?_
    rintro e w1 ⟨l, ao, cap, rfl, h1, h2, h3⟩
    have HF : Hid (TkDrawn w 5000 (.returned (.slice ao l.length cap)) w1) := ⟨l, ao, cap, rfl, by omega, h2, h3⟩
    clear h1 h2 h3 HT
    go_wp2_with fail
    go_ret
    exact HF.out
end Go.Proofs.Ytmfnepibhhhdcaa
