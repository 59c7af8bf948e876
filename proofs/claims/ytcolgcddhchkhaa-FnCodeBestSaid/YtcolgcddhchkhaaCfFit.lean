/- CodeFit of the specification, where no number has to be halved. -/
import Derived.Test.YtcolgcddhchkhaaCfTree
import Derived.Test.YtcolgcddhchkhaaCfOnes
import Derived.Test.YtcolgcddhchkhaaInWalks
import Derived.Test.YtcolgcddhchkhaaPowWalks
import Derived.Test.YtcolgcddhchkhaaAppInts
namespace Go.Proofs.Ytcolgcddhchkhaa
open Go.RowKit

theorem own_ints' {w : World} {b n : Nat} {f : Nat → Nat} (h : Own w b n (fun i => ((f i : Nat) : Int))) : Ints w (some ⟨b, 0, none⟩) ((List.range n).map (fun i => ((f i : Nat) : Int))) := by
  refine .inr ⟨b, 0, rfl, h.1, fun i hi => ?_⟩
  rw [List.length_map, List.length_range] at hi
  rw [Nat.zero_add, List.getElem_map, List.getElem_range]
  exact (h.2 i hi).1

set_option maxHeartbeats 1000000 in
theorem l3Most_any (a : Option Addr) (n c : Nat) (l : List Int) (w : World) (h : Ints w a l) (hn : l.length = n) (hb : n ≤ 1000) (hl : ∀ z ∈ l, 0 ≤ z ∧ z ≤ 15) :
    Calls Try.prog 72 #[.slice a n c] w fun e w' => (∃ m : Nat, e = .returned (.int .i64 (m : Int)) ∧ m ≤ 15) ∧ w' = w := by
  have HN : Hid (l.length = n) := hn
  have HI : Hid (Ints w a l) := h
  have HL : Hid (∀ z ∈ l, 0 ≤ z ∧ z ≤ 15) := hl
  clear h hn hl
  go_enter Try.func72, Try.ntmps72
  go_wp2_with fail
  go_loop [3, 4] (fun v i => ∃ k m : Nat, k ≤ n ∧ m ≤ 15 ∧ i = .int .i64 (k : Int) ∧ v = .int .i64 (m : Int)) (fun _ i => n - (intOf i).toNat)
  case atStart => exact ⟨0, 0, by omega, by omega, rfl, rfl⟩
  case round =>
    obtain ⟨k, m, hk, hm, rfl, rfl⟩ := hrel
    by_cases hlt : k < n
    · have hki : (k : Int) < (n : Int) := by omega
      have hkl : k < l.length := by rw [HN.out]; exact hlt
      obtain ⟨b, off, rfl, hc⟩ : ∃ b off, a = some ⟨b, off, none⟩ ∧ w.cell? ⟨b, off + k, none⟩ = some (.int .i64 l[k]) := by
        rcases HI.out with e | ⟨b, off, e1, _, e3⟩
        · rw [e] at hkl; simp at hkl
        · exact ⟨b, off, e1, e3 k hkl⟩
      have hz := HL.out _ (List.getElem_mem hkl)
      obtain ⟨z, hzz⟩ : ∃ z : Nat, l[k] = (z : Int) := ⟨l[k].toNat, by omega⟩
      rw [hzz] at hc hz
      clear hzz
      by_cases hgt : m < z
      · have hgi : (m : Int) < (z : Int) := by omega
        go_wp2_with fail
        go_round
        case rel => exact ⟨k + 1, z, by omega, by omega, by go_num, rfl⟩
        case measure => simp [intOf]; omega
      · have hgi : ¬ (m : Int) < (z : Int) := by omega
        go_wp2_with fail
        go_round
        case rel => exact ⟨k + 1, m, by omega, by omega, by go_num, rfl⟩
        case measure => simp [intOf]; omega
    · have hki : ¬ (k : Int) < (n : Int) := by omega
      go_wp2_with fail
      go_ret
      exact ⟨⟨m, rfl, hm⟩, rfl⟩

/-- whether all have room -/
def roomB (zs : List Int) : Bool := zs.all (fun z => decide (0 ≤ z ∧ z ≤ 9000)) && decide (zs.length ≤ 300)
set_option maxHeartbeats 2000000 in
theorem l3Room_any (a : Option Addr) (n c : Nat) (l : List Int) (w : World) (h : Ints w a l) (hn : l.length = n) (hb : n ≤ 1000) :
    Calls Try.prog 44 #[.slice a n c, .int .i64 15] w fun e w' => e = .returned (.bool (roomB l)) ∧ w' = w := by
  have HN : Hid (l.length = n) := hn
  have HI : Hid (Ints w a l) := h
  clear h hn
  go_enter Try.func44, Try.ntmps44
  go_wp2_with fail
  go_loop [5, 6] (fun v i => ∃ k m : Nat, k ≤ n ∧ m ≤ k ∧ i = .int .i64 (k : Int) ∧ v = .int .i64 (m : Int) ∧ Hid (∀ i (hi : i < l.length), i < k → 0 ≤ l[i] ∧ l[i] ≤ 9000)) (fun _ i => n - (intOf i).toNat)
  case atStart => exact ⟨0, 0, by omega, by omega, rfl, rfl, fun i _ hi => by omega⟩
  case round =>
    obtain ⟨k, m, hk, hm, rfl, rfl, HA⟩ := hrel
    by_cases hlt : k < n
    · have hki : (k : Int) < (n : Int) := by omega
      have hkl : k < l.length := by rw [HN.out]; exact hlt
      obtain ⟨b, off, rfl, hc⟩ : ∃ b off, a = some ⟨b, off, none⟩ ∧ w.cell? ⟨b, off + k, none⟩ = some (.int .i64 l[k]) := by
        rcases HI.out with e | ⟨b, off, e1, _, e3⟩
        · rw [e] at hkl; simp at hkl
        · exact ⟨b, off, e1, e3 k hkl⟩
      obtain ⟨z, hz⟩ : ∃ z, z = l[k] := ⟨_, rfl⟩
      rw [← hz] at hc
      by_cases hin : 0 ≤ z ∧ z ≤ 9000
      · have HA2 : Hid (∀ i (hi : i < l.length), i < k + 1 → 0 ≤ l[i] ∧ l[i] ≤ 9000) := fun i hi hik => by
          by_cases e : i = k
          · subst e; rw [← hz]; exact hin
          · exact HA.out i hi (by omega)
        have HIN : Hid (Calls Try.prog 50 #[.int .i64 z, .int .i64 0, .int .i64 9000] w fun e w' => e = .returned (.bool true) ∧ w' = w) := l1In_yes z 0 9000 w hin.1 hin.2
        clear hz HA
        by_cases hpos : 0 < z
        · go_wp2_with fail
          refine HIN.out.mono ?_
          rintro e w1 ⟨rfl, hw1⟩
          replace hw1 := hw1.symm
          subst hw1
          go_wp2_with fail
          go_round
          case rel => exact ⟨k + 1, m + 1, by omega, by omega, by go_num, by go_num, HA2⟩
          case measure => simp [intOf]; omega
        · go_wp2_with fail
          refine HIN.out.mono ?_
          rintro e w1 ⟨rfl, hw1⟩
          replace hw1 := hw1.symm
          subst hw1
          go_wp2_with fail
          go_round
          case rel => exact ⟨k + 1, m, by omega, by omega, by go_num, rfl, HA2⟩
          case measure => simp [intOf]; omega
      · have HIN : Hid (Calls Try.prog 50 #[.int .i64 z, .int .i64 0, .int .i64 9000] w fun e w' => e = .returned (.bool false) ∧ w' = w) := l1In_no z 0 9000 w hin
        have HF : Hid (roomB l = false) := by
          show _ = _
          unfold roomB
          rw [Bool.and_eq_false_iff]
          left
          rw [List.all_eq_false]
          exact ⟨l[k], List.getElem_mem hkl, by rw [← hz]; simpa using hin⟩
        clear hz HA hin
        go_wp2_with fail
        refine HIN.out.mono ?_
        rintro e w1 ⟨rfl, hw1⟩
        replace hw1 := hw1.symm
        subst hw1
        go_wp2_with fail
        go_ret
        exact ⟨by rw [HF.out]; rfl, rfl⟩
    · have hki : ¬ (k : Int) < (n : Int) := by omega
      have hall : l.all (fun z => decide (0 ≤ z ∧ z ≤ 9000)) = true := by
        rw [List.all_eq_true]
        intro z hz
        obtain ⟨i, hi, rfl⟩ := List.getElem_of_mem hz
        simpa using HA.out i hi (by rw [HN.out] at hi; omega)
      have HF : Hid (roomB l = decide (n ≤ 300)) := by show _ = _; unfold roomB; rw [hall, HN.out]; rfl
      have HIN : Hid (Calls Try.prog 50 #[.int .i64 15, .int .i64 1, .int .i64 15] w fun e w' => e = .returned (.bool true) ∧ w' = w) := l1In_yes 15 1 15 w (by omega) (by omega)
      have HPW : Hid (Calls Try.prog 68 #[.int .i64 15] w fun e w' => e = .returned (.int .i64 32768) ∧ w' = w)   := l1Pow_any 15 w (by omega)
      have hmi : (m : Int) ≤ 32768 := by omega
      clear HA hall
      by_cases h300 : n ≤ 300
      · have h3i : (n : Int) ≤ 300 := by omega
        go_wp2_with fail
        refine HIN.out.mono ?_
        rintro e w1 ⟨rfl, hw1⟩
        replace hw1 := hw1.symm
        subst hw1
        go_wp2_with fail
        refine HPW.out.mono ?_
        rintro e w2 ⟨rfl, hw2⟩
        replace hw2 := hw2.symm
        subst hw2
        go_wp2_with fail
        go_ret
        exact ⟨by rw [HF.out, decide_eq_true h300]; rfl, rfl⟩
      · have h3i : ¬ (n : Int) ≤ 300 := by omega
        have h3d : decide ((n : Int) ≤ 300) = false := by simp; omega
        go_wp2_with fail
        refine HIN.out.mono ?_
        rintro e w1 ⟨rfl, hw1⟩
        replace hw1 := hw1.symm
        subst hw1
        go_wp2_with fail
        refine HPW.out.mono ?_
        rintro e w2 ⟨rfl, hw2⟩
        replace hw2 := hw2.symm
        subst hw2
        go_wp2_with fail
        go_ret
        exact ⟨by rw [HF.out, decide_eq_false h300]; rfl, rfl⟩

set_option maxHeartbeats 2000000 in
theorem l3Fit_any (a : Option Addr) (n c : Nat) (l : List Int) (w : World) (h : Ints w a l) (hn : l.length = n) (hb : n ≤ 300) (hz : ∀ i, i < l.length → 0 ≤ l.getD i 0 ∧ l.getD i 0 ≤ 9000) (hd : Cf.deep l ≤ 15) :
    Calls Try.prog 45 #[.slice a n c, .int .i64 15] w fun e w' => (∃ (b : Nat) (f : Nat → Nat), e = .returned (.slice (some ⟨b, 0, none⟩) n n) ∧ w.heap.size ≤ b ∧ Own w' b n (fun i => ((f i : Nat) : Int)) ∧ ∀ i, i < n → f i ≤ 15) ∧ Below w.heap.size w w' := by
  have HN : Hid (l.length = n) := hn
  have HI : Hid (Ints w a l) := h
  have HZ : Hid (∀ i, i < l.length → 0 ≤ l.getD i 0 ∧ l.getD i 0 ≤ 9000) := hz
  have HE : Hid (OwnI (w.alloc (.cells #[] 3)) w.heap.size (.slice (some ⟨w.heap.size, 0, none⟩) 0 0) 0 []) := ownI_none w
  have HIA : Hid (Ints (w.alloc (.cells #[] 3)) a l) := h.kept ((Below.refl _ _).alloc (Nat.le_refl _) _)
  clear h hn hz
  go_enter Try.func45, Try.ntmps45
  go_wp2_with (at_builtin; refine wpList_append_ints (by rfl) _ _ (by rfl) w.heap.size _ 0 [] (by rfl) HE.out a n c l (by rfl) HIA.out HN.out (by omega) (by simp) ?_)
  intro a1 c1 w1 hO1 hg1
  have HI1 : Hid (Ints w1 a1 l) := by
    obtain ⟨a7, c7, e7, h7⟩ := hO1.owns
    cases e7
    exact h7.ints
  have HB1 : Hid (Below w.heap.size w w1) := ((Below.refl _ _).alloc (Nat.le_refl _) _).trans ((Below.refl _ _).grown hg1 (by simp) (fun j hj => (World.ownsRow.lt (show World.ownsRow _ _ _ _ _ _ _ from HE.out) j hj).1))
  clear hO1 hg1 HE HIA
  go_wp2_with fail
  refine (l3Tree_any a1 c1 n l w1 HI1.out HN.out hb HZ.out).mono ?_
  rintro e w2 ⟨⟨rfl, f, hO2, hf⟩, b2⟩
  have HO2 : Hid (Own w2 w1.heap.size n (fun i => ((f i : Nat) : Int))) := hO2
  have HB2 : Hid (Below w.heap.size w w2 ∧ w.heap.size ≤ w1.heap.size) := ⟨HB1.out.trans (b2.mono HB1.out.size), HB1.out.size⟩
  have HF : Hid (∀ i, i < n → f i ≤ 15) := fun i hi => Nat.le_trans (hf i hi) hd
  have HM : Hid (Calls Try.prog 72 #[.slice (some ⟨w1.heap.size, 0, none⟩) n n] w2 fun e w' => (∃ m : Nat, e = .returned (.int .i64 (m : Int)) ∧ m ≤ 15) ∧ w' = w2) := l3Most_any _ n n _ w2 (own_ints' hO2) (by simp) (by omega) (fun z hz => by
    obtain ⟨i, hi, rfl⟩ := List.mem_map.1 hz
    have := hf i (List.mem_range.1 hi)
    omega)
  clear hO2 hf b2 HB1 HI1
  generalize w1.heap.size = B1 at *
  go_wp2_with fail
  refine wp_loop_once ?_
  go_wp2_with fail
  refine HM.out.mono ?_
  rintro e w3 ⟨⟨m, rfl, hm⟩, hw3⟩
  subst hw3
  have hmi : ¬ (15 : Int) < (m : Int) := by omega
  clear HM
  go_wp2_with fail
  go_ret
  exact ⟨⟨B1, f, rfl, HB2.out.2, HO2.out, HF.out⟩, HB2.out.1⟩

/-- lengths in a row of the call's own -/
def Fitted (w : World) (e : Ending) (w' : World) : Prop :=
  (∃ (b n : Nat) (f : Nat → Nat), e = .returned (.slice (some ⟨b, 0, none⟩) n n) ∧ w.heap.size ≤ b ∧ Own w' b n (fun i => ((f i : Nat) : Int)) ∧ n ≤ 300) ∧ Below w.heap.size w w'
theorem room_all {l : List Int} (h : roomB l = true) : l.length ≤ 300 ∧ ∀ i, i < l.length → 0 ≤ l.getD i 0 ∧ l.getD i 0 ≤ 9000 := by
  unfold roomB at h
  simp only [Bool.and_eq_true, List.all_eq_true, decide_eq_true_eq] at h
  refine ⟨h.2, fun i hi => ?_⟩
  rw [List.getD_eq_getElem?_getD, List.getElem?_eq_getElem hi]
  exact h.1 _ (List.getElem_mem hi)

set_option maxHeartbeats 1000000 in
theorem spec_codeFit15 (a : Option Addr) (n c : Nat) (l : List Int) (w : World) (h : Ints w a l) (hn : l.length = n) (hb : n ≤ 1000) (hd : roomB l = true → Cf.deep l ≤ 15) :
    Calls Try.prog 12 #[.slice a n c, .int .i64 15] w (Fitted w) := by
  have HR : Hid (Calls Try.prog 44 #[.slice a n c, .int .i64 15] w fun e w' => e = .returned (.bool (roomB l)) ∧ w' = w) := l3Room_any a n c l w h hn hb
  cases hr : roomB l with
  | false =>
    rw [hr] at HR
    have HF : Hid (Fitted w (.returned (.slice (some ⟨w.heap.size, 0, none⟩) 0 0)) (w.alloc (.cells #[] 3))) := ⟨⟨w.heap.size, 0, fun _ => 0, rfl, Nat.le_refl _, ⟨by simp, fun i hi => by omega⟩, by omega⟩, (Below.refl _ _).alloc (Nat.le_refl _) _⟩
    clear h hn hd hr
    go_enter Try.func12, Try.ntmps12
    go_wp2_with fail
    refine HR.out.mono ?_
    rintro e w1 ⟨rfl, hw1⟩
    subst hw1
    go_wp2_with fail
    go_ret
    exact HF.out
  | true =>
    rw [hr] at HR
    obtain ⟨h3, hz⟩ := room_all hr
    have HFT : Hid (Calls Try.prog 45 #[.slice a n c, .int .i64 15] w fun e w' => (∃ (b : Nat) (f : Nat → Nat), e = .returned (.slice (some ⟨b, 0, none⟩) n n) ∧ w.heap.size ≤ b ∧ Own w' b n (fun i => ((f i : Nat) : Int)) ∧ ∀ i, i < n → f i ≤ 15) ∧ Below w.heap.size w w') := l3Fit_any a n c l w h hn (by omega) hz (hd hr)
    have hn3 : n ≤ 300 := by omega
    clear h hn hd hr hz h3
    go_enter Try.func12, Try.ntmps12
    go_wp2_with fail
    refine HR.out.mono ?_
    rintro e w1 ⟨rfl, hw1⟩
    subst hw1
    go_wp2_with fail
    refine HFT.out.mono ?_
    rintro e w2 ⟨⟨b, f, rfl, hbl, hO, -⟩, b2⟩
    have HF : Hid (Fitted w1 (.returned (.slice (some ⟨b, 0, none⟩) n n)) w2) := ⟨⟨b, n, f, rfl, hbl, hO, hn3⟩, b2⟩
    clear hO b2 HFT hbl
    go_wp2_with fail
    go_ret
    exact HF.out

namespace Cf
theorem init_ones (n : Nat) : ∀ k, k ≤ n → (init (List.replicate n (1 : Int)) k).map (fun p : Nd => p.1) = List.replicate k (1, 0)
  | 0, _ => rfl
  | k + 1, h => by
    have ih := init_ones n k (by omega)
    have e : (List.replicate n (1 : Int)).getD k 0 = 1 := by
      rw [List.getD_eq_getElem?_getD, List.getElem?_replicate, if_pos (by omega)]; rfl
    unfold init
    rw [e, if_pos (by omega), List.map_append, ih, List.replicate_succ']
    rfl
theorem deep_ones : deep (List.replicate 300 (1 : Int)) ≤ 15 := by
  unfold deep
  rw [List.length_replicate, init_ones 300 300 (Nat.le_refl _)]
  exact Nat.max_le.2 ⟨by omega, fin_ones⟩
theorem deep_few {l : List Int} (h : l.length ≤ 14) : deep l ≤ 15 := by
  unfold deep
  refine Nat.max_le.2 ⟨by omega, ?_⟩
  have h1 := fin_le 13 ((init l l.length).map (fun p : Nd => p.1)) (by rw [List.length_map]; have := init_len l l.length; omega)
  have h2 : maxh ((init l l.length).map (fun p : Nd => p.1)) ≤ 0 := maxh_le _ (fun x hx => by
    obtain ⟨p, hp, rfl⟩ := List.mem_map.1 hx
    have := (init_mem l _ p hp).1
    show p.1.2 ≤ 0
    omega)
  omega
end Cf
/-- numbers that a code can be fitted to -/
def OftenOk (l : List Int) : Prop := roomB l = true → Cf.deep l ≤ 15
theorem often_few {l : List Int} (h : l.length ≤ 14) : OftenOk l := fun _ => Cf.deep_few h
theorem often_ones (T : Nat) (h : T = 300 ∨ T = 301) : OftenOk (List.replicate T (1 : Int)) := fun hr => by
  rcases h with rfl | rfl
  · exact Cf.deep_ones
  · unfold roomB at hr
    rw [Bool.and_eq_true] at hr
    have h2 := hr.2
    rw [List.length_replicate] at h2
    exact absurd h2 (by decide)
end Go.Proofs.Ytcolgcddhchkhaa
