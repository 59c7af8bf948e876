/- Texts laid together: CfFit, DrawOften, DrawLen, DrawCodes, GtBits, BpBack, GtHit, GtFind, GtTop, CpBack, WiBits, CpTop, CpSpec, BpImplTop, BpTop, LawCodePut. -/
import Derived.Test.YtjdilanmkgodnaaCfTree
import Derived.Test.YtjdilanmkgodnaaCfOnes
import Derived.Test.YtjdilanmkgodnaaInWalks
import Derived.Test.YtjdilanmkgodnaaPowWalks
import Derived.Test.YtjdilanmkgodnaaAppInts
import Derived.Test.YtjdilanmkgodnaaDrawRow
import Derived.Test.YtjdilanmkgodnaaAppOne
import Derived.Test.YtjdilanmkgodnaaDrawWalks
import Derived.Test.YtjdilanmkgodnaaGtTree
import Derived.Test.YtjdilanmkgodnaaBgMath2
import Derived.Test.YtjdilanmkgodnaaCpMath
import Derived.Test.YtjdilanmkgodnaaBgBits
import Derived.Test.YtjdilanmkgodnaaBpAnswer
import Derived.Test.YtjdilanmkgodnaaOnlyB
import Derived.Test.YtjdilanmkgodnaaBitRow
import Derived.Laws.StructEq
import Derived.Test.YtjdilanmkgodnaaCpImpl
import Derived.Test.YtjdilanmkgodnaaMakeWalks
import Derived.Test.YtjdilanmkgodnaaSymWalks
import Derived.Test.YtjdilanmkgodnaaBitOwn
import Derived.Test.YtjdilanmkgodnaaBpMove
/- CodeFit of the specification, where no number has to be halved. -/
namespace Go.Proofs.Ytjdilanmkgodnaa
open Go.RowKit

theorem own_ints' {w : World} {b n : Nat} {f : Nat → Nat} (h : Own w b n (fun i => ((f i : Nat) : Int))) : Ints w (some ⟨b, 0, none⟩) ((List.range n).map (fun i => ((f i : Nat) : Int))) := by
  refine .inr ⟨b, 0, rfl, h.1, fun i hi => ?_⟩
  rw [List.length_map, List.length_range] at hi
  rw [Nat.zero_add, List.getElem_map, List.getElem_range]
  exact (h.2 i hi).1

set_option maxHeartbeats 1000000 in
theorem l3Most_any (a : Option Addr) (n c : Nat) (l : List Int) (w : World) (h : Ints w a l) (hn : l.length = n) (hb : n ≤ 1000) (hl : ∀ z ∈ l, 0 ≤ z ∧ z ≤ 15) :
    Calls Try.prog 65 #[.slice a n c] w fun e w' => (∃ m : Nat, e = .returned (.int .i64 (m : Int)) ∧ m ≤ 15) ∧ w' = w := by
  have HN : Hid (l.length = n) := hn
  have HI : Hid (Ints w a l) := h
  have HL : Hid (∀ z ∈ l, 0 ≤ z ∧ z ≤ 15) := hl
  clear h hn hl
  go_enter Try.func65, Try.ntmps65
  go_wp2_with fail
  go_loop [3, 4] (fun v i => ∃ k m : Nat, k ≤ n ∧ m ≤ 15 ∧ i = .int .i64 (k : Int) ∧ v = .int .i64 (m : Int)) (fun _ i => n - (intOf i).toNat)
  case atStart => exact ⟨0, 0, by omega, by omega, rfl, rfl⟩
  case round =>
    obtain ⟨k, m, hk, hm, rfl, rfl⟩ := hrel
    by_cases hlt : k < n
    · have hki : (k : Int) < (n : Int) := by omega
      have hkl : k < l.length := by rw [HN.out]; exact hlt
      obtain ⟨b, off, rfl, hc⟩ : ∃ b off, a = some ⟨b, off, none⟩ ∧ w.cell? ⟨b, off + k, none⟩ = some (.int .i64 l[k]) := by
        rcases HI.out with e | ⟨b, off, e1, _, e3⟩
        · rw [e] at hkl; simp at hkl
        · exact ⟨b, off, e1, e3 k hkl⟩
      have hz := HL.out _ (List.getElem_mem hkl)
      obtain ⟨z, hzz⟩ : ∃ z : Nat, l[k] = (z : Int) := ⟨l[k].toNat, by omega⟩
      rw [hzz] at hc hz
      clear hzz
      by_cases hgt : m < z
      · have hgi : (m : Int) < (z : Int) := by omega
        go_wp2_with fail
        go_round
        case rel => exact ⟨k + 1, z, by omega, by omega, by go_num, rfl⟩
        case measure => simp [intOf]; omega
      · have hgi : ¬ (m : Int) < (z : Int) := by omega
        go_wp2_with fail
        go_round
        case rel => exact ⟨k + 1, m, by omega, by omega, by go_num, rfl⟩
        case measure => simp [intOf]; omega
    · have hki : ¬ (k : Int) < (n : Int) := by omega
      go_wp2_with fail
      go_ret
      exact ⟨⟨m, rfl, hm⟩, rfl⟩

/-- whether all have room -/
def roomB (zs : List Int) : Bool := zs.all (fun z => decide (0 ≤ z ∧ z ≤ 9000)) && decide (zs.length ≤ 300)
set_option maxHeartbeats 2000000 in
theorem l3Room_any (a : Option Addr) (n c : Nat) (l : List Int) (w : World) (h : Ints w a l) (hn : l.length = n) (hb : n ≤ 1000) :
    Calls Try.prog 61 #[.slice a n c, .int .i64 15] w fun e w' => e = .returned (.bool (roomB l)) ∧ w' = w := by
  have HN : Hid (l.length = n) := hn
  have HI : Hid (Ints w a l) := h
  clear h hn
  go_enter Try.func61, Try.ntmps61
  go_wp2_with fail
  go_loop [5, 6] (fun v i => ∃ k m : Nat, k ≤ n ∧ m ≤ k ∧ i = .int .i64 (k : Int) ∧ v = .int .i64 (m : Int) ∧ Hid (∀ i (hi : i < l.length), i < k → 0 ≤ l[i] ∧ l[i] ≤ 9000)) (fun _ i => n - (intOf i).toNat)
  case atStart => exact ⟨0, 0, by omega, by omega, rfl, rfl, fun i _ hi => by omega⟩
  case round =>
    obtain ⟨k, m, hk, hm, rfl, rfl, HA⟩ := hrel
    by_cases hlt : k < n
    · have hki : (k : Int) < (n : Int) := by omega
      have hkl : k < l.length := by rw [HN.out]; exact hlt
      obtain ⟨b, off, rfl, hc⟩ : ∃ b off, a = some ⟨b, off, none⟩ ∧ w.cell? ⟨b, off + k, none⟩ = some (.int .i64 l[k]) := by
        rcases HI.out with e | ⟨b, off, e1, _, e3⟩
        · rw [e] at hkl; simp at hkl
        · exact ⟨b, off, e1, e3 k hkl⟩
      obtain ⟨z, hz⟩ : ∃ z, z = l[k] := ⟨_, rfl⟩
      rw [← hz] at hc
      by_cases hin : 0 ≤ z ∧ z ≤ 9000
      · have HA2 : Hid (∀ i (hi : i < l.length), i < k + 1 → 0 ≤ l[i] ∧ l[i] ≤ 9000) := fun i hi hik => by
          by_cases e : i = k
          · subst e; rw [← hz]; exact hin
          · exact HA.out i hi (by omega)
        have HIN : Hid (Calls Try.prog 42 #[.int .i64 z, .int .i64 0, .int .i64 9000] w fun e w' => e = .returned (.bool true) ∧ w' = w) := l1In_yes z 0 9000 w hin.1 hin.2
        clear hz HA
        by_cases hpos : 0 < z
        · go_wp2_with fail
          refine HIN.out.mono ?_
          rintro e w1 ⟨rfl, hw1⟩
          replace hw1 := hw1.symm
          subst hw1
          go_wp2_with fail
          go_round
          case rel => exact ⟨k + 1, m + 1, by omega, by omega, by go_num, by go_num, HA2⟩
          case measure => simp [intOf]; omega
        · go_wp2_with fail
          refine HIN.out.mono ?_
          rintro e w1 ⟨rfl, hw1⟩
          replace hw1 := hw1.symm
          subst hw1
          go_wp2_with fail
          go_round
          case rel => exact ⟨k + 1, m, by omega, by omega, by go_num, rfl, HA2⟩
          case measure => simp [intOf]; omega
      · have HIN : Hid (Calls Try.prog 42 #[.int .i64 z, .int .i64 0, .int .i64 9000] w fun e w' => e = .returned (.bool false) ∧ w' = w) := l1In_no z 0 9000 w hin
        have HF : Hid (roomB l = false) := by
          show _ = _
          unfold roomB
          rw [Bool.and_eq_false_iff]
          left
          rw [List.all_eq_false]
          exact ⟨l[k], List.getElem_mem hkl, by rw [← hz]; simpa using hin⟩
        clear hz HA hin
        go_wp2_with fail
        refine HIN.out.mono ?_
        rintro e w1 ⟨rfl, hw1⟩
        replace hw1 := hw1.symm
        subst hw1
        go_wp2_with fail
        go_ret
        exact ⟨by rw [HF.out]; rfl, rfl⟩
    · have hki : ¬ (k : Int) < (n : Int) := by omega
      have hall : l.all (fun z => decide (0 ≤ z ∧ z ≤ 9000)) = true := by
        rw [List.all_eq_true]
        intro z hz
        obtain ⟨i, hi, rfl⟩ := List.getElem_of_mem hz
        simpa using HA.out i hi (by rw [HN.out] at hi; omega)
      have HF : Hid (roomB l = decide (n ≤ 300)) := by show _ = _; unfold roomB; rw [hall, HN.out]; rfl
      have HIN : Hid (Calls Try.prog 42 #[.int .i64 15, .int .i64 1, .int .i64 15] w fun e w' => e = .returned (.bool true) ∧ w' = w) := l1In_yes 15 1 15 w (by omega) (by omega)
      have HPW : Hid (Calls Try.prog 50 #[.int .i64 15] w fun e w' => e = .returned (.int .i64 32768) ∧ w' = w)   := l1Pow_any 15 w (by omega)
      have hmi : (m : Int) ≤ 32768 := by omega
      clear HA hall
      by_cases h300 : n ≤ 300
      · have h3i : (n : Int) ≤ 300 := by omega
        go_wp2_with fail
        refine HIN.out.mono ?_
        rintro e w1 ⟨rfl, hw1⟩
        replace hw1 := hw1.symm
        subst hw1
        go_wp2_with fail
        refine HPW.out.mono ?_
        rintro e w2 ⟨rfl, hw2⟩
        replace hw2 := hw2.symm
        subst hw2
        go_wp2_with fail
        go_ret
        exact ⟨by rw [HF.out, decide_eq_true h300]; rfl, rfl⟩
      · have h3i : ¬ (n : Int) ≤ 300 := by omega
        have h3d : decide ((n : Int) ≤ 300) = false := by simp; omega
        go_wp2_with fail
        refine HIN.out.mono ?_
        rintro e w1 ⟨rfl, hw1⟩
        replace hw1 := hw1.symm
        subst hw1
        go_wp2_with fail
        refine HPW.out.mono ?_
        rintro e w2 ⟨rfl, hw2⟩
        replace hw2 := hw2.symm
        subst hw2
        go_wp2_with fail
        go_ret
        exact ⟨by rw [HF.out, decide_eq_false h300]; rfl, rfl⟩

set_option maxHeartbeats 2000000 in
theorem l3Fit_any (a : Option Addr) (n c : Nat) (l : List Int) (w : World) (h : Ints w a l) (hn : l.length = n) (hb : n ≤ 300) (hz : ∀ i, i < l.length → 0 ≤ l.getD i 0 ∧ l.getD i 0 ≤ 9000) (hd : Cf.deep l ≤ 15) :
    Calls Try.prog 62 #[.slice a n c, .int .i64 15] w fun e w' => (∃ (b : Nat) (f : Nat → Nat), e = .returned (.slice (some ⟨b, 0, none⟩) n n) ∧ w.heap.size ≤ b ∧ Own w' b n (fun i => ((f i : Nat) : Int)) ∧ ∀ i, i < n → f i ≤ 15) ∧ Below w.heap.size w w' := by
  have HN : Hid (l.length = n) := hn
  have HI : Hid (Ints w a l) := h
  have HZ : Hid (∀ i, i < l.length → 0 ≤ l.getD i 0 ∧ l.getD i 0 ≤ 9000) := hz
  have HE : Hid (OwnI (w.alloc (.cells #[] 3)) w.heap.size (.slice (some ⟨w.heap.size, 0, none⟩) 0 0) 0 []) := ownI_none w
  have HIA : Hid (Ints (w.alloc (.cells #[] 3)) a l) := h.kept ((Below.refl _ _).alloc (Nat.le_refl _) _)
  clear h hn hz
  go_enter Try.func62, Try.ntmps62
  go_wp2_with (at_builtin; refine wpList_append_ints (by rfl) _ _ (by rfl) w.heap.size _ 0 [] (by rfl) HE.out a n c l (by rfl) HIA.out HN.out (by omega) (by simp) ?_)
  intro a1 c1 w1 hO1 hg1
  have HI1 : Hid (Ints w1 a1 l) := by
    obtain ⟨a7, c7, e7, h7⟩ := hO1.owns
    cases e7
    exact h7.ints
  have HB1 : Hid (Below w.heap.size w w1) := ((Below.refl _ _).alloc (Nat.le_refl _) _).trans ((Below.refl _ _).grown hg1 (by simp) (fun j hj => (World.ownsRow.lt (show World.ownsRow _ _ _ _ _ _ _ from HE.out) j hj).1))
  clear hO1 hg1 HE HIA
  go_wp2_with fail
  refine (l3Tree_any a1 c1 n l w1 HI1.out HN.out hb HZ.out).mono ?_
  rintro e w2 ⟨⟨rfl, f, hO2, hf⟩, b2⟩
  have HO2 : Hid (Own w2 w1.heap.size n (fun i => ((f i : Nat) : Int))) := hO2
  have HB2 : Hid (Below w.heap.size w w2 ∧ w.heap.size ≤ w1.heap.size) := ⟨HB1.out.trans (b2.mono HB1.out.size), HB1.out.size⟩
  have HF : Hid (∀ i, i < n → f i ≤ 15) := fun i hi => Nat.le_trans (hf i hi) hd
  have HM : Hid (Calls Try.prog 65 #[.slice (some ⟨w1.heap.size, 0, none⟩) n n] w2 fun e w' => (∃ m : Nat, e = .returned (.int .i64 (m : Int)) ∧ m ≤ 15) ∧ w' = w2) := l3Most_any _ n n _ w2 (own_ints' hO2) (by simp) (by omega) (fun z hz => by
    obtain ⟨i, hi, rfl⟩ := List.mem_map.1 hz
    have := hf i (List.mem_range.1 hi)
    omega)
  clear hO2 hf b2 HB1 HI1
  generalize w1.heap.size = B1 at *
  go_wp2_with fail
  refine wp_loop_once ?_
  go_wp2_with fail
  refine HM.out.mono ?_
  rintro e w3 ⟨⟨m, rfl, hm⟩, hw3⟩
  subst hw3
  have hmi : ¬ (15 : Int) < (m : Int) := by omega
  clear HM
  go_wp2_with fail
  go_ret
  exact ⟨⟨B1, f, rfl, HB2.out.2, HO2.out, HF.out⟩, HB2.out.1⟩

/-- lengths in a row of the call's own -/
def Fitted (w : World) (e : Ending) (w' : World) : Prop :=
  (∃ (b n : Nat) (f : Nat → Nat), e = .returned (.slice (some ⟨b, 0, none⟩) n n) ∧ w.heap.size ≤ b ∧ Own w' b n (fun i => ((f i : Nat) : Int)) ∧ n ≤ 300) ∧ Below w.heap.size w w'
theorem room_all {l : List Int} (h : roomB l = true) : l.length ≤ 300 ∧ ∀ i, i < l.length → 0 ≤ l.getD i 0 ∧ l.getD i 0 ≤ 9000 := by
  unfold roomB at h
  simp only [Bool.and_eq_true, List.all_eq_true, decide_eq_true_eq] at h
  refine ⟨h.2, fun i hi => ?_⟩
  rw [List.getD_eq_getElem?_getD, List.getElem?_eq_getElem hi]
  exact h.1 _ (List.getElem_mem hi)

set_option maxHeartbeats 1000000 in
theorem spec_codeFit15 (a : Option Addr) (n c : Nat) (l : List Int) (w : World) (h : Ints w a l) (hn : l.length = n) (hb : n ≤ 1000) (hd : roomB l = true → Cf.deep l ≤ 15) :
    Calls Try.prog 48 #[.slice a n c, .int .i64 15] w (Fitted w) := by
  have HR : Hid (Calls Try.prog 61 #[.slice a n c, .int .i64 15] w fun e w' => e = .returned (.bool (roomB l)) ∧ w' = w) := l3Room_any a n c l w h hn hb
  cases hr : roomB l with
  | false =>
    rw [hr] at HR
    have HF : Hid (Fitted w (.returned (.slice (some ⟨w.heap.size, 0, none⟩) 0 0)) (w.alloc (.cells #[] 3))) := ⟨⟨w.heap.size, 0, fun _ => 0, rfl, Nat.le_refl _, ⟨by simp, fun i hi => by omega⟩, by omega⟩, (Below.refl _ _).alloc (Nat.le_refl _) _⟩
    clear h hn hd hr
    go_enter Try.func48, Try.ntmps48
    go_wp2_with fail
    refine HR.out.mono ?_
    rintro e w1 ⟨rfl, hw1⟩
    subst hw1
    go_wp2_with fail
    go_ret
    exact HF.out
  | true =>
    rw [hr] at HR
    obtain ⟨h3, hz⟩ := room_all hr
    have HFT : Hid (Calls Try.prog 62 #[.slice a n c, .int .i64 15] w fun e w' => (∃ (b : Nat) (f : Nat → Nat), e = .returned (.slice (some ⟨b, 0, none⟩) n n) ∧ w.heap.size ≤ b ∧ Own w' b n (fun i => ((f i : Nat) : Int)) ∧ ∀ i, i < n → f i ≤ 15) ∧ Below w.heap.size w w') := l3Fit_any a n c l w h hn (by omega) hz (hd hr)
    have hn3 : n ≤ 300 := by omega
    clear h hn hd hr hz h3
    go_enter Try.func48, Try.ntmps48
    go_wp2_with fail
    refine HR.out.mono ?_
    rintro e w1 ⟨rfl, hw1⟩
    subst hw1
    go_wp2_with fail
    refine HFT.out.mono ?_
    rintro e w2 ⟨⟨b, f, rfl, hbl, hO, -⟩, b2⟩
    have HF : Hid (Fitted w1 (.returned (.slice (some ⟨b, 0, none⟩) n n)) w2) := ⟨⟨b, n, f, rfl, hbl, hO, hn3⟩, b2⟩
    clear hO b2 HFT hbl
    go_wp2_with fail
    go_ret
    exact HF.out

namespace Cf
theorem init_ones (n : Nat) : ∀ k, k ≤ n → (init (List.replicate n (1 : Int)) k).map (fun p : Nd => p.1) = List.replicate k (1, 0)
  | 0, _ => rfl
  | k + 1, h => by
    have ih := init_ones n k (by omega)
    have e : (List.replicate n (1 : Int)).getD k 0 = 1 := by
      rw [List.getD_eq_getElem?_getD, List.getElem?_replicate, if_pos (by omega)]; rfl
    unfold init
    rw [e, if_pos (by omega), List.map_append, ih, List.replicate_succ']
    rfl
theorem deep_ones : deep (List.replicate 300 (1 : Int)) ≤ 15 := by
  unfold deep
  rw [List.length_replicate, init_ones 300 300 (Nat.le_refl _)]
  exact Nat.max_le.2 ⟨by omega, fin_ones⟩
theorem deep_few {l : List Int} (h : l.length ≤ 14) : deep l ≤ 15 := by
  unfold deep
  refine Nat.max_le.2 ⟨by omega, ?_⟩
  have h1 := fin_le 13 ((init l l.length).map (fun p : Nd => p.1)) (by rw [List.length_map]; have := init_len l l.length; omega)
  have h2 : maxh ((init l l.length).map (fun p : Nd => p.1)) ≤ 0 := maxh_le _ (fun x hx => by
    obtain ⟨p, hp, rfl⟩ := List.mem_map.1 hx
    have := (init_mem l _ p hp).1
    show p.1.2 ≤ 0
    omega)
  omega
end Cf
/-- numbers that a code can be fitted to -/
def OftenOk (l : List Int) : Prop := roomB l = true → Cf.deep l ≤ 15
theorem often_few {l : List Int} (h : l.length ≤ 14) : OftenOk l := fun _ => Cf.deep_few h
theorem often_ones (T : Nat) (h : T = 300 ∨ T = 301) : OftenOk (List.replicate T (1 : Int)) := fun hr => by
  rcases h with rfl | rfl
  · exact Cf.deep_ones
  · unfold roomB at hr
    rw [Bool.and_eq_true] at hr
    have h2 := hr.2
    rw [List.length_replicate] at h2
    exact absurd h2 (by decide)
end Go.Proofs.Ytjdilanmkgodnaa

/- How often each comes, drawn. -/
namespace Go.Proofs.Ytjdilanmkgodnaa
open Go.RowKit

theorem five_cell (W : World) (a b c d e : Int) (y : Nat) (hy : y < 5) : ∃ v : Int, (W.alloc (.cells #[.int .i64 a, .int .i64 b, .int .i64 c, .int .i64 d, .int .i64 e] 3)).cell? ⟨W.heap.size, y, none⟩ = some (.int .i64 v) := by
  rw [World.cell?_alloc_at _ _ _ _ rfl]
  have : y = 0 ∨ y = 1 ∨ y = 2 ∨ y = 3 ∨ y = 4 := by omega
  rcases this with rfl | rfl | rfl | rfl | rfl <;> exact ⟨_, rfl⟩
theorem two_cell (W : World) (a b : Int) (y : Nat) (hy : y < 2) : ∃ v : Int, (W.alloc (.cells #[.int .i64 a, .int .i64 b] 3)).cell? ⟨W.heap.size, y, none⟩ = some (.int .i64 v) := by
  rw [World.cell?_alloc_at _ _ _ _ rfl]
  have : y = 0 ∨ y = 1 := by omega
  rcases this with rfl | rfl <;> exact ⟨_, rfl⟩

set_option maxHeartbeats 1000000 in
theorem l4Same_own (z : Int) (T : Nat) (w : World) (hT : T ≤ 1000) :
    Calls Try.prog 63 #[.int .i64 z, .int .i64 (T : Int)] w fun e w' => (∃ a c, e = .returned (.slice a T c) ∧ OwnI w' w.heap.size (.slice a T c) T (List.replicate T z)) ∧ Below w.heap.size w w' := by
  have HE : Hid (OwnI _ _ _ 0 []) := ownI_none w
  go_enter Try.func63, Try.ntmps63
  go_wp2_with fail
  go_loopw [5, 6] (fun v i wr => ∃ k : Nat, k ≤ T ∧ i = .int .i64 (k : Int) ∧ OwnI wr w.heap.size v k (List.replicate k z) ∧ Below w.heap.size w wr) (fun _ i _ => T - (intOf i).toNat)
  case atStart => exact ⟨0, Nat.zero_le _, rfl, HE.out, (Below.refl _ _).alloc (Nat.le_refl _) _⟩
  case round =>
    obtain ⟨k, hk, rfl, hown, hbel⟩ := hrel
    clear HE
    by_cases hlt : k < T
    · have hki : (k : Int) < (T : Int) := by omega
      have HR : Hid (List.replicate (k + 1) z = List.replicate k z ++ [z]) := by show _ = _; rw [List.replicate_succ']
      generalize List.replicate k z = q at *
      go_wp2_with (at_builtin; refine wpList_app1 wr (by rfl) _ _ (by rfl) w.heap.size _ k q z (by rfl) hown (by rfl) (by omega) hbel.size ?_)
      intro g cap w4 hown4 hgr
      have hb4 : Below w.heap.size w w4 := hgr.below hbel (Nat.le_refl _) hbel.size
      have HO4 : Hid (OwnI w4 w.heap.size (.slice (some ⟨g, 0, none⟩) (k + 1) cap) (k + 1) (List.replicate (k + 1) z)) := by show OwnI _ _ _ _ _; rw [HR.out]; exact hown4
      clear hown hown4 hgr hbel
      go_wp2_with fail
      go_roundw
      case rel => exact ⟨k + 1, by omega, by go_num, HO4.out, hb4⟩
      case measure => simp [intOf]; omega
    · obtain rfl : k = T := by omega
      obtain ⟨a, c, e, _⟩ := hown.owns
      subst e
      have HF : Hid (OwnI wr w.heap.size (.slice a k c) k (List.replicate k z)) := hown
      clear hown
      go_wp2_with fail
      go_ret
      exact ⟨⟨a, c, rfl, HF.out⟩, hbel⟩

/-- what is drawn -/
def OftenDrawn (B p : Nat) (w : World) (e : Ending) (w' : World) : Prop :=
  (∃ (a : Option Addr) (n c : Nat) (l : List Int), e = .returned (.slice a n c) ∧ Ints w' a l ∧ l.length = n ∧ n ≤ 301 ∧ OftenOk l) ∧ (∃ q, q ≤ p + 100 ∧ RdAt w' B q) ∧ Only B w w'
theorem oftenDrawn_mk {B p : Nat} {w w' : World} {lo : Nat} (a : Option Addr) (n c q : Nat) (l : List Int) (h1 : OwnI w' lo (.slice a n c) n l) (h2 : n ≤ 301) (h3 : OftenOk l) (h4 : q ≤ p + 100) (h5 : RdAt w' B q) (h6 : Only B w w') : OftenDrawn B p w (.returned (.slice a n c)) w' := by
  refine ⟨⟨a, n, c, l, rfl, ?_, h1.len, h2, h3⟩, ⟨q, h4, h5⟩, h6⟩
  obtain ⟨a7, c7, e7, h7⟩ := h1.owns
  cases e7
  exact h7.ints

set_option maxHeartbeats 4000000 in
set_option maxRecDepth 20000 in
theorem l14Often_any (B p : Nat) (w : World) (hr : RdAt w B p) (hp : p ≤ 1000) :
    Calls Try.prog 49 #[.pointer (some ⟨B, 0, none⟩)] w (OftenDrawn B p w) := by
  have hlt0 := hr.lt
  have HE : Hid (OwnI _ _ _ 0 []) := ownI_none w
  have HR0 : Hid (RdAt (w.alloc (.cells #[] 3)) B p) := hr.alloc _
  have HO0 : Hid (Only B w (w.alloc (.cells #[] 3))) := (Only.refl B w).alloc hlt0 _
  clear hr
  go_enter Try.func49, Try.ntmps49
  go_wp2_with fail
  refine (pick_named B p _ _ HR0.out (by omega) (by omega) (by omega)).mono ?_
  rintro e w2 ⟨x0, rfl, hx0, hR2, hO2, hs2⟩
  have HD2 : Hid (OwnI w2 w.heap.size _ 0 []) := HE.out.only hO2 hlt0
  have HR2 : Hid (RdAt w2 B (p + 1)) := hR2
  have HO2 : Hid (Only B w w2) := HO0.out.trans hO2
  clear HE HR0 HO0 hO2 hs2 hR2
  by_cases hx : x0 = 0
  · subst hx
    go_wp2_with fail
    refine (pick_named B (p + 1) _ _ HR2.out (by omega) (by omega) (by omega)).mono ?_
    rintro e w3 ⟨y, rfl, hy, hR3, hO3, -⟩
    obtain ⟨T, hT⟩ : ∃ T : Nat, T = 300 + y := ⟨_, rfl⟩
    have eT : (300 : Int) + (y : Int) = (T : Int) := by omega
    have hTo : T = 300 ∨ T = 301 := by omega
    have HTO : Hid (T = 300 ∨ T = 301) := hTo
    have hTb : T ≤ 301 := by omega
    have HSM : Hid (Calls Try.prog 63 #[.int .i64 1, .int .i64 (T : Int)] w3 fun e w' => (∃ a c, e = .returned (.slice a T c) ∧ OwnI w' w3.heap.size (.slice a T c) T (List.replicate T 1)) ∧ Below w3.heap.size w3 w') := l4Same_own 1 T w3 (by omega)
    have HR3 : Hid (RdAt w3 B (p + 1 + 1)) := hR3
    have HO3 : Hid (Only B w w3) := HO2.out.trans hO3
    clear hR3 hO3 HR2 HO2 HD2 hT hTo hy
    go_wp2_with fail
    refine HSM.out.mono ?_
    rintro e w4 ⟨⟨a4, c4, rfl, hO4⟩, b4⟩
    have HF : Hid (OftenDrawn B p w (.returned (.slice a4 T c4)) w4) := oftenDrawn_mk a4 T c4 (p + 1 + 1) _ hO4 hTb (often_ones T HTO.out) (by omega) (HR3.out.kept (b4.mono HR3.out.lt)) (HO3.out.trans (Only.of_below b4 HR3.out.lt))
    clear hO4 b4 HSM HR3 HO3
    go_wp2_with fail
    go_ret
    exact HF.out
  · have hxi : ¬ (x0 : Int) = 0 := by omega
    go_wp2_with fail
    refine (pick_named B (p + 1) _ _ HR2.out (by omega) (by omega) (by omega)).mono ?_
    rintro e w3 ⟨k0, rfl, hk0, hR3, hO3, -⟩
    have HD3 : Hid (OwnI w3 w.heap.size _ 0 []) := HD2.out.only hO3 hlt0
    have HR3 : Hid (RdAt w3 B (p + 1 + 1)) := hR3
    have HO3 : Hid (Only B w w3) := HO2.out.trans hO3
    have hk13 : k0 ≤ 13 := by omega
    clear HD2 HR2 HO2 hR3 hO3 hk0 hx0
    go_wp2_with fail
    go_loopw [3, 4] (fun v i wr => ∃ (k q n : Nat) (l : List Int), k ≤ 13 ∧ i = .int .i64 k ∧ n + k ≤ 13 ∧ q + 4 * k ≤ p + 60 ∧ (∃ a c, v = .slice a n c) ∧ Hid (RdAt wr B q ∧ OwnI wr w.heap.size v n l ∧ Only B w wr)) (fun _ i _ => (intOf i).toNat)
    case atStart => exact ⟨k0, p + 1 + 1, 0, [], hk13, rfl, by omega, by omega, ⟨_, _, rfl⟩, HR3.out, HD3.out, HO3.out⟩
    case round =>
      obtain ⟨k, q, n, l, hk, rfl, hnk, hqk, ⟨a5, c5, rfl⟩, HA⟩ := hrel
      clear HR3 HD3 HO3
      by_cases hk0' : 0 < k
      · have hki : (0 : Int) < (k : Int) := by omega
        go_wp2_with fail
        refine (pick_named B q _ _ HA.out.1 (by omega) (by omega) (by omega)).mono ?_
        rintro e w4 ⟨y1, rfl, hy1, hR4, hO4, -⟩
        have H4 : Hid (RdAt w4 B (q + 1) ∧ OwnI w4 w.heap.size (.slice a5 n c5) n l ∧ Only B w w4) := ⟨hR4, HA.out.2.1.only hO4 hlt0, HA.out.2.2.trans hO4⟩
        clear hR4 hO4 HA
        go_wp2_with fail
        refine (pick_named B (q + 1) _ _ H4.out.1 (by omega) (by omega) (by omega)).mono ?_
        rintro e w5 ⟨y2, rfl, hy2, hR5, hO5, -⟩
        have H5 : Hid (RdAt w5 B (q + 2) ∧ OwnI w5 w.heap.size (.slice a5 n c5) n l ∧ Only B w w5) := ⟨hR5, H4.out.2.1.only hO5 hlt0, H4.out.2.2.trans hO5⟩
        clear hR5 hO5 H4
        go_wp2_with fail
        refine (pick_named B (q + 2) _ _ H5.out.1 (by omega) (by omega) (by omega)).mono ?_
        rintro e w6 ⟨y3, rfl, hy3, hR6, hO6, -⟩
        have H6 : Hid (RdAt w6 B (q + 3) ∧ OwnI w6 w.heap.size (.slice a5 n c5) n l ∧ Only B w w6) := ⟨hR6, H5.out.2.1.only hO6 hlt0, H5.out.2.2.trans hO6⟩
        have HPW : Hid (Calls Try.prog 50 #[.int .i64 (y3 : Int)] w6 fun e w' => e = .returned (.int .i64 ((2 ^ y3 : Nat) : Int)) ∧ w' = w6) := l1Pow_any y3 w6 (by omega)
        obtain ⟨P, hP⟩ : ∃ P : Int, P = ((2 ^ y3 : Nat) : Int) := ⟨_, rfl⟩
        rw [← hP] at HPW
        clear hR6 hO6 H5 hP
        go_wp2_with fail
        refine HPW.out.mono ?_
        rintro e w7 ⟨rfl, hw7⟩
        subst hw7
        clear HPW
        have hltw : B < w7.heap.size := H6.out.1.lt
        have HR7 : Hid (RdAt (w7.alloc (.cells #[.int .i64 0, .int .i64 1, .int .i64 (y1 : Int), .int .i64 (y2 : Int), .int .i64 P] 3)) B (q + 3)) := H6.out.1.alloc _
        go_wp2_with fail
        refine (pick_named B (q + 3) _ _ HR7.out (by omega) (by omega) (by omega)).mono ?_
        rintro e w8 ⟨y4, rfl, hy4, hR8, hO8, -⟩
        have hy5 : y4 < 5 := by omega
        obtain ⟨v, hv⟩ := five_cell w7 0 1 (y1 : Int) (y2 : Int) P y4 hy5
        have hv8 : w8.cell? ⟨w7.heap.size, y4, none⟩ = some (.int .i64 v) := (hO8.cell w7.heap.size y4 (by simp) (by omega)).trans hv
        have H8 : Hid (RdAt w8 B (q + 4) ∧ OwnI w8 w.heap.size (.slice a5 n c5) n l ∧ Only B w w8) := ⟨hR8, OwnI.only (OwnI.alloc H6.out.2.1 _) hO8 hlt0, (H6.out.2.2.alloc hltw _).trans hO8⟩
        have hbs : w.heap.size ≤ w8.heap.size := H8.out.2.2.below.size
        have hy4i : (y4 : Int) < 5 := by omega
        clear hR8 hO8 H6 HR7 hv hltw
        go_wp2_with (at_builtin; refine wpList_app1 w8 (by rfl) _ _ (by rfl) w.heap.size _ n l v (by rfl) H8.out.2.1 (by rfl) (by omega) hbs ?_)
        intro g cap w9 hown9 hgr
        have hb9 : Below w.heap.size w8 w9 := hgr.below (Below.refl _ _) (Nat.le_refl _) hbs
        have H9 : Hid (RdAt w9 B (q + 4) ∧ OwnI w9 w.heap.size (.slice (some ⟨g, 0, none⟩) (n + 1) cap) (n + 1) (l ++ [v]) ∧ Only B w w9) := ⟨H8.out.1.kept (hb9.mono hlt0), hown9, H8.out.2.2.grown hlt0 hb9⟩
        clear hown9 hgr hb9 H8 hv8
        go_wp2_with fail
        go_roundw
        case rel => exact ⟨k - 1, q + 4, n + 1, _, by omega, by go_num, by omega, by omega, ⟨_, _, rfl⟩, H9⟩
        case measure => simp [intOf]; omega
      · have hki : ¬ (0 : Int) < (k : Int) := by omega
        go_wp2_with fail
        refine (pick_named B q _ _ HA.out.1 (by omega) (by omega) (by omega)).mono ?_
        rintro e w4 ⟨y1, rfl, hy1, hR4, hO4, -⟩
        have H4 : Hid (RdAt w4 B (q + 1) ∧ OwnI w4 w.heap.size (.slice a5 n c5) n l ∧ Only B w w4) := ⟨hR4, HA.out.2.1.only hO4 hlt0, HA.out.2.2.trans hO4⟩
        clear hR4 hO4 HA
        by_cases hy0 : y1 = 0
        · subst hy0
          have hltw : B < w4.heap.size := H4.out.1.lt
          have HR7 : Hid (RdAt (w4.alloc (.cells #[.int .i64 (-1), .int .i64 9001] 3)) B (q + 1)) := H4.out.1.alloc _
          go_wp2_with fail
          refine (pick_named B (q + 1) _ _ HR7.out (by omega) (by omega) (by omega)).mono ?_
          rintro e w8 ⟨y4, rfl, hy4, hR8, hO8, -⟩
          have hy5 : y4 < 2 := by omega
          obtain ⟨v, hv⟩ := two_cell w4 (-1) 9001 y4 hy5
          have hv8 : w8.cell? ⟨w4.heap.size, y4, none⟩ = some (.int .i64 v) := (hO8.cell w4.heap.size y4 (by simp) (by omega)).trans hv
          have H8 : Hid (RdAt w8 B (q + 2) ∧ OwnI w8 w.heap.size (.slice a5 n c5) n l ∧ Only B w w8) := ⟨hR8, OwnI.only (OwnI.alloc H4.out.2.1 _) hO8 hlt0, (H4.out.2.2.alloc hltw _).trans hO8⟩
          have hbs : w.heap.size ≤ w8.heap.size := H8.out.2.2.below.size
          have hy4i : (y4 : Int) < 2 := by omega
          clear hR8 hO8 H4 HR7 hv hltw
          go_wp2_with (at_builtin; refine wpList_app1 w8 (by rfl) _ _ (by rfl) w.heap.size _ n l v (by rfl) H8.out.2.1 (by rfl) (by omega) hbs ?_)
          intro g cap w9 hown9 hgr
          have hb9 : Below w.heap.size w8 w9 := hgr.below (Below.refl _ _) (Nat.le_refl _) hbs
          have HF : Hid (OftenDrawn B p w (.returned (.slice (some ⟨g, 0, none⟩) (n + 1) cap)) w9) := oftenDrawn_mk _ (n + 1) cap (q + 2) _ hown9 (by omega) (often_few (by rw [hown9.len]; omega)) (by omega) (H8.out.1.kept (hb9.mono hlt0)) (H8.out.2.2.grown hlt0 hb9)
          clear hown9 hgr hb9 H8 hv8
          go_wp2_with fail
          go_ret
          exact HF.out
        · have hyi : ¬ (y1 : Int) = 0 := by omega
          have HF : Hid (OftenDrawn B p w (.returned (.slice a5 n c5)) w4) := oftenDrawn_mk a5 n c5 (q + 1) l H4.out.2.1 (by omega) (often_few (by rw [H4.out.2.1.len]; omega)) (by omega) H4.out.1 H4.out.2.2
          clear H4
          go_wp2_with fail
          go_ret
          exact HF.out
end Go.Proofs.Ytjdilanmkgodnaa

/- Lengths drawn, mostly of a code. -/
namespace Go.Proofs.Ytjdilanmkgodnaa
open Go.RowKit

/-- a row lies behind block B -/
def Beside (B : Nat) (a : Option Addr) : Prop := ∀ b off, a = some ⟨b, off, none⟩ → B < b
theorem Ints.only {w w' : World} {B : Nat} {a : Option Addr} {l : List Int} (h : Ints w a l) (hb : Beside B a) (ho : Only B w w') : Ints w' a l := by
  rcases h with h | ⟨b, off, rfl, hbB, hc⟩
  · exact .inl h
  · exact .inr ⟨b, off, rfl, Nat.lt_of_lt_of_le hbB ho.below.size, fun i hi => (ho.cell b _ hbB (Nat.ne_of_gt (hb b off rfl))).trans (hc i hi)⟩
/-- what is drawn -/
def LenDrawn (B p : Nat) (w : World) (e : Ending) (w' : World) : Prop :=
  (∃ (a : Option Addr) (n c : Nat) (l : List Int), e = .returned (.slice a n c) ∧ Ints w' a l ∧ l.length = n ∧ n ≤ 300 ∧ n ≤ c ∧ Beside B a) ∧ (∃ q, q ≤ p + 200 ∧ RdAt w' B q) ∧ Only B w w'
theorem lenDrawn_own {B p : Nat} {w w' : World} {b n q : Nat} {f : Nat → Int} (h1 : Own w' b n f) (hb : B < b) (h2 : n ≤ 300) (h4 : q ≤ p + 200) (h5 : RdAt w' B q) (h6 : Only B w w') : LenDrawn B p w (.returned (.slice (some ⟨b, 0, none⟩) n n)) w' := by
  refine ⟨⟨_, n, n, (List.range n).map f, rfl, .inr ⟨b, 0, rfl, h1.1, fun i hi => ?_⟩, by simp, h2, Nat.le_refl _, fun b' off e => by cases e; exact hb⟩, ⟨q, h4, h5⟩, h6⟩
  rw [List.length_map, List.length_range] at hi
  rw [Nat.zero_add, List.getElem_map, List.getElem_range]
  exact (h1.2 i hi).1
theorem lenDrawn_ownI {B p lo : Nat} {w w' : World} {a : Option Addr} {n c q : Nat} {l : List Int} (h1 : OwnI w' lo (.slice a n c) n l) (hlo : B < lo) (h2 : n ≤ 300) (h4 : q ≤ p + 200) (h5 : RdAt w' B q) (h6 : Only B w w') : LenDrawn B p w (.returned (.slice a n c)) w' := by
  have hc : n ≤ c := by
    rcases h1.2 with ⟨e, h0⟩ | ⟨g, cap', cur, e, _, _, h3, _⟩
    · cases e; omega
    · cases e; exact h3
  have hbs : Beside B a := by
    intro b off e
    subst e
    have : off = 0 := by
      rcases h1.2 with ⟨e, h0⟩ | ⟨g, cap', cur, e, _⟩
      · cases e
      · cases e; rfl
    subst this
    have := (World.ownsRow.lt (show World.ownsRow _ _ _ _ _ _ _ from h1) b rfl).1
    omega
  obtain ⟨a7, c7, e7, h7⟩ := h1.owns
  cases e7
  exact ⟨⟨a, n, c, l, rfl, h7.ints, h1.len, h2, hc, hbs⟩, ⟨q, h4, h5⟩, h6⟩
/-- a number is set down in a row of the call's own -/
theorem ownI_set {w : World} {lo n c g k : Nat} {l : List Int} (h : OwnI w lo (.slice (some ⟨g, 0, none⟩) n c) n l) (hk : k < n) (v : Int) : w.cell? ⟨g, k, none⟩ = some (.int .i64 (l.getD k 0)) ∧ w.frozen? ⟨g, k, none⟩ = false ∧ OwnI (w.setCell ⟨g, k, none⟩ (.int .i64 v)) lo (.slice (some ⟨g, 0, none⟩) n c) n (l.set k v) := by
  have hl := h.len
  rcases h.2 with ⟨e, h0⟩ | ⟨g', cap, cur, e, h1, h2, h3, h4, h5, h6⟩
  · cases e
  · cases e
    have hget : cur[k]? = some (.int .i64 (l.getD k 0)) := by
      have : (cur.toList.take (n * 1))[k]? = some (.int .i64 (l[k]'(by omega))) := by rw [h6, intsV_get _ k (by omega)]
      rw [List.getElem?_take_of_lt (by omega)] at this
      rw [List.getD_eq_getElem?_getD, List.getElem?_eq_getElem (show k < l.length by omega)]
      simpa using this
    refine ⟨by simp [World.cell?, h2, hget], by simp [World.frozen?, h2], ⟨by rw [intsV_len, List.length_set]; omega, .inr ⟨g, c, cur.setIfInBounds k (.int .i64 v), rfl, h1, ?_, h3, h4, by simpa using h5, ?_⟩⟩⟩
    · rw [setCell_eq_setRow w g k _ _ (0, 0) _ h2]
      exact setRow_heap w g _ _ _ _ h2
    · have e1 : intsV (l.set k v) = (intsV l).set k (.int .i64 v) := by unfold intsV; rw [List.map_set]
      rw [e1, ← h6, Array.toList_setIfInBounds, List.take_set]

set_option maxHeartbeats 4000000 in
set_option maxRecDepth 20000 in
theorem l14Lengths_any (B p : Nat) (w : World) (hr : RdAt w B p) (hp : p ≤ 500) :
    Calls Try.prog 31 #[.pointer (some ⟨B, 0, none⟩)] w (LenDrawn B p w) := by
  have hlt0 := hr.lt
  have HR0 : Hid (RdAt w B p) := hr
  clear hr
  go_enter Try.func31, Try.ntmps31
  go_wp2_with fail
  refine (pick_named B p _ _ HR0.out (by omega) (by omega) (by omega)).mono ?_
  rintro e w1 ⟨x0, rfl, hx0, hR1, hO1, -⟩
  have H1 : Hid (RdAt w1 B (p + 1) ∧ Only B w w1) := ⟨hR1, hO1⟩
  clear hR1 hO1 HR0
  by_cases hx : 0 < x0
  · have hxi : (0 : Int) < (x0 : Int) := by omega
    go_wp2_with fail
    refine (l14Often_any B (p + 1) w1 H1.out.1 (by omega)).mono ?_
    rintro e w2 ⟨⟨a2, n2, c2, l2, rfl, hI2, hn2, hb2, hok⟩, ⟨q2, hq2, hR2⟩, hO2⟩
    have HFT : Hid (Calls Try.prog 48 #[.slice a2 n2 c2, .int .i64 15] w2 (Fitted w2)) := spec_codeFit15 a2 n2 c2 l2 w2 hI2 hn2 (by omega) hok
    have H2 : Hid (RdAt w2 B q2 ∧ Only B w w2) := ⟨hR2, H1.out.2.trans hO2⟩
    clear hI2 hn2 hok hR2 hO2 H1
    go_wp2_with fail
    refine HFT.out.mono ?_
    rintro e w3 ⟨⟨b, n, f, rfl, hbl, hO3, hn3⟩, b3⟩
    have hlt2 : B < w2.heap.size := H2.out.1.lt
    have H3 : Hid (RdAt w3 B q2 ∧ Only B w w3 ∧ Own w3 b n (fun i => ((f i : Nat) : Int))) := ⟨H2.out.1.kept (b3.mono hlt2), H2.out.2.trans (Only.of_below b3 hlt2), hO3⟩
    have hBb : B ≠ b := by omega
    have hBl : B < b := by omega
    have hwb : w.heap.size ≤ b := Nat.le_trans H2.out.2.below.size hbl
    clear HFT hO3 b3 H2
    by_cases hn0 : 0 < n
    · have hni : (0 : Int) < (n : Int) := by omega
      go_wp2_with fail
      refine (pick_named B q2 _ _ H3.out.1 (by omega) (by omega) (by omega)).mono ?_
      rintro e w4 ⟨y, rfl, hy, hR4, hO4, -⟩
      have H4 : Hid (RdAt w4 B (q2 + 1) ∧ Only B w w4 ∧ Own w4 b n (fun i => ((f i : Nat) : Int))) := ⟨hR4, H3.out.2.1.trans hO4, ⟨Nat.lt_of_lt_of_le H3.out.2.2.1 hO4.below.size, fun i hi => ⟨(hO4.cell b i H3.out.2.2.1 (fun e => hBb e.symm)).trans (H3.out.2.2.2 i hi).1, by
        have := hO4.rest b H3.out.2.2.1 (fun e => hBb e.symm)
        have h2 := (H3.out.2.2.2 i hi).2
        simp only [World.frozen?, this] at h2 ⊢
        exact h2⟩⟩⟩
      clear hR4 hO4 H3
      by_cases hy0 : y = 0
      · subst hy0
        go_wp2_with fail
        refine (pick_named B (q2 + 1) _ _ H4.out.1 (by omega) (by omega) (by omega)).mono ?_
        rintro e w5 ⟨k, rfl, hk, hR5, hO5, -⟩
        have hkn : k < n := by omega
        have hki : (k : Int) < (n : Int) := by omega
        have H5 : Hid (RdAt w5 B (q2 + 2) ∧ Only B w w5 ∧ Own w5 b n (fun i => ((f i : Nat) : Int))) := ⟨hR5, H4.out.2.1.trans hO5, ⟨Nat.lt_of_lt_of_le H4.out.2.2.1 hO5.below.size, fun i hi => ⟨(hO5.cell b i H4.out.2.2.1 (fun e => hBb e.symm)).trans (H4.out.2.2.2 i hi).1, by
          have := hO5.rest b H4.out.2.2.1 (fun e => hBb e.symm)
          have h2 := (H4.out.2.2.2 i hi).2
          simp only [World.frozen?, this] at h2 ⊢
          exact h2⟩⟩⟩
        clear hR5 hO5 H4 hk
        go_wp2_with fail
        refine (pick_named B (q2 + 2) _ _ H5.out.1 (by omega) (by omega) (by omega)).mono ?_
        rintro e w6 ⟨z, rfl, hz, hR6, hO6, -⟩
        have hO6' : Own w6 b n (fun i => ((f i : Nat) : Int)) := ⟨Nat.lt_of_lt_of_le H5.out.2.2.1 hO6.below.size, fun i hi => ⟨(hO6.cell b i H5.out.2.2.1 (fun e => hBb e.symm)).trans (H5.out.2.2.2 i hi).1, by
          have := hO6.rest b H5.out.2.2.1 (fun e => hBb e.symm)
          have h2 := (H5.out.2.2.2 i hi).2
          simp only [World.frozen?, this] at h2 ⊢
          exact h2⟩⟩
        obtain ⟨c1, f1⟩ := hO6'.2 k hkn
        have c1' : w6.cell? ⟨b, k, none⟩ = some (.int .i64 ((f k : Nat) : Int)) := c1
        have HF : Hid (LenDrawn B p w (.returned (.slice (some ⟨b, 0, none⟩) n n)) (w6.setCell ⟨b, k, none⟩ (.int .i64 (z : Int)))) := by
          refine lenDrawn_own (f := fun i => if i = k then (z : Int) else ((f i : Nat) : Int)) (q := q2 + 3) (own_set (z : Int) hO6' hkn (by simp) (fun i _ hi => by simp [hi])) hBl hn3 (by omega) ?_ ?_
          · have h1 : RdAt w6 B (q2 + 3) := hR6
            exact h1.kept ((Below.refl _ _).setCell (p := ⟨b, k, none⟩) (by show B + 1 ≤ b; omega) _)
          · exact (H5.out.2.1.trans hO6).set hwb hlt0 k _
        clear c1 hO6' hR6 hO6 H5
        go_wp2_with fail
        go_ret
        exact HF.out
      · have hyi : ¬ (y : Int) = 0 := by omega
        have HF : Hid (LenDrawn B p w (.returned (.slice (some ⟨b, 0, none⟩) n n)) w4) := lenDrawn_own H4.out.2.2 hBl hn3 (show q2 + 1 ≤ p + 200 by omega) H4.out.1 H4.out.2.1
        clear H4
        go_wp2_with fail
        go_ret
        exact HF.out
    · have hni : ¬ (0 : Int) < (n : Int) := by omega
      have HF : Hid (LenDrawn B p w (.returned (.slice (some ⟨b, 0, none⟩) n n)) w3) := lenDrawn_own H3.out.2.2 hBl hn3 (show q2 ≤ p + 200 by omega) H3.out.1 H3.out.2.1
      clear H3
      go_wp2_with fail
      go_ret
      exact HF.out
  · have hxi : ¬ (0 : Int) < (x0 : Int) := by omega
    have hlt1 : B < w1.heap.size := H1.out.1.lt
    have HE : Hid (OwnI (w1.alloc (.cells #[] 3)) w1.heap.size (.slice (some ⟨w1.heap.size, 0, none⟩) 0 0) 0 []) := ownI_none w1
    have HRa : Hid (RdAt (w1.alloc (.cells #[] 3)) B (p + 1)) := H1.out.1.alloc _
    have HOa : Hid (Only B w (w1.alloc (.cells #[] 3))) := H1.out.2.alloc hlt1 _
    go_wp2_with fail
    refine (pick_named B (p + 1) _ _ HRa.out (by omega) (by omega) (by omega)).mono ?_
    rintro e w2 ⟨k0, rfl, hk0, hR2, hO2, -⟩
    have HD2 : Hid (OwnI w2 w1.heap.size (.slice (some ⟨w1.heap.size, 0, none⟩) 0 0) 0 []) := HE.out.only hO2 hlt1
    have HR2 : Hid (RdAt w2 B (p + 1 + 1)) := hR2
    have HO2 : Hid (Only B w w2 ∧ Only B w1 w2) := ⟨HOa.out.trans hO2, ((Only.refl B w1).alloc hlt1 _).trans hO2⟩
    have hk6 : k0 ≤ 6 := by omega
    clear hR2 hO2 HE HRa HOa hk0
    go_wp2_with fail
    go_loopw [5, 6] (fun v i wr => ∃ (k q n : Nat) (l : List Int), k ≤ 6 ∧ i = .int .i64 k ∧ n + k ≤ 6 ∧ q + k ≤ p + 20 ∧ (∃ a c, v = .slice a n c) ∧ Hid (RdAt wr B q ∧ OwnI wr w1.heap.size v n l ∧ Only B w1 wr)) (fun _ i _ => (intOf i).toNat)
    case atStart => exact ⟨k0, p + 1 + 1, 0, [], hk6, rfl, by omega, by omega, ⟨_, _, rfl⟩, HR2.out, HD2.out, HO2.out.2⟩
    case round =>
      obtain ⟨k, q, n, l, hk, rfl, hnk, hqk, ⟨a5, c5, rfl⟩, HA⟩ := hrel
      clear HR2 HD2 HO2
      by_cases hk0' : 0 < k
      · have hki : (0 : Int) < (k : Int) := by omega
        go_wp2_with fail
        refine (pick_named B q _ _ HA.out.1 (by omega) (by omega) (by omega)).mono ?_
        rintro e w4 ⟨y1, rfl, hy1, hR4, hO4, -⟩
        have H4 : Hid (RdAt w4 B (q + 1) ∧ OwnI w4 w1.heap.size (.slice a5 n c5) n l ∧ Only B w1 w4) := ⟨hR4, HA.out.2.1.only hO4 hlt1, HA.out.2.2.trans hO4⟩
        have hbs : w1.heap.size ≤ w4.heap.size := H4.out.2.2.below.size
        clear hR4 hO4 HA
        go_wp2_with (at_builtin; refine wpList_app1 w4 (by rfl) _ _ (by rfl) w1.heap.size _ n l (y1 : Int) (by rfl) H4.out.2.1 (by rfl) (by omega) hbs ?_)
        intro g cap w9 hown9 hgr
        have hb9 : Below w1.heap.size w4 w9 := hgr.below (Below.refl _ _) (Nat.le_refl _) hbs
        have H9 : Hid (RdAt w9 B (q + 1) ∧ OwnI w9 w1.heap.size (.slice (some ⟨g, 0, none⟩) (n + 1) cap) (n + 1) (l ++ [(y1 : Int)]) ∧ Only B w1 w9) := ⟨H4.out.1.kept (hb9.mono hlt1), hown9, H4.out.2.2.grown hlt1 hb9⟩
        clear hown9 hgr hb9 H4
        go_wp2_with fail
        go_roundw
        case rel => exact ⟨k - 1, q + 1, n + 1, _, by omega, by go_num, by omega, by omega, ⟨_, _, rfl⟩, H9⟩
        case measure => simp [intOf]; omega
      · have hki : ¬ (0 : Int) < (k : Int) := by omega
        by_cases hn0 : 0 < n
        · have hni : (0 : Int) < (n : Int) := by omega
          go_wp2_with fail
          refine (pick_named B q _ _ HA.out.1 (by omega) (by omega) (by omega)).mono ?_
          rintro e w4 ⟨y1, rfl, hy1, hR4, hO4, -⟩
          have H4 : Hid (RdAt w4 B (q + 1) ∧ OwnI w4 w1.heap.size (.slice a5 n c5) n l ∧ Only B w1 w4) := ⟨hR4, HA.out.2.1.only hO4 hlt1, HA.out.2.2.trans hO4⟩
          clear hR4 hO4 HA
          by_cases hy0 : y1 = 0
          · subst hy0
            have hltw : B < w4.heap.size := H4.out.1.lt
            have HR7 : Hid (RdAt (w4.alloc (.cells #[.int .i64 (-1), .int .i64 16] 3)) B (q + 1)) := H4.out.1.alloc _
            go_wp2_with fail
            refine (pick_named B (q + 1) _ _ HR7.out (by omega) (by omega) (by omega)).mono ?_
            rintro e w8 ⟨y4, rfl, hy4, hR8, hO8, -⟩
            have hy5 : y4 < 2 := by omega
            obtain ⟨v, hv⟩ := two_cell w4 (-1) 16 y4 hy5
            have hv8 : w8.cell? ⟨w4.heap.size, y4, none⟩ = some (.int .i64 v) := (hO8.cell w4.heap.size y4 (by simp) (by omega)).trans hv
            have hO8' : OwnI w8 w1.heap.size (.slice a5 n c5) n l := OwnI.only (OwnI.alloc H4.out.2.1 _) hO8 hlt1
            have hon : Only B w1 w8 := (H4.out.2.2.alloc hltw _).trans hO8
            obtain ⟨g, rfl⟩ : ∃ g, a5 = some ⟨g, 0, none⟩ := by
              rcases hO8'.2 with ⟨e, h0⟩ | ⟨g', cap', cur, e, _⟩
              · omega
              · cases e; exact ⟨g', rfl⟩
            obtain ⟨d1, d2, d3⟩ := ownI_set hO8' hn0 v
            have hgl : w1.heap.size ≤ g := (World.ownsRow.lt (show World.ownsRow _ _ _ _ _ _ _ from hO8') g rfl).1
            have HF : Hid (LenDrawn B p w (.returned (.slice (some ⟨g, 0, none⟩) n c5)) (w8.setCell ⟨g, 0, none⟩ (.int .i64 v))) := by
              refine lenDrawn_ownI (q := q + 2) d3 hlt1 (by omega) (by omega) ?_ (H1.out.2.trans (hon.set hgl hlt1 0 _))
              have h1 : RdAt w8 B (q + 2) := hR8
              exact h1.kept ((Below.refl _ _).setCell (p := ⟨g, 0, none⟩) (by show B + 1 ≤ g; omega) _)
            have hy4i : (y4 : Int) < 2 := by omega
            clear hR8 hO8 H4 HR7 hv hltw hO8' hon d3
            go_wp2_with fail
            go_ret
            exact HF.out
          · have hyi : ¬ (y1 : Int) = 0 := by omega
            have HF : Hid (LenDrawn B p w (.returned (.slice a5 n c5)) w4) := lenDrawn_ownI H4.out.2.1 hlt1 (by omega) (show q + 1 ≤ p + 200 by omega) H4.out.1 (H1.out.2.trans H4.out.2.2)
            clear H4
            go_wp2_with fail
            go_ret
            exact HF.out
        · have hni : ¬ (0 : Int) < (n : Int) := by omega
          have HF : Hid (LenDrawn B p w (.returned (.slice a5 n c5)) wr) := lenDrawn_ownI HA.out.2.1 hlt1 (by omega) (show q ≤ p + 200 by omega) HA.out.1 (H1.out.2.trans HA.out.2.2)
          clear HA
          go_wp2_with fail
          go_ret
          exact HF.out
end Go.Proofs.Ytjdilanmkgodnaa

/- Symbols of a code, drawn. -/
namespace Go.Proofs.Ytjdilanmkgodnaa
open Go.RowKit

/-- what is drawn -/
def SymsDrawn (w : World) (e : Ending) (w' : World) : Prop :=
  (∃ (a1 : Option Addr) (n1 c1 : Nat) (zs : List Int) (a2 : Option Addr) (n2 c2 : Nat) (ls : List Int), e = .returned (.tuple #[.slice a1 n1 c1, .slice a2 n2 c2]) ∧ Ints w' a1 zs ∧ zs.length = n1 ∧ n1 ≤ 11 ∧ Ints w' a2 ls ∧ ls.length = n2 ∧ n2 ≤ 300 ∧ n2 ≤ c2 ∧ Beside w.heap.size a2) ∧ Below w.heap.size w w'
theorem symsDrawn_mk {w w1 w' : World} {lo : Nat} (a1 : Option Addr) (n1 c1 : Nat) (zs : List Int) (a2 : Option Addr) (n2 c2 : Nat) (ls : List Int) (h1 : OwnI w' lo (.slice a1 n1 c1) n1 zs) (h2 : n1 ≤ 11) (h3 : Ints w' a2 ls) (h4 : ls.length = n2) (h5 : n2 ≤ 300) (h6 : n2 ≤ c2) (h9 : Beside w.heap.size a2) (h7 : Below w.heap.size w w1) (h8 : Only w.heap.size w1 w') : SymsDrawn w (.returned (.tuple #[.slice a1 n1 c1, .slice a2 n2 c2])) w' := by
  refine ⟨⟨a1, n1, c1, zs, a2, n2, c2, ls, rfl, ?_, h1.len, h2, h3, h4, h5, h6, h9⟩, h7.trans h8.below⟩
  obtain ⟨a7, c7, e7, h7⟩ := h1.owns
  cases e7
  exact h7.ints

theorem ints_one {w : World} {a : Option Addr} {zs : List Int} (h : Ints w a zs) {k : Nat} (hk : k < zs.length) : ∃ b off, a = some ⟨b, off, none⟩ ∧ w.cell? ⟨b, off + k, none⟩ = some (.int .i64 (zs.getD k 0)) := by
  rcases h with e | ⟨b, off, rfl, _, hc⟩
  · rw [e] at hk; simp at hk
  · exact ⟨b, off, rfl, by rw [hc k hk, List.getD_eq_getElem?_getD, List.getElem?_eq_getElem hk]; rfl⟩

set_option maxHeartbeats 4000000 in
set_option maxRecDepth 20000 in
theorem drawCodePut_any (a : Option Addr) (len cap : Nat) (w : World) (h : Code8 w a len cap) :
    Calls Try.prog 21 #[.slice a len cap] w (SymsDrawn w) := by
  have HOP : Hid (Calls Try.prog 32 #[.slice a len cap] w fun e w' => e = .returned (.pointer (some ⟨w.heap.size, 0, none⟩)) ∧ RdAt w' w.heap.size 0 ∧ Below w.heap.size w w') := open_any a len cap w h
  clear h
  obtain ⟨B, hB⟩ : ∃ B, B = w.heap.size := ⟨_, rfl⟩
  have HB : Hid (B = w.heap.size) := hB
  rw [← hB] at HOP
  clear hB
  go_enter Try.func21, Try.ntmps21
  go_wp2_with fail
  refine HOP.out.mono ?_
  rintro e w1 ⟨rfl, hR1, b1⟩
  clear HOP
  have HLN : Hid (Calls Try.prog 31 #[.pointer (some ⟨B, 0, none⟩)] w1 (LenDrawn B 0 w1)) := l14Lengths_any B 0 w1 hR1 (by omega)
  have HB1 : Hid (Below w.heap.size w w1) := by rw [← HB.out]; exact b1
  clear hR1 b1
  go_wp2_with fail
  refine HLN.out.mono ?_
  rintro e w2 ⟨⟨a2, n2, c2, ls, rfl, hI, hl, hn2, hc2, hbs⟩, ⟨q2, hq2, hR2⟩, hO2⟩
  have hlt2 : B < w2.heap.size := hR2.lt
  have HI2 : Hid (Ints w2 a2 ls ∧ ls.length = n2 ∧ Beside B a2) := ⟨hI, hl, hbs⟩
  have HB2 : Hid (Below w.heap.size w w2) := HB1.out.trans (by rw [← HB.out]; exact hO2.below)
  have HE : Hid (OwnI (w2.alloc (.cells #[] 3)) w2.heap.size (.slice (some ⟨w2.heap.size, 0, none⟩) 0 0) 0 []) := ownI_none w2
  have HRa : Hid (RdAt (w2.alloc (.cells #[] 3)) B q2) := hR2.alloc _
  have HOa : Hid (Only B w2 (w2.alloc (.cells #[] 3))) := (Only.refl B w2).alloc hlt2 _
  clear hI hl hbs hR2 hO2 HLN HB1
  go_wp2_with fail
  refine (pick_named B q2 _ _ HRa.out (by omega) (by omega) (by omega)).mono ?_
  rintro e w3 ⟨k0, rfl, hk0, hR3, hO3, -⟩
  have HA3 : Hid (RdAt w3 B (q2 + 1) ∧ OwnI w3 w2.heap.size (.slice (some ⟨w2.heap.size, 0, none⟩) 0 0) 0 [] ∧ Only B w2 w3) := ⟨hR3, HE.out.only hO3 hlt2, HOa.out.trans hO3⟩
  have hk11 : k0 ≤ 11 := by omega
  clear hR3 hO3 HE HRa HOa hk0
  go_wp2_with fail
  go_loopw [6, 7] (fun v i wr => ∃ (k q n : Nat) (l : List Int), k ≤ 11 ∧ i = .int .i64 k ∧ n + k ≤ 11 ∧ q + 2 * k ≤ 300 ∧ (∃ a c, v = .slice a n c) ∧ Hid (RdAt wr B q ∧ OwnI wr w2.heap.size v n l ∧ Only B w2 wr)) (fun _ i _ => (intOf i).toNat)
  case atStart => exact ⟨k0, q2 + 1, 0, [], hk11, rfl, by omega, by omega, ⟨_, _, rfl⟩, HA3⟩
  case round =>
    obtain ⟨k, q, n, l, hk, rfl, hnk, hqk, ⟨a5, c5, rfl⟩, HA⟩ := hrel
    clear HA3
    by_cases hgo : 0 < k ∧ 0 < n2
    · obtain ⟨hk0', hn0⟩ := hgo
      have hki : (0 : Int) < (k : Int) := by omega
      have hkd : decide ((k : Int) > 0) = true := by simp; omega
      have hni : (0 : Int) < (n2 : Int) := by omega
      go_wp2_with fail
      refine (pick_named B q _ _ HA.out.1 (by omega) (by omega) (by omega)).mono ?_
      rintro e w4 ⟨y, rfl, hy, hR4, hO4, -⟩
      have H4 : Hid (RdAt w4 B (q + 1) ∧ OwnI w4 w2.heap.size (.slice a5 n c5) n l ∧ Only B w2 w4) := ⟨hR4, HA.out.2.1.only hO4 hlt2, HA.out.2.2.trans hO4⟩
      have hyn : y < n2 := by omega
      have hyi : (y : Int) < (n2 : Int) := by omega
      obtain ⟨b6, o6, e6, c6⟩ := ints_one (HI2.out.1.only HI2.out.2.2 H4.out.2.2) (k := y) (by rw [HI2.out.2.1]; exact hyn)
      subst e6
      generalize hz : ls.getD y 0 = z at c6
      have hbs4 : w2.heap.size ≤ w4.heap.size := H4.out.2.2.below.size
      clear hR4 hO4 HA hy hz
      by_cases hz0 : 0 < z
      · have hzd : decide (z > 0) = true := by simp; omega
        go_wp2_with (at_builtin; refine wpList_app1 w4 (by rfl) _ _ (by rfl) w2.heap.size _ n l (y : Int) (by rfl) H4.out.2.1 (by rfl) (by omega) hbs4 ?_)
        intro g cap w9 hown9 hgr
        have hb9 : Below w2.heap.size w4 w9 := hgr.below (Below.refl _ _) (Nat.le_refl _) hbs4
        have H9 : Hid (RdAt w9 B (q + 1) ∧ OwnI w9 w2.heap.size (.slice (some ⟨g, 0, none⟩) (n + 1) cap) (n + 1) (l ++ [(y : Int)]) ∧ Only B w2 w9) := ⟨H4.out.1.kept (hb9.mono hlt2), hown9, H4.out.2.2.grown hlt2 hb9⟩
        clear hown9 hgr hb9 H4 c6
        go_wp2_with fail
        go_roundw
        case rel => exact ⟨k - 1, q + 1, n + 1, _, by omega, by go_num, by omega, by omega, ⟨_, _, rfl⟩, H9⟩
        case measure => simp [intOf]; omega
      · have hzd : decide (z > 0) = false := by simp; omega
        go_wp2_with fail
        refine (pick_named B (q + 1) _ _ H4.out.1 (by omega) (by omega) (by omega)).mono ?_
        rintro e w5 ⟨x, rfl, hx, hR5, hO5, -⟩
        have H5 : Hid (RdAt w5 B (q + 2) ∧ OwnI w5 w2.heap.size (.slice a5 n c5) n l ∧ Only B w2 w5) := ⟨hR5, H4.out.2.1.only hO5 hlt2, H4.out.2.2.trans hO5⟩
        have hbs5 : w2.heap.size ≤ w5.heap.size := H5.out.2.2.below.size
        clear hR5 hO5 H4 c6
        by_cases hx0 : x = 0
        · subst hx0
          go_wp2_with (at_builtin; refine wpList_app1 w5 (by rfl) _ _ (by rfl) w2.heap.size _ n l (y : Int) (by rfl) H5.out.2.1 (by rfl) (by omega) hbs5 ?_)
          intro g cap w9 hown9 hgr
          have hb9 : Below w2.heap.size w5 w9 := hgr.below (Below.refl _ _) (Nat.le_refl _) hbs5
          have H9 : Hid (RdAt w9 B (q + 2) ∧ OwnI w9 w2.heap.size (.slice (some ⟨g, 0, none⟩) (n + 1) cap) (n + 1) (l ++ [(y : Int)]) ∧ Only B w2 w9) := ⟨H5.out.1.kept (hb9.mono hlt2), hown9, H5.out.2.2.grown hlt2 hb9⟩
          clear hown9 hgr hb9 H5
          go_wp2_with fail
          go_roundw
          case rel => exact ⟨k - 1, q + 2, n + 1, _, by omega, by go_num, by omega, by omega, ⟨_, _, rfl⟩, H9⟩
          case measure => simp [intOf]; omega
        · have hxi : ¬ (x : Int) = 0 := by omega
          go_wp2_with fail
          go_roundw
          case rel => exact ⟨k - 1, q + 2, n, _, by omega, by go_num, by omega, by omega, ⟨_, _, rfl⟩, H5⟩
          case measure => simp [intOf]; omega
    · have HF : Hid (SymsDrawn w (.returned (.tuple #[.slice a5 n c5, .slice a2 n2 c2])) wr) := symsDrawn_mk a5 n c5 l a2 n2 c2 ls HA.out.2.1 (by omega) (HI2.out.1.only HI2.out.2.2 HA.out.2.2) HI2.out.2.1 hn2 hc2 (by rw [← HB.out]; exact HI2.out.2.2) HB2.out (by rw [← HB.out]; exact HA.out.2.2)
      clear HA HI2 HB2
      by_cases hk0' : 0 < k
      · have hkd : decide ((k : Int) > 0) = true := by simp; omega
        have hni : ¬ (0 : Int) < (n2 : Int) := by omega
        go_wp2_with fail
        go_ret2
        exact HF.out
      · have hkd : decide ((k : Int) > 0) = false := by simp; omega
        go_wp2_with fail
        go_ret2
        exact HF.out
end Go.Proofs.Ytjdilanmkgodnaa

/- What is read is a symbol's number, turned (mathematics). -/
namespace Go.Proofs.Ytjdilanmkgodnaa
namespace Gt

theorem S_some {zs : List Int} (hg : GoodC zs) {d v : Nat} (h : 0 ≤ S zs zs.length d v) : Mk.Sym zs (S zs zs.length d v).toNat d v := by
  by_cases he : ∃ i, i < zs.length ∧ Mk.Sym zs i d v
  · obtain ⟨i, hi, hs⟩ := he
    rw [S_hit (Nat.le_refl _) (fun i hi => (hg.le i hi).2) hg.num hi hs, Int.toNat_natCast]
    exact hs
  · rw [S_miss (Nat.le_refl _) (fun i hi => (hg.le i hi).2) hg.num (fun i hi hs => he ⟨i, hi, hs⟩)] at h
    omega

theorem go_some {zs : List Int} (hg : GoodC zs) (bit : Nat → Nat) : ∀ {m d v p i q : Nat}, go (S zs zs.length) bit m d v p = some (i, q) → ∃ k, q = p + k ∧ 1 ≤ k ∧ k ≤ m ∧ Mk.Sym zs i (d + k) (v * 2 ^ k + Bg.big (fun j => bit (p + j)) k)
  | 0, _, _, _, _, _, h => by cases h
  | m + 1, d, v, p, i, q, h => by
    unfold go at h
    split at h
    · next hs =>
      have h1 := S_some hg hs
      injection h with h
      injection h with h2 h3
      rw [h2] at h1
      refine ⟨1, h3.symm, by omega, by omega, ?_⟩
      have e : v * 2 ^ 1 + Bg.big (fun j => bit (p + j)) 1 = 2 * v + bit p := by simp [Bg.big]; omega
      rw [e]; exact h1
    · obtain ⟨k, h1, h2, h3, h4⟩ := go_some hg bit h
      refine ⟨1 + k, by omega, by omega, by omega, ?_⟩
      have e : v * 2 ^ (1 + k) + Bg.big (fun j => bit (p + j)) (1 + k) = (2 * v + bit p) * 2 ^ k + Bg.big (fun j => bit (p + 1 + j)) k := by
        rw [Bg.big_add, Nat.pow_add, Nat.add_mul]
        have e1 : Bg.big (fun j => bit (p + j)) 1 = bit p := by simp [Bg.big]
        have e2 : (fun i => bit (p + (1 + i))) = fun j => bit (p + 1 + j) := by funext j; rw [Nat.add_assoc]
        rw [e1, e2, Nat.pow_one, ← Nat.mul_assoc, Nat.mul_comm v 2]
        omega
      rw [e, show d + (1 + k) = d + 1 + k by omega]; exact h4

theorem turned_big (b : Nat → Nat) (hb : ∀ i, b i < 2) : ∀ k, turned (Bg.big b k) k = Bg.low b k
  | 0 => rfl
  | k + 1 => by
    have ih := turned_big b hb k
    unfold turned at ih ⊢
    rw [show k + 1 = 1 + k by omega, Bg.big_add]
    have hk := hb k
    have e1 : Bg.big (fun i => Bg.big b (1 + k) / 2 ^ i % 2) 1 = b k := by
      rw [show 1 + k = k + 1 by omega]; simp [Bg.big]; omega
    have e2 : (fun i => Bg.big b (1 + k) / 2 ^ (1 + i) % 2) = fun i => Bg.big b k / 2 ^ i % 2 := by
      funext i
      rw [Nat.pow_add, ← Nat.div_div_eq_div_mul, show 1 + k = k + 1 by omega]
      congr 2
      simp only [Bg.big, Nat.pow_one]; omega
    rw [e1, e2, ih, show 1 + k = k + 1 by omega]
    simp only [Bg.low]; omega

/-- what is read: a symbol, its bits and its number -/
theorem get_some {zs : List Int} (hg : GoodC zs) {bit : Nat → Nat} (hb : ∀ i, bit i < 2) {M A i q : Nat} (h : get zs bit M A = some (i, q)) : ∃ L V, Mk.Sym zs i L V ∧ q = A + L ∧ A + L ≤ M ∧ turned V L = Bg.low (fun j => bit (A + j)) L := by
  unfold get at h
  obtain ⟨k, h1, h2, h3, h4⟩ := go_some hg bit h
  refine ⟨k, _, by rw [Nat.zero_add] at h4; exact h4, h1, by omega, ?_⟩
  rw [Nat.zero_mul, Nat.zero_add]
  exact turned_big _ (fun j => hb _) k
end Gt
end Go.Proofs.Ytjdilanmkgodnaa

/- Bits that were packed are there, each where it was put: the mathematics. -/
namespace Go.Proofs.Ytjdilanmkgodnaa
open Go.RowKit

/-- the text that bits make -/
def textOf (hi : Bool) (l : List (Int × Int)) : ByteArray := ⟨((Bp.answer hi l).map UInt8.ofNat).toArray⟩

theorem textOf_size {hi : Bool} {l : List (Int × Int)} (h : Bp.Fits l l.length) : (textOf hi l).size = (Bp.tot l l.length + 7) / 8 := by
  have : (textOf hi l).size = (Bp.answer hi l).length := by simp [textOf, ByteArray.size]
  rw [this, Bp.answer_yes h]
  exact Bp.pack_len hi _ _

theorem byteAt_text {hi : Bool} {l : List (Int × Int)} (h : Bp.Fits l l.length) (j : Nat) : byteAt (textOf hi l) j = (Bp.text hi l).getD j 0 := by
  have hb : (Bp.text hi l).getD j 0 < 256 := (Bp.inv hi (Bp.fOf hi l) (Bp.fOf_lt hi l) _).byte j
  unfold byteAt textOf
  rw [Bp.answer_yes h]
  show (((Bp.text hi l).map UInt8.ofNat).getD j 0).toNat = _
  rw [List.getD_eq_getElem?_getD, List.getD_eq_getElem?_getD, List.getElem?_map] at *
  cases e : (Bp.text hi l)[j]? with
  | none => rfl
  | some x =>
    rw [e] at hb
    have hx : x < 256 := hb
    show (UInt8.ofNat x).toNat = x
    simp [UInt8.toNat_ofNat']
    omega

theorem tot_mono (l : List (Int × Int)) : ∀ j, j ≤ l.length → ∀ i, i ≤ j → Bp.tot l i ≤ Bp.tot l j := by
  intro j
  induction j with
  | zero => intro _ i hi; have : i = 0 := by omega
            subst this; exact Nat.le_refl _
  | succ j ih =>
    intro hj i hi
    by_cases e : i = j + 1
    · subst e; exact Nat.le_refl _
    · have := ih (by omega) i (by omega)
      rw [Bp.tot_succ l j (by omega)]; omega

theorem bitAt_text {hi : Bool} {l : List (Int × Int)} (h : Bp.Fits l l.length) (i : Nat) (hi' : i < Bp.tot l l.length) : bitAt (textOf hi l) hi i = Bp.fOf hi l i := by
  have hv := (Bp.inv hi (Bp.fOf hi l) (Bp.fOf_lt hi l) (Bp.tot l l.length)).bit i (by rw [Bp.pack_len]; omega)
  unfold bitAt
  rw [byteAt_text h]
  exact hv.trans (if_pos hi')

theorem low_bits (V : Nat) : ∀ S, Bg.low (fun q => V / 2 ^ q % 2) S = V % 2 ^ S := by
  intro S
  induction S with
  | zero => simp [Bg.low, Nat.mod_one]
  | succ S ih => rw [Bg.low, ih, Nat.mod_pow_succ, Nat.mul_comm]

theorem big_bits (V : Nat) : ∀ S k, k ≤ S → Bg.big (fun q => V / 2 ^ (S - 1 - q) % 2) k = V % 2 ^ S / 2 ^ (S - k) := by
  intro S k
  induction k with
  | zero => intro _; rw [Nat.sub_zero, Nat.div_eq_of_lt (Nat.mod_lt _ (Nat.pow_pos (by omega)))]; rfl
  | succ k ih =>
    intro hk
    rw [Bg.big, ih (by omega)]
    have e1 : S - k = (S - (k + 1)) + 1 := by omega
    have e2 : S - 1 - k = S - (k + 1) := by omega
    rw [e2, e1, Nat.pow_succ, ← Nat.div_div_eq_div_mul]
    have h3 : V / 2 ^ (S - (k + 1)) % 2 = V % 2 ^ S / 2 ^ (S - (k + 1)) % 2 := by
      have e3 : 2 ^ S = 2 ^ (S - (k + 1)) * 2 ^ (k + 1) := by rw [← Nat.pow_add]; congr 1; omega
      rw [e3, Nat.mod_mul_right_div_self, Nat.pow_succ, Nat.mul_comm, Nat.mod_mul_right_mod]
    rw [h3]
    have := Nat.div_add_mod (V % 2 ^ S / 2 ^ (S - (k + 1))) 2
    omega

theorem num_bits (hi : Bool) (V S : Nat) (h : V < 2 ^ S) (b : Nat → Nat) (hb : ∀ q, q < S → b q = Bp.bitIn hi V S q) : Bg.num b S hi = V := by
  have clow : ∀ k, k ≤ S → ∀ b c : Nat → Nat, (∀ q, q < S → b q = c q) → Bg.low b k = Bg.low c k := by
    intro k
    induction k with
    | zero => intro _ b c _; rfl
    | succ k ih => intro hk b c hbc; rw [Bg.low, Bg.low, ih (by omega) b c hbc, hbc k (by omega)]
  have cbig : ∀ k, k ≤ S → ∀ b c : Nat → Nat, (∀ q, q < S → b q = c q) → Bg.big b k = Bg.big c k := by
    intro k
    induction k with
    | zero => intro _ b c _; rfl
    | succ k ih => intro hk b c hbc; rw [Bg.big, Bg.big, ih (by omega) b c hbc, hbc k (by omega)]
  cases hi
  · show Bg.low b S = V
    rw [clow S (Nat.le_refl _) b (fun q => V / 2 ^ q % 2) hb, low_bits, Nat.mod_eq_of_lt h]
  · show Bg.big b S = V
    rw [cbig S (Nat.le_refl _) b (fun q => V / 2 ^ (S - 1 - q) % 2) hb, big_bits V S S (Nat.le_refl _), Nat.sub_self, Nat.pow_zero, Nat.div_one, Nat.mod_eq_of_lt h]

/-- each number is where it was put -/
theorem back {hi : Bool} {l : List (Int × Int)} (h : Bp.Fits l l.length) (k : Nat) (hk : k < l.length) (V S : Nat) (hV : (l[k]).1 = (V : Int)) (hS : (l[k]).2 = (S : Int)) :
    Bg.num (fun q => bitAt (textOf hi l) hi (Bp.tot l k + q)) S hi = V := by
  have ho := (h k hk hk).1
  have h4 : (l[k]).1.toNat < 2 ^ (l[k]).2.toNat := ho.2.2.2
  rw [hV, hS, Int.toNat_natCast, Int.toNat_natCast] at h4
  refine num_bits hi V S h4 _ (fun q hq => ?_)
  have ht := Bp.tot_succ l k hk
  rw [hS, Int.toNat_natCast] at ht
  have hm := tot_mono l l.length (Nat.le_refl _) (k + 1) (by omega)
  rw [bitAt_text h _ (by omega)]
  have := Bp.fOf_at hi l k q hk (by rw [hS, Int.toNat_natCast]; exact hq)
  rw [hV, hS, Int.toNat_natCast, Int.toNat_natCast] at this
  exact this
end Go.Proofs.Ytjdilanmkgodnaa

/- What was packed is read (mathematics). -/
namespace Go.Proofs.Ytjdilanmkgodnaa
namespace Gt

theorem big_same {b c : Nat → Nat} : ∀ k, (∀ q, q < k → b q = c q) → Bg.big b k = Bg.big c k
  | 0, _ => rfl
  | k + 1, h => by rw [Bg.big, Bg.big, big_same k (fun q hq => h q (by omega)), h k (by omega)]
theorem low_bit (b : Nat → Nat) (hb : ∀ i, b i < 2) : ∀ k i, i < k → Bg.low b k / 2 ^ i % 2 = b i
  | 0, _, h => by omega
  | k + 1, i, h => by
    have hl := Bg.low_lt b hb k
    by_cases e : i = k
    · subst e
      simp only [Bg.low]
      rw [Nat.add_mul_div_right _ _ (Nat.pow_pos (by omega)), Nat.div_eq_of_lt hl, Nat.zero_add, Nat.mod_eq_of_lt (hb _)]
    · have ih := low_bit b hb k i (by omega)
      simp only [Bg.low]
      have e2 : b k * 2 ^ k = (b k * 2 ^ (k - i - 1) * 2) * 2 ^ i := by
        rw [Nat.mul_assoc, Nat.mul_assoc, ← Nat.pow_succ', ← Nat.pow_add]
        congr 2; omega
      rw [e2, Nat.add_mul_div_right _ _ (Nat.pow_pos (by omega))]
      omega
theorem turned_back {V L : Nat} (h : V < 2 ^ L) : turned (turned V L) L = V := by
  have e : Bg.big (fun q => V / 2 ^ (L - 1 - q) % 2) L = V := by rw [big_bits V L L (Nat.le_refl _), Nat.sub_self, Nat.pow_zero, Nat.div_one, Nat.mod_eq_of_lt h]
  have h1 := turned_big (fun q => V / 2 ^ (L - 1 - q) % 2) (fun _ => Nat.mod_lt _ (by omega)) L
  rw [e] at h1
  rw [h1]
  unfold turned
  rw [big_same L (fun q hq => low_bit (fun q => V / 2 ^ (L - 1 - q) % 2) (fun _ => Nat.mod_lt _ (by omega)) L q hq)]
  exact e

theorem go_hits {zs : List Int} (hg : GoodC zs) {i L V : Nat} (hS : Mk.Sym zs i L V) (bit : Nat → Nat) (hb : ∀ j, bit j < 2) : ∀ r d p m, d + r = L → 1 ≤ r → r ≤ m → V = V / 2 ^ r * 2 ^ r + Bg.big (fun j => bit (p + j)) r → go (S zs zs.length) bit m d (V / 2 ^ r) p = some (i, p + r)
  | 0, _, _, _, _, h, _, _ => by omega
  | r + 1, d, p, 0, _, _, h, _ => by omega
  | r + 1, d, p, m + 1, hd, _, hm, hV => by
    have hp : 0 < 2 ^ r := Nat.pow_pos (by omega)
    have hbl := Bg.big_lt (fun j => bit (p + 1 + j)) (fun j => hb _) r
    have e1 : Bg.big (fun j => bit (p + j)) (r + 1) = bit p * 2 ^ r + Bg.big (fun j => bit (p + 1 + j)) r := by
      rw [show r + 1 = 1 + r by omega, Bg.big_add]
      have e1 : Bg.big (fun j => bit (p + j)) 1 = bit p := by simp [Bg.big]
      have e2 : (fun i => bit (p + (1 + i))) = fun j => bit (p + 1 + j) := by funext j; rw [Nat.add_assoc]
      rw [e1, e2]
    have e3 : V = (2 * (V / 2 ^ (r + 1)) + bit p) * 2 ^ r + Bg.big (fun j => bit (p + 1 + j)) r := by
      rw [e1] at hV
      have : V / 2 ^ (r + 1) * 2 ^ (r + 1) = 2 * (V / 2 ^ (r + 1)) * 2 ^ r := by rw [Nat.pow_succ, Nat.mul_comm (2 ^ r) 2, ← Nat.mul_assoc, Nat.mul_comm _ 2]
      rw [this] at hV
      rw [Nat.add_mul]; omega
    have e4 : V / 2 ^ r = 2 * (V / 2 ^ (r + 1)) + bit p := by
      generalize 2 * (V / 2 ^ (r + 1)) + bit p = x at e3
      rw [e3, Nat.mul_comm, Nat.mul_add_div hp, Nat.div_eq_of_lt hbl, Nat.add_zero]
    by_cases hr : r = 0
    · subst hr
      rw [Nat.pow_zero, Nat.div_one] at e4
      refine go_hit ?_
      rw [← e4, show d + 1 = L by omega]
      exact S_hit (Nat.le_refl _) (fun i hi => (hg.le i hi).2) hg.num hS.lt hS
    · rw [go_miss]
      · rw [← e4] at e3 ⊢
        have := go_hits hg hS bit hb r (d + 1) (p + 1) m (by omega) (by omega) (by omega) e3
        rw [this, show p + 1 + r = p + (r + 1) by omega]
      · rw [← e4]
        refine S_miss (Nat.le_refl _) (fun i hi => (hg.le i hi).2) hg.num (fun j hj g => ?_)
        by_cases hji : i = j
        · subst hji
          have h1 := g.len
          have h2 := hS.len
          omega
        · have := g.apart hS hji (by omega)
          rw [show L - (d + 1) = r by omega] at this
          exact this rfl

theorem get_hit {zs : List Int} (hg : GoodC zs) {i L V : Nat} (hS : Mk.Sym zs i L V) {bit : Nat → Nat} (hb : ∀ j, bit j < 2) {M A : Nat} (hM : A + L ≤ M) (hV : Bg.big (fun j => bit (A + j)) L = V) : get zs bit M A = some (i, A + L) := by
  have hlt := hS.bits hg.taken
  have h0 : V / 2 ^ L = 0 := Nat.div_eq_of_lt hlt
  have := go_hits hg hS bit hb L 0 A (M - A) (by omega) hS.pos (by omega) (by rw [h0]; omega)
  rw [h0] at this
  exact this
end Gt
end Go.Proofs.Ytjdilanmkgodnaa

/- The program goes down in the tree of a code. -/
namespace Go.Proofs.Ytjdilanmkgodnaa
open Go.RowKit

/-- how find ends -/
def Found (w : World) (R : Nat) (s : ByteArray) (ans : Option (Nat × Nat)) (e : Ending) (w' : World) : Prop :=
  Below R w w' ∧ ((ans = none ∧ e = .returned (.int .i64 (-1))) ∨ ∃ i q : Nat, ans = some (i, q) ∧ e = .returned (.int .i64 (i : Int)) ∧ Reads w' R false s q)
theorem Gt.go_no {s : Nat → Nat → Int} {bit : Nat → Nat} {m d v p t : Nat} (hb : bit p = t) (h : ¬ 0 ≤ s (d + 1) (2 * v + t)) : Gt.go s bit (m + 1) d v p = Gt.go s bit m (d + 1) (2 * v + t) (p + 1) := by
  subst hb
  rw [Gt.go, if_neg h]
theorem Gt.go_yes {s : Nat → Nat → Int} {bit : Nat → Nat} {m d v p t : Nat} (hb : bit p = t) (h : 0 ≤ s (d + 1) (2 * v + t)) : Gt.go s bit (m + 1) d v p = some ((s (d + 1) (2 * v + t)).toNat, p + 1) := by
  subst hb
  rw [Gt.go, if_pos h]
def atOf (R : Nat) (w : World) : Nat := match w.cell? ⟨R, 2, none⟩ with | some (.int _ z) => z.toNat | _ => 0
theorem atOf_reads {w : World} {R q : Nat} {hi : Bool} {s : ByteArray} (h : Reads w R hi s q) : atOf R w = q := by
  unfold atOf
  rw [h.c2]
  simp

set_option maxHeartbeats 4000000 in
set_option maxRecDepth 20000 in
theorem find_any (R B lo p : Nat) (s : ByteArray) (N : Nat → Nat → Option Nat) (S : Nat → Nat → Int) (w : World) (hT : Tri w lo N S) (h0 : N 0 0 = some B) (h00 : S 0 0 = -1) (hR : Reads w R false s p) (hRlo : R < lo) (hs : s.size ≤ 9000) (hp : p ≤ 8 * s.size) :
    Calls Try.prog 41 #[.pointer (some ⟨B, 0, none⟩), .iface 54 (.pointer (some ⟨R, 0, none⟩))] w (Found w R s (Gt.go S (bitAt s false) (8 * s.size - p) 0 0 p)) := by
  have m1 := fun w => method_room ⟨R, 0, none⟩ w
  have m2 := fun w => method_next ⟨R, 0, none⟩ w
  have m3 := fun w => ahead_next ⟨R, 0, none⟩ w
  have HT : Hid (Tri w lo N S) := hT
  have HR0 : Hid (Reads w R false s p) := hR
  obtain ⟨ans, hans⟩ : ∃ ans, ans = Gt.go S (bitAt s false) (8 * s.size - p) 0 0 p := ⟨_, rfl⟩
  have HA0 : Hid (ans = if 0 ≤ S 0 0 then some ((S 0 0).toNat, p + 0) else Gt.go S (bitAt s false) (8 * s.size - (p + 0)) 0 0 (p + 0)) := by
    show _ = _
    rw [h00, if_neg (by omega)]; exact hans
  rw [← hans]
  have HN0 : Hid (N 0 0 = some B) := h0
  clear hT hR h0 h00 hans
  go_enter Try.func41, Try.ntmps41
  go_wp2_with fail
  go_loopw [0] (fun x wr => ∃ d v b : Nat, p + d ≤ 8 * s.size ∧ x = .pointer (some ⟨b, 0, none⟩) ∧ Hid (N d v = some b) ∧ Hid (Only R w wr) ∧ Hid (Reads wr R false s (p + d)) ∧ Hid (ans = if 0 ≤ S d v then some ((S d v).toNat, p + d) else Gt.go S (bitAt s false) (8 * s.size - (p + d)) d v (p + d))) (fun _ wr => 8 * s.size - atOf R wr)
  case atStart => exact ⟨0, 0, B, hp, rfl, HN0, Only.refl _ _, HR0, HA0⟩
  case round =>
    obtain ⟨d, v, b, hd, rfl, HB, HO, HRD, HA⟩ := hrel
    clear HR0 HA0 HN0
    have hTw : Tri wr lo N S := HT.out.same (fun k hk hl => HO.out.rest k hk (by omega))
    obtain ⟨c0, c1, c2, -⟩ := hTw.cells HB.out
    have hlo := (hTw.node d v b HB.out).1
    have hbR : b ≠ R := by omega
    have hblt := hTw.lt HB.out
    by_cases hpos : 0 ≤ S d v
    · obtain ⟨i, hi⟩ : ∃ i : Nat, S d v = (i : Int) := ⟨(S d v).toNat, by omega⟩
      have HF : Hid (Found w R s ans (.returned (.int .i64 (i : Int))) wr) := by
        refine ⟨HO.out.below, .inr ⟨i, p + d, ?_, rfl, HRD.out⟩⟩
        rw [HA.out, if_pos hpos, hi, Int.toNat_natCast]
      rw [hi] at c0
      clear hi hpos HA HB hTw HRD
      go_wp2_with fail
      go_ret
      exact HF.out
    · have hneg : S d v < 0 := by omega
      obtain ⟨y, hy⟩ : ∃ y, y = S d v := ⟨_, rfl⟩
      rw [← hy] at c0 hneg
      have HA2 : Hid (ans = Gt.go S (bitAt s false) (8 * s.size - (p + d)) d v (p + d)) := by
        show _ = _
        rw [HA.out, if_neg hpos]
      clear HA hpos hy
      by_cases hroom : p + d < 8 * s.size
      · obtain ⟨t, ht⟩ : ∃ t, t = bitAt s false (p + d) := ⟨_, rfl⟩
        have ht2 : t < 2 := by rw [ht]; exact bitAt_lt _ _ _
        have hbit : Hid (bitAt s false (p + d) = t) := ht.symm
        have HNX : Hid (∀ (z : Int) (X : World), Reads X R false s (p + d) → Calls Try.prog 82 #[.pointer (some ⟨R, 0, none⟩), .int .i64 z] X fun e w' => e = .returned (.int .i64 (t : Int)) ∧ Reads w' R false s (p + (d + 1)) ∧ Only R X w') := fun z X hX => by
          refine (next_low R (p + d) s z X hX hs (by omega)).mono ?_
          rintro e w' ⟨rfl, m, rfl⟩
          refine ⟨by rw [ht], ?_, (Only.own X R 2 _).drewN m⟩
          have hh : ((p : Int) + (d : Int)) + 1 = ((p + (d + 1) : Nat) : Int) := by omega
          refine ⟨?_, ?_, ?_, ?_⟩
          · rw [World.cell?_drewN, World.cell?_setCell_other _ _ _ _ (fun e => absurd (congrArg Addr.off e) (show ¬ (2 : Nat) = 0 by omega))]; exact hX.c0
          · rw [World.cell?_drewN, World.cell?_setCell_other _ _ _ _ (fun e => absurd (congrArg Addr.off e) (show ¬ (2 : Nat) = 1 by omega))]; exact hX.c1
          · rw [World.cell?_drewN, World.cell?_setCell_same _ _ _ hX.c2]
            congr 2
          · rw [World.frozen?_drewN, World.frozen?_setCell]; exact hX.f2
        have hkid : wr.cell? ⟨b, 1 + t, none⟩ = some (ptr (N (d + 1) (2 * v + t))) := by
          have : t = 0 ∨ t = 1 := by omega
          rcases this with e | e
          · rw [e]; exact c1
          · rw [e]; exact c2
        have HK : Hid (∀ (X : World) (q : Nat), Only R (wr.drewN q) X → X.cell? ⟨b, 1 + t, none⟩ = some (ptr (N (d + 1) (2 * v + t)))) := fun X q hX => (hX.cell b (1 + t) hblt hbR).trans hkid
        have HRM : Hid (Calls Try.prog 83 #[.pointer (some ⟨R, 0, none⟩)] wr fun e w' => e = .returned (.int .i64 (8 * (s.size : Int) - ((p + d : Nat) : Int))) ∧ ∃ m, w' = wr.drewN m) := room_any R (p + d) false s wr HRD.out hs (by omega)
        obtain ⟨M, hM⟩ : ∃ M : Int, M = 8 * (s.size : Int) - ((p + d : Nat) : Int) := ⟨_, rfl⟩
        have hM1 : ¬ M < 1 := by omega
        rw [← hM] at HRM
        have HSZ : Hid (8 * s.size - (p + d) = 8 * s.size - (p + (d + 1)) + 1) := by show _ = _; omega
        have HAT : Hid (atOf R wr = p + d) := atOf_reads HRD.out
        have ht01 : t = 0 ∨ t = 1 := by omega
        have hd1 : p + (d + 1) ≤ 8 * s.size := by omega
        clear hkid c1 c2 hTw ht hM hlo
        go_wp2_with fail
        refine HRM.out.mono ?_
        rintro e w3 ⟨rfl, m, hw3⟩
        have HW3 : Hid (w3 = wr.drewN m) := hw3
        have HR3 : Hid (Reads w3 R false s (p + d)) := by rw [hw3]; exact HRD.out.drewN m
        clear hw3 HRM c0
        have HK3 : Hid (∀ (X : World) (q : Nat), Only R (w3.drewN q) X → X.cell? ⟨b, 1 + t, none⟩ = some (ptr (N (d + 1) (2 * v + t)))) := fun X q hX => HK.out X (m + q) (by rw [HW3.out, World.drewN_drewN] at hX; exact hX)
        have HO3 : Hid (Only R w w3) := by rw [HW3.out]; exact HO.out.drewN m
        clear HK HRD HO HW3
        have hfin : ∀ w4 : World, Reads w4 R false s (p + (d + 1)) → Only R w3 w4 → (N (d + 1) (2 * v + t) = none → Found w R s ans (.returned (.int .i64 (-1))) w4) := fun w4 _ hO4 hno => by
          refine ⟨HO3.out.below.trans hO4.below, .inl ⟨?_, rfl⟩⟩
          rw [HA2.out, HSZ.out, Gt.go_no hbit.out (by rw [HT.out.dead _ _ hno]; omega)]
          refine Gt.go_none (fun d v => N d v = none) (fun d v q hq => ?_) _ _ _ _ hno
          have h1 : N (d + 1) (2 * v + bitAt s false q) = none := by
            rcases hx : N (d + 1) (2 * v + bitAt s false q) with _ | y
            · rfl
            · obtain ⟨b', hb'⟩ := HT.out.closed d _ y hx
              have := bitAt_lt s false q
              rw [show (2 * v + bitAt s false q) / 2 = v by omega, hq] at hb'
              cases hb'
          exact ⟨HT.out.dead _ _ h1, h1⟩
        have HFIN : Hid (∀ w4 : World, Reads w4 R false s (p + (d + 1)) → Only R w3 w4 → (N (d + 1) (2 * v + t) = none → Found w R s ans (.returned (.int .i64 (-1))) w4)) := hfin
        have HGO : Hid (ans = if 0 ≤ S (d + 1) (2 * v + t) then some ((S (d + 1) (2 * v + t)).toNat, p + (d + 1)) else Gt.go S (bitAt s false) (8 * s.size - (p + (d + 1))) (d + 1) (2 * v + t) (p + (d + 1))) := by
          show _ = _
          rw [HA2.out, HSZ.out]
          by_cases hq : 0 ≤ S (d + 1) (2 * v + t)
          · rw [Gt.go_yes hbit.out hq, if_pos hq]; rfl
          · rw [Gt.go_no hbit.out hq, if_neg hq]; rfl
        clear hfin HA2 HSZ hbit
        go_wp2_with fail
        rcases hx : N (d + 1) (2 * v + t) with _ | b2
        · have HX : Hid (N (d + 1) (2 * v + t) = none) := hx
          rw [hx] at HK3
          have HK4 : Hid (∀ (X : World) (q : Nat), Only R (w3.drewN q) X → X.cell? ⟨b, 1 + t, none⟩ = some (.pointer none)) := HK3.out
          clear hx HK3
          rcases ht01 with rfl | rfl
          all_goals
            go_region_with (go_at_call 82; refine (HNX.out _ _ ?_).mono ?_; (repeat (first | exact HR3.out | refine Reads.drew ?_)); rintro e w4 ⟨rfl, hR4, hO4⟩; have k4 := HK4.out w4 1 hO4; have hO4' : Only R w3 w4 := ⟨⟨hO4.below.os, hO4.below.tape, hO4.below.output, hO4.below.size, hO4.below.block⟩, hO4.rest⟩; have HF4 : Hid (Found w R s ans (.returned (.int .i64 (-1))) w4) := HFIN.out w4 hR4 hO4' HX.out)
            all_goals go_wp2_with fail
            all_goals go_ret
            all_goals exact HF4.out
        · have HX : Hid (N (d + 1) (2 * v + t) = some b2) := hx
          rw [hx] at HK3
          have HK4 : Hid (∀ (X : World) (q : Nat), Only R (w3.drewN q) X → X.cell? ⟨b, 1 + t, none⟩ = some (.pointer (some ⟨b2, 0, none⟩))) := HK3.out
          clear hx HFIN HK3
          rcases ht01 with rfl | rfl
          all_goals
            go_region_with (go_at_call 82; refine (HNX.out _ _ ?_).mono ?_; (repeat (first | exact HR3.out | refine Reads.drew ?_)); rintro e w4 ⟨rfl, hR4, hO4⟩; have k4 := HK4.out w4 1 hO4; have hO4' : Only R w3 w4 := ⟨⟨hO4.below.os, hO4.below.tape, hO4.below.output, hO4.below.size, hO4.below.block⟩, hO4.rest⟩; have H4 : Hid (Only R w w4 ∧ Reads w4 R false s (p + (d + 1))) := ⟨HO3.out.trans hO4', hR4⟩; clear hR4 hO4 hO4')
            all_goals go_wp2_with fail
            all_goals
              go_roundw
              case rel => exact ⟨d + 1, _, b2, hd1, rfl, HX, H4.out.1, H4.out.2, HGO⟩
              case measure => rw [HAT.out, atOf_reads H4.out.2]; omega
      · have hM1 : (8 * (s.size : Int) - ((p + d : Nat) : Int)) < 1 := by omega
        have HRM : Hid (Calls Try.prog 83 #[.pointer (some ⟨R, 0, none⟩)] wr fun e w' => e = .returned (.int .i64 (8 * (s.size : Int) - ((p + d : Nat) : Int))) ∧ ∃ m, w' = wr.drewN m) := room_any R (p + d) false s wr HRD.out hs (by omega)
        obtain ⟨M, hM⟩ : ∃ M : Int, M = 8 * (s.size : Int) - ((p + d : Nat) : Int) := ⟨_, rfl⟩
        rw [← hM] at HRM hM1
        have HNO : Hid (ans = none) := by
          show _ = _
          rw [HA2.out, show 8 * s.size - (p + d) = 0 by omega]; rfl
        clear hM HA2 hTw c1 c2 HB
        go_wp2_with fail
        refine HRM.out.mono ?_
        rintro e w3 ⟨rfl, m, hw3⟩
        have HF : Hid (Found w R s ans (.returned (.int .i64 (-1))) w3) := ⟨by rw [hw3]; exact (HO.out.drewN m).below, .inl ⟨HNO.out, rfl⟩⟩
        clear hw3 HRM c0
        go_wp2_with fail
        go_ret
        exact HF.out
end Go.Proofs.Ytjdilanmkgodnaa

/- CodeGet of the program. -/
namespace Go.Proofs.Ytjdilanmkgodnaa
open Go.RowKit

/-- there is a code, and a place in a text -/
def CgOk (s : ByteArray) (at_ : Int) (zs : List Int) : Prop := Cd.okB zs = true ∧ s.size ≤ 9000 ∧ 0 ≤ at_ ∧ at_ ≤ 8 * (s.size : Int)
instance (s : ByteArray) (at_ : Int) (zs : List Int) : Decidable (CgOk s at_ zs) := by unfold CgOk; infer_instance
/-- what CodeGet answers -/
def cgAns (s : ByteArray) (at_ : Int) (zs : List Int) : Int × Int :=
  if CgOk s at_ zs then (match Gt.get zs (bitAt s false) (8 * s.size) at_.toNat with | some (i, q) => ((i : Int), (q : Int)) | none => (-1, 0)) else (-1, 0)
theorem cgAns_no {s : ByteArray} {at_ : Int} {zs : List Int} (h : ¬ CgOk s at_ zs) : cgAns s at_ zs = (-1, 0) := by unfold cgAns; rw [if_neg h]
theorem cgAns_none {s : ByteArray} {A : Nat} {zs : List Int} (h : Gt.get zs (bitAt s false) (8 * s.size) A = none) : cgAns s (A : Int) zs = (-1, 0) := by
  unfold cgAns
  rw [Int.toNat_natCast, h]
  split <;> rfl
theorem cgAns_some {s : ByteArray} {A i q : Nat} {zs : List Int} (hk : CgOk s (A : Int) zs) (h : Gt.get zs (bitAt s false) (8 * s.size) A = some (i, q)) : cgAns s (A : Int) zs = ((i : Int), (q : Int)) := by
  unfold cgAns
  rw [if_pos hk, Int.toNat_natCast, h]

set_option maxHeartbeats 2000000 in
set_option maxRecDepth 20000 in
theorem impl_codeGet (s : ByteArray) (at_ : Int) (a : Option Addr) (cap n : Nat) (zs : List Int) (w : World) (h : Ints w a zs) (hn : zs.length = n) (hl : n ≤ 1048576) (hs : s.size ≤ 1048576) :
    Calls Try.prog 17 #[.string s, .int .i64 at_, .slice a n cap] w fun e w' => e = .returned (.tuple #[.int .i64 (cgAns s at_ zs).1, .int .i64 (cgAns s at_ zs).2]) ∧ Below w.heap.size w w' := by
  have HOK : Hid (Calls Try.prog 12 #[.slice a n cap] w fun e w' => e = .returned (.bool (Cd.okB zs)) ∧ w' = w) := impl_codeOk a cap n zs w h hn hl
  by_cases hk : CgOk s at_ zs
  · obtain ⟨h1, h2, h3, h4⟩ := id hk
    obtain ⟨A, rfl⟩ : ∃ A : Nat, at_ = (A : Int) := ⟨at_.toNat, by omega⟩
    have hg := goodC h1
    rw [h1] at HOK
    have d1 : decide ((s.size : Int) > 9000) = false := by simp; omega
    have d2 : decide ((A : Int) < 0) = false := by simp
    have d3 : decide ((A : Int) > 8 * (s.size : Int)) = false := by simp; omega
    obtain ⟨W1, hW1⟩ : ∃ W1, W1 = w.alloc (.cells #[.func (.func 56) #[] #[], .string s, .int .i64 (A : Int)] 59) := ⟨_, rfl⟩
    have hW1' : w.alloc (.cells #[.func (.func 56) #[] #[], .string s, .int .i64 (A : Int)] 59) = W1 := hW1.symm
    have HR : Hid (Reads W1 w.heap.size false s A) := by rw [hW1]; exact reads_new w false s A 59
    have HB1 : Hid (Below w.heap.size w W1) := by rw [hW1]; exact (Below.refl _ _).alloc (Nat.le_refl _) _
    have hz1 : w.heap.size < W1.heap.size := by rw [hW1]; simp
    have HNT : Hid (Calls Try.prog 40 #[.slice a n cap] W1 (Treed W1 zs)) := numberTree_any a cap n zs W1 (h.kept HB1.out) hn hg
    have HS0 : Hid (Gt.S zs zs.length 0 0 = -1) := Gt.S_miss (Nat.le_refl _) (fun i hi => (hg.le i hi).2) hg.num (fun i _ g => by have := g.pos; omega)
    have HK : Hid (CgOk s (A : Int) zs) := hk
    have hAb : A ≤ 8 * s.size := by omega
    clear h hn hk hg h1 hW1 h3 h4
    go_enter Try.func17, Try.ntmps17
    go_wp2_with fail
    refine HOK.out.mono ?_
    rintro e w0 ⟨rfl, hw0⟩
    subst hw0
    clear HOK
    go_wp2_with fail
    refine (orderOf_low _).mono ?_
    rintro e w0' ⟨rfl, hw0⟩
    replace hw0 := hw0.symm
    subst hw0
    go_wp2_with fail
    refine HNT.out.mono ?_
    rintro e w2 ⟨rfl, ⟨N, hT, hN0⟩, b2⟩
    have HFD : Hid (Calls Try.prog 41 #[.pointer (some ⟨W1.heap.size, 0, none⟩), .iface 54 (.pointer (some ⟨w0.heap.size, 0, none⟩))] w2 (Found w2 w0.heap.size s (Gt.go (Gt.S zs zs.length) (bitAt s false) (8 * s.size - A) 0 0 A))) := by
      refine find_any w0.heap.size W1.heap.size W1.heap.size A s N (Gt.S zs zs.length) w2 hT hN0 HS0.out ?_ hz1 h2 hAb
      obtain ⟨r0, r1, r2, r3⟩ := HR.out
      exact ⟨(b2.cell (p := ⟨w0.heap.size, 0, none⟩) hz1).trans r0, (b2.cell (p := ⟨w0.heap.size, 1, none⟩) hz1).trans r1, (b2.cell (p := ⟨w0.heap.size, 2, none⟩) hz1).trans r2, (b2.frozen (p := ⟨w0.heap.size, 2, none⟩) hz1).trans r3⟩
    have HB2 : Hid (Below w0.heap.size w0 w2) := HB1.out.trans (b2.mono (Nat.le_of_lt hz1))
    clear hT hN0 b2 HNT HB1 HR HS0 hW1'
    go_wp2_with fail
    refine HFD.out.mono ?_
    rintro e w3 ⟨b3, (⟨hno, rfl⟩ | ⟨i, q, hyes, rfl, hR3⟩)⟩
    · have HF : Hid (cgAns s (A : Int) zs = (-1, 0)) := cgAns_none hno
      have HB3 : Hid (Below w0.heap.size w0 w3) := HB2.out.trans b3
      clear HFD hno b3 HB2
      go_wp2_with fail
      go_ret2
      exact ⟨by rw [HF.out]; rfl, HB3.out⟩
    · have HF : Hid (cgAns s (A : Int) zs = ((i : Int), (q : Int))) := cgAns_some HK.out hyes
      have HB3 : Hid (Below w0.heap.size w0 w3) := HB2.out.trans b3
      have c2 := hR3.c2
      have hi0 : ¬ (i : Int) < 0 := by omega
      clear HFD hyes b3 HB2 hR3
      go_wp2_with fail
      go_region
      all_goals go_wp2_with fail
      all_goals go_ret2
      all_goals exact ⟨by rw [HF.out]; rfl, HB3.out.drew⟩
  · have HF : Hid (cgAns s at_ zs = (-1, 0)) := cgAns_no hk
    cases h1 : Cd.okB zs with
    | false =>
      rw [h1] at HOK
      clear h hn hk
      go_enter Try.func17, Try.ntmps17
      go_wp2_with fail
      refine HOK.out.mono ?_
      rintro e w0 ⟨rfl, hw0⟩
      subst hw0
      go_wp2_with fail
      go_ret2
      exact ⟨by rw [HF.out]; rfl, Below.refl _ _⟩
    | true =>
      rw [h1] at HOK
      by_cases h2 : s.size ≤ 9000
      · have d1 : decide ((s.size : Int) > 9000) = false := by simp; omega
        by_cases h3 : 0 ≤ at_
        · have d2 : decide (at_ < 0) = false := by simp; omega
          have h4 : 8 * (s.size : Int) < at_ := by
            rcases Int.lt_or_le (8 * (s.size : Int)) at_ with h | h
            · exact h
            · exact absurd ⟨h1, h2, h3, h⟩ hk
          have d3 : decide (at_ > 8 * (s.size : Int)) = true := by simp; omega
          clear h hn hk h1
          go_enter Try.func17, Try.ntmps17
          go_wp2_with fail
          refine HOK.out.mono ?_
          rintro e w0 ⟨rfl, hw0⟩
          subst hw0
          go_wp2_with fail
          go_ret2
          exact ⟨by rw [HF.out]; rfl, Below.refl _ _⟩
        · have d2 : decide (at_ < 0) = true := by simp; omega
          clear h hn hk h1
          go_enter Try.func17, Try.ntmps17
          go_wp2_with fail
          refine HOK.out.mono ?_
          rintro e w0 ⟨rfl, hw0⟩
          subst hw0
          go_wp2_with fail
          go_ret2
          exact ⟨by rw [HF.out]; rfl, Below.refl _ _⟩
      · have d1 : decide ((s.size : Int) > 9000) = true := by simp; omega
        clear h hn hk h1
        go_enter Try.func17, Try.ntmps17
        go_wp2_with fail
        refine HOK.out.mono ?_
        rintro e w0 ⟨rfl, hw0⟩
        subst hw0
        go_wp2_with fail
        go_ret2
        exact ⟨by rw [HF.out]; rfl, Below.refl _ _⟩
end Go.Proofs.Ytjdilanmkgodnaa

/- Symbols that were packed are read as they are (mathematics). -/
namespace Go.Proofs.Ytjdilanmkgodnaa

theorem put_sym {zs ls : List Int} (h : Cp.Ok zs ls) {k : Nat} (hk : k < zs.length) (hk' : k < (Cp.put zs ls).length) : ∃ i L V : Nat, zs[k] = (i : Int) ∧ Mk.Sym ls i L V ∧ (Cp.put zs ls)[k] = (((turned V L : Nat) : Int), (L : Int)) := by
  obtain ⟨h1, h2, h3⟩ := h.2.2 zs[k] (List.getElem_mem hk)
  obtain ⟨i, hi⟩ : ∃ i : Nat, zs[k] = (i : Int) := ⟨zs[k].toNat, by omega⟩
  rw [hi, Int.toNat_natCast] at h3
  rw [hi] at h2
  have hil : i < ls.length := by omega
  obtain ⟨V, S, hV, hS, _, hS15⟩ := Cp.parts h.1 i hil
  refine ⟨i, S, V, hi, ⟨hil, hS, ?_, hS15, hV⟩, ?_⟩
  · rw [hS] at h3; omega
  · have e : (Cp.put zs ls)[k]? = some (Cp.bit ls (zs[k]).toNat) := by rw [Cp.put_yes h, List.getElem?_map, List.getElem?_eq_getElem hk]; rfl
    rw [List.getElem?_eq_getElem hk', hi, Int.toNat_natCast, Cp.bit_of hV hS] at e
    exact Option.some.inj e

theorem put_length {zs ls : List Int} (h : Cp.Ok zs ls) : (Cp.put zs ls).length = zs.length := by rw [Cp.put_yes h, List.length_map]

theorem put_tot {zs ls : List Int} (h : Cp.Ok zs ls) : ∀ i, i ≤ zs.length → Bp.tot (Cp.put zs ls) i ≤ 15 * i
  | 0, _ => by simp [Bp.tot]
  | i + 1, hi => by
    have hi' : i < (Cp.put zs ls).length := by rw [put_length h]; omega
    obtain ⟨_, L, V, _, hS, e⟩ := put_sym h (k := i) (by omega) hi'
    have := put_tot h i (by omega)
    have hL := hS.le
    rw [Bp.tot_succ _ _ hi', e]
    simp only [Int.toNat_natCast]
    omega

theorem put_fits {zs ls : List Int} (h : Cp.Ok zs ls) (hn : zs.length ≤ 11) : Bp.Fits (Cp.put zs ls) (Cp.put zs ls).length := by
  intro j hj _
  have hl := put_length h
  obtain ⟨_, L, V, _, hS, e⟩ := put_sym h (k := j) (by omega) hj
  have := put_tot h (j + 1) (by omega)
  have hL := hS.le
  refine ⟨?_, by omega⟩
  rw [e]
  refine ⟨by simp, by simp; omega, by simp, ?_⟩
  simp only [Int.toNat_natCast]
  exact turned_lt V L

/-- each symbol is read where it was put -/
theorem code_back {zs ls : List Int} (h : Cp.Ok zs ls) (hn : zs.length ≤ 11) {k : Nat} (hk : k < zs.length) : ∃ i L V : Nat, zs[k] = (i : Int) ∧ Mk.Sym ls i L V ∧ Bp.tot (Cp.put zs ls) (k + 1) = Bp.tot (Cp.put zs ls) k + L ∧ cgAns (textOf false (Cp.put zs ls)) ((Bp.tot (Cp.put zs ls) k : Nat) : Int) ls = ((i : Int), ((Bp.tot (Cp.put zs ls) k + L : Nat) : Int)) := by
  have hl := put_length h
  have hk' : k < (Cp.put zs ls).length := by omega
  have hf := put_fits h hn
  obtain ⟨i, L, V, h1, hS, e⟩ := put_sym h hk hk'
  have ht := Bp.tot_succ _ _ hk'
  rw [e] at ht
  simp only [Int.toNat_natCast] at ht
  have hm := tot_mono (Cp.put zs ls) _ (Nat.le_refl _) (k + 1) (by omega)
  have hsz := textOf_size (hi := false) hf
  have ht2 := put_tot h zs.length (Nat.le_refl _)
  rw [← hl] at ht2
  have hg := goodC h.1
  refine ⟨i, L, V, h1, hS, ht, cgAns_some ⟨h.1, by omega, by omega, by omega⟩ (Gt.get_hit hg hS (bitAt_lt _ _) (by omega) ?_)⟩
  rw [Gt.big_same (c := fun j => turned V L / 2 ^ j % 2) L (fun j hj => ?_)]
  · exact Gt.turned_back (hS.bits hg.taken)
  · rw [bitAt_text hf _ (by omega)]
    have := Bp.fOf_at false _ k j hk' (by rw [e]; simpa using hj)
    rw [this, e]
    rfl
end Go.Proofs.Ytjdilanmkgodnaa

/- Two lists of bits held against each other by the laws. -/
namespace Go.Proofs.Ytjdilanmkgodnaa
open Go.RowKit

set_option maxHeartbeats 1000000 in
set_option maxRecDepth 40000 in
theorem wiBits_same (a : Option Addr) (cap : Nat) (b : Option Addr) (cap' n : Nat) (l : List (Int × Int)) (w : World) (h : Bits2 w a l) (g : Bits2 w b l) (hn : l.length = n) (hl : n ≤ 2000000) :
    Calls Try.prog 22 #[.slice a n cap, .slice b n cap'] w fun e w' => e = .returned (.bool true) ∧ ∃ m, w' = w.drewN m := by
  have HI : Hid (Bits2 w a l) := h
  have HG : Hid (Bits2 w b l) := g
  have hzg : n ≤ l.length := by omega
  have t1 := Try.underlying40
  have t4 := Try.underlying3
  have t2 : Try.prog.stoodInHeld 40 = false := by kernel_rfl
  have t3 : Try.prog.eqGuardType Try.prog.depth 40 = false := by kernel_rfl
  clear h g hn
  go_enter Try.func22, Try.ntmps22
  go_wp2_with fail
  go_loopw [5] (fun i wr => ∃ k m : Nat, k ≤ n ∧ i = .int .i64 k ∧ wr = w.drewN m) (fun i _ => n - (intOf i).toNat)
  case atStart => exact ⟨0, 0, Nat.zero_le _, rfl, rfl⟩
  case round =>
    obtain ⟨k, m, hk, rfl, hwr⟩ := hrel
    have HWR : Hid (wr = w.drewN m) := hwr
    by_cases hlt : k < n
    · have hkl : k < l.length := by omega
      obtain ⟨b1, off1, rfl, hb1, c0, c1⟩ := HI.out.at hkl
      obtain ⟨b2, off2, rfl, hb2, d0, d1⟩ := HG.out.at hkl
      have cc : ∀ a, wr.cell? a = w.cell? a := fun a => by rw [hwr]; rfl
      rw [← cc] at c0 c1 d0 d1
      have hki : (k : Int) < (n : Int) := by omega
      clear HI HG hwr cc
      generalize (l[k]).1 = v0 at *
      generalize (l[k]).2 = v1 at *
      go_wp2_with fail
      go_quiet (fail)
      go_wp2_with fail
      go_roundw
      case rel => exact ⟨k + 1, m + nq, by omega, by go_num, by rw [HWR.out, World.drewN_drewN]⟩
      case measure => simp [intOf]; omega
    · clear hwr
      go_wp2_with fail
      go_ret
      exact ⟨rfl, m, HWR.out⟩
end Go.Proofs.Ytjdilanmkgodnaa

/- CodePut of the program, for every list and code. -/
namespace Go.Proofs.Ytjdilanmkgodnaa
open Go.RowKit

/-- what is made of a list of symbols, place by place -/
def symL (ls zs : List Int) : List (Int × Int) := zs.map (fun z => Cp.bit ls z.toNat)
theorem symL_len (ls zs : List Int) : (symL ls zs).length = zs.length := by simp [symL]
theorem symL_get (ls zs : List Int) (k : Nat) (h : k < (symL ls zs).length) : (symL ls zs)[k] = Cp.bit ls (zs[k]'(by simpa [symL] using h)).toNat := by simp [symL]

theorem not_ok {ls zs : List Int} {k : Nat} (hk : k < zs.length) (h : ¬ Cp.Good ls zs[k]) : ¬ Cp.Ok zs ls := fun g => h (g.2.2 zs[k] (List.getElem_mem hk))

set_option maxHeartbeats 2000000 in
set_option maxRecDepth 20000 in
theorem impl_codePut_yes (a : Option Addr) (n cap : Nat) (zs : List Int) (b : Option Addr) (m cap' : Nat) (ls : List Int) (w : World) (h : Ints w a zs) (hn : zs.length = n) (hl : n ≤ 9000) (g : Ints w b ls) (hm : ls.length = m) (hm3 : m ≤ 300) (hok : Cd.okB ls = true) :
    Calls Try.prog 19 #[.slice a n cap, .slice b m cap'] w fun e w' => (∃ v L c, e = .returned (.slice v L c) ∧ (Cp.put zs ls).length = L ∧ OwnP w' w.heap.size (.slice v L c) L (Cp.put zs ls)) ∧ Below w.heap.size w w' := by
  have HOK : Hid (Calls Try.prog 12 #[.slice b m cap'] w fun e w' => e = .returned (.bool true) ∧ w' = w) := by
    have := impl_codeOk b cap' m ls w g hm (by omega)
    rw [hok] at this; exact this
  have HCB : Hid (Calls Try.prog 44 #[.slice b m cap'] w fun e w' => e = .returned (.slice (some ⟨w.heap.size, 0, none⟩) m m) ∧ OwnP w' w.heap.size (.slice (some ⟨w.heap.size, 0, none⟩) m m) m (Cp.all ls) ∧ Below w.heap.size w w') := codeBits_any b m cap' ls w g hm hm3 hok
  have d1 : decide ((9000 : Int) < (n : Int)) = false := by simp; omega
  have hmk := fun w => make_pairs n (by omega) w
  have HI : Hid (Ints w a zs ∧ zs.length = n) := ⟨h, hn⟩
  have HG : Hid (Ints w b ls ∧ ls.length = m ∧ Cd.okB ls = true) := ⟨g, hm, hok⟩
  clear h hn g hm hok
  go_enter Try.func19, Try.ntmps19
  go_wp2_with fail
  refine HOK.out.mono ?_
  rintro e w1 ⟨rfl, hw1⟩
  have hv1 := hw1.symm
  subst hv1
  go_wp2_with fail
  refine HCB.out.mono ?_
  rintro e w2 ⟨rfl, hP2, b2⟩
  have hlt2 : w.heap.size < w2.heap.size := by
    by_cases h0 : 0 < m
    · exact (World.ownsRow.lt hP2 w.heap.size rfl).2
    · exact (World.ownsRow.lt hP2 w.heap.size rfl).2
  obtain ⟨W3, hW3⟩ : ∃ W3, W3 = w2.alloc (.cells (madeCells #[.int .i64 0, .int .i64 0] (n * 2)) 40) := ⟨_, rfl⟩
  have hown := own_made w2 (symL ls zs) (by rw [symL_len, HI.out.2]; omega)
  rw [symL_len, HI.out.2, ← hW3] at hown
  have b3 : Below w2.heap.size w2 W3 := by rw [hW3]; exact (Below.refl _ _).alloc (Nat.le_refl _) _
  have hs3 : W3.heap.size = w2.heap.size + 1 := by rw [hW3]; simp
  have HF : Hid (OwnP W3 w2.heap.size (.slice (some ⟨w2.heap.size, 0, none⟩) n n) n (half (symL ls zs) 0) ∧ OwnP W3 w.heap.size (.slice (some ⟨w.heap.size, 0, none⟩) m m) m (Cp.all ls) ∧ Ints W3 a zs ∧ Ints W3 b ls ∧ Below w.heap.size w W3) :=
    ⟨hown, hP2.kept b3, (HI.out.1.kept b2).kept b3, (HG.out.1.kept b2).kept b3, b2.trans (b3.mono b2.size)⟩
  have HA : Hid ((∀ y, a = some y → zs ≠ [] → y.block < w.heap.size) ∧ (∀ y, b = some y → ls ≠ [] → y.block < w.heap.size)) := by
    constructor
    · intro y hy hne
      rcases HI.out.1 with q | ⟨bb, off, e, hb, _⟩
      · exact absurd q hne
      · rw [e] at hy; cases hy; exact hb
    · intro y hy hne
      rcases HG.out.1 with q | ⟨bb, off, e, hb, _⟩
      · exact absurd q hne
      · rw [e] at hy; cases hy; exact hb
  have HW3 : Hid (W3 = w2.alloc (.cells (madeCells #[.int .i64 0, .int .i64 0] (n * 2)) 40)) := hW3
  clear hown hP2 b2 b3 hs3 HOK HCB hW3
  go_wp2_with fail
  rw [← HW3.out]
  clear hmk
  go_loopw [24] (fun i wr => ∃ k : Nat, k ≤ n ∧ i = .int .i64 k ∧ (∀ j (hj : j < zs.length), j < k → Cp.Good ls zs[j]) ∧ OwnP wr w2.heap.size (.slice (some ⟨w2.heap.size, 0, none⟩) n n) n (half (symL ls zs) k) ∧ Turned w2.heap.size W3 wr) (fun i _ => n - (intOf i).toNat)
  case atStart => exact ⟨0, Nat.zero_le _, rfl, fun j hj h0 => absurd h0 (by omega), HF.out.1, Turned.refl _ _⟩
  case round =>
    obtain ⟨k, hk, rfl, hall, hP, hT⟩ := hrel
    have HL : Hid (∀ j (hj : j < zs.length), j < k → Cp.Good ls zs[j]) := hall
    clear hall
    by_cases hlt : k < n
    · have hkl : k < zs.length := by have := HI.out.2; omega
      have hnz : zs ≠ [] := by intro q; rw [q] at hkl; simp at hkl
      obtain ⟨b1, o1, e1, hb1, c1⟩ := (HF.out.2.2.1).at hkl
      have hlt1 : b1 < w.heap.size := HA.out.1 _ e1 hnz
      subst e1
      have d2 := (hT.cell (c := b1) (by omega) (o1 + k)).trans c1
      obtain ⟨x, hx⟩ : ∃ x, x = zs[k] := ⟨_, rfl⟩
      rw [← hx] at d2
      have HX : Hid (x = zs[k]) := hx
      have hki : (k : Int) < (n : Int) := by omega
      clear hx c1 hb1
      by_cases hx0 : x < 0
      · have e1 : decide (x < 0) = true := by simpa using hx0
        have HP0 : Hid (Cp.put zs ls = []) := Cp.put_no (not_ok hkl (by rw [← HX.out]; exact fun q => by have := q.1; omega))
        have HB : Hid (Below w.heap.size w _) := HF.out.2.2.2.2.trans (hT.below (by omega))
        clear hP hT
        go_wp2_with fail
        go_ret
        rw [HP0.out]
        exact ⟨⟨_, _, _, rfl, rfl, World.ownsRow_nil _ _ _ _⟩, HB.out⟩
      · have e1 : decide (x < 0) = false := by simpa using hx0
        by_cases hxm : (m : Int) ≤ x
        · have e2 : decide ((m : Int) ≤ x) = true := by simpa using hxm
          have HP0 : Hid (Cp.put zs ls = []) := Cp.put_no (not_ok hkl (by rw [← HX.out]; exact fun q => by have := q.2.1; have := HG.out.2.1; omega))
          have HB : Hid (Below w.heap.size w _) := HF.out.2.2.2.2.trans (hT.below (by omega))
          clear hP hT
          go_wp2_with fail
          go_ret
          rw [HP0.out]
          exact ⟨⟨_, _, _, rfl, rfl, World.ownsRow_nil _ _ _ _⟩, HB.out⟩
        · have e2 : decide ((m : Int) ≤ x) = false := by simpa using hxm
          obtain ⟨s, rfl⟩ := Int.eq_ofNat_of_zero_le (show 0 ≤ x by omega)
          have hsm : s < m := by omega
          have hsl : s < ls.length := by have := HG.out.2.1; omega
          have hnl : ls ≠ [] := by intro q; rw [q] at hsl; simp at hsl
          obtain ⟨bb, oo, eb, hbb, cb⟩ := (HF.out.2.2.2.1).at hsl
          have hltb : bb < w.heap.size := HA.out.2 _ eb hnl
          subst eb
          obtain ⟨V, S, hV, hS, hVb, hSb⟩ := Cp.parts HG.out.2.2 s hsl
          have d3 : wr.cell? ⟨bb, oo + s, none⟩ = some (.int .i64 (S : Int)) := (hT.cell (c := bb) (by omega) (oo + s)).trans (by rw [cb, ← hS, List.getD_eq_getElem?_getD, List.getElem?_eq_getElem hsl]; rfl)
          have hsi : (s : Int) < (m : Int) := by omega
          clear cb hbb
          by_cases hS0 : S = 0
          · have HP0 : Hid (Cp.put zs ls = []) := Cp.put_no (not_ok hkl (by rw [← HX.out]; exact fun q => by have h3 := q.2.2; rw [Int.toNat_natCast, hS, hS0] at h3; exact h3 rfl))
            subst hS0
            have HB : Hid (Below w.heap.size w _) := HF.out.2.2.2.2.trans (hT.below (by omega))
            clear hP hT hV hS
            go_wp2_with fail
            go_ret
            rw [HP0.out]
            exact ⟨⟨_, _, _, rfl, rfl, World.ownsRow_nil _ _ _ _⟩, HB.out⟩
          · have e3 : ((S : Int) == 0) = false := by simp; omega
            have HGD : Hid (Cp.Good ls zs[k]) := by rw [← HX.out]; exact ⟨by omega, by have := HG.out.2.1; omega, by rw [Int.toNat_natCast, hS]; omega⟩
            have hbit := Cp.bit_of hV hS
            have hka : k < (symL ls zs).length := by rw [symL_len]; exact hkl
            have hset := half_set (symL ls zs) k hka
            rw [symL_get, ← HX.out, Int.toNat_natCast, hbit] at hset
            have hput := hP.put (k := k) hlt ((turned V S : Nat) : Int) (S : Int)
            rw [hset] at hput
            have hTT := (hT.set (k * 2) (.int .i64 ((turned V S : Nat) : Int))).set (k * 2 + 1) (.int .i64 (S : Int))
            have hall := HF.out.2.1
            have hsa : s < (Cp.all ls).length := by rw [Cp.all_len]; exact hsl
            have q0 : wr.cell? ⟨w.heap.size, s * 2, none⟩ = some (.int .i64 ((turned V S : Nat) : Int)) := (hT.cell (c := w.heap.size) (by omega) (s * 2)).trans ((World.ownsRow.cellAt hall (s * 2) (by omega)).trans (by rw [(cellsOf_get (Cp.all ls) s hsa).1, Cp.all_get, hbit]))
            have q1 : wr.cell? ⟨w.heap.size, s * 2 + 1, none⟩ = some (.int .i64 (S : Int)) := (hT.cell (c := w.heap.size) (by omega) (s * 2 + 1)).trans ((World.ownsRow.cellAt hall (s * 2 + 1) (by omega)).trans (by rw [(cellsOf_get (Cp.all ls) s hsa).2, Cp.all_get, hbit]))
            obtain ⟨u0, hu0⟩ : ∃ u0, wr.cell? ⟨w2.heap.size, k * 2, none⟩ = some u0 := ⟨_, (World.ownsRow.cellAt hP (k * 2) (by omega)).trans (cellsOf_get (half (symL ls zs) k) k (half_get _ _ hka)).1⟩
            obtain ⟨u1, hu1⟩ : ∃ u1, wr.cell? ⟨w2.heap.size, k * 2 + 1, none⟩ = some u1 := ⟨_, (World.ownsRow.cellAt hP (k * 2 + 1) (by omega)).trans (cellsOf_get (half (symL ls zs) k) k (half_get _ _ hka)).2⟩
            have z0 := World.ownsRow.frozenAt hP (k * 2)
            have z1 := World.ownsRow.frozenAt hP (k * 2 + 1)
            have HN : Hid (OwnP _ w2.heap.size (.slice (some ⟨w2.heap.size, 0, none⟩) n n) n (half (symL ls zs) (k + 1)) ∧ Turned w2.heap.size W3 _) := ⟨hput, hTT⟩
            generalize turned V S = T at *
            clear hP hT hput hTT hset hbit hV hS hall hka hsa
            go_wp2_with fail
            go_roundw
            case rel =>
              refine ⟨k + 1, by omega, by go_num, fun j hj h1 => ?_, HN.out.1, HN.out.2⟩
              by_cases e : j < k
              · exact HL.out j hj e
              · have : j = k := by omega
                subst this
                exact HGD.out
            case measure => simp [intOf]; omega
    · have hk' : k = n := by omega
      subst hk'
      have hgood : Cp.Ok zs ls := ⟨HG.out.2.2, by have := HI.out.2; omega, fun z hz => by
        obtain ⟨j, hj, rfl⟩ := List.getElem_of_mem hz
        exact HL.out j hj (by have := HI.out.2; omega)⟩
      have hput : Cp.put zs ls = symL ls zs := Cp.put_yes hgood
      have hall : half (symL ls zs) k = symL ls zs := by
        have := half_all (symL ls zs)
        rw [symL_len, HI.out.2] at this; exact this
      rw [hall, ← hput] at hP
      have HE : Hid (OwnP wr w.heap.size (.slice (some ⟨w2.heap.size, 0, none⟩) k k) k (Cp.put zs ls) ∧ Below w.heap.size w wr ∧ (Cp.put zs ls).length = k) := by
        refine ⟨⟨hP.1, ?_⟩, HF.out.2.2.2.2.trans (hT.below (by omega)), by rw [hput, symL_len]; exact HI.out.2⟩
        rcases hP.2 with q | ⟨g, c, cur, e, hg, r⟩
        · exact .inl q
        · exact .inr ⟨g, c, cur, e, by omega, r⟩
      clear hP hT hall hput hgood
      go_wp2_with fail
      go_ret
      exact ⟨⟨_, _, _, rfl, HE.out.2.2, HE.out.1⟩, HE.out.2.1⟩

set_option maxHeartbeats 1000000 in
theorem impl_codePut (a : Option Addr) (n cap : Nat) (zs : List Int) (b : Option Addr) (m cap' : Nat) (ls : List Int) (w : World) (h : Ints w a zs) (hn : zs.length = n) (hl : n ≤ 1048576) (g : Ints w b ls) (hm : ls.length = m) (hm2 : m ≤ 1048576) :
    Calls Try.prog 19 #[.slice a n cap, .slice b m cap'] w fun e w' => (∃ v L c, e = .returned (.slice v L c) ∧ (Cp.put zs ls).length = L ∧ OwnP w' w.heap.size (.slice v L c) L (Cp.put zs ls)) ∧ Below w.heap.size w w' := by
  have HOK := impl_codeOk b cap' m ls w g hm hm2
  cases hok : Cd.okB ls
  · rw [hok] at HOK
    have HO : Hid (Calls Try.prog 12 #[.slice b m cap'] w fun e w' => e = .returned (.bool false) ∧ w' = w) := HOK
    have HP0 : Hid (Cp.put zs ls = []) := Cp.put_no (fun q => by have := q.1; rw [hok] at this; cases this)
    clear HOK hok h g hn hm
    go_enter Try.func19, Try.ntmps19
    go_wp2_with fail
    refine HO.out.mono ?_
    rintro e w1 ⟨rfl, hw1⟩
    have hv1 := hw1.symm
    subst hv1
    go_wp2_with fail
    go_ret
    rw [HP0.out]
    exact ⟨⟨_, _, _, rfl, rfl, World.ownsRow_nil _ _ _ _⟩, Below.refl _ _⟩
  · by_cases hbig : 9000 < n
    · rw [hok] at HOK
      have HO : Hid (Calls Try.prog 12 #[.slice b m cap'] w fun e w' => e = .returned (.bool true) ∧ w' = w) := HOK
      have HP0 : Hid (Cp.put zs ls = []) := Cp.put_no (fun q => by have := q.2.1; omega)
      have d1 : decide ((9000 : Int) < (n : Int)) = true := by simp; omega
      clear HOK hok h g hn hm
      go_enter Try.func19, Try.ntmps19
      go_wp2_with fail
      refine HO.out.mono ?_
      rintro e w1 ⟨rfl, hw1⟩
      have hv1 := hw1.symm
      subst hv1
      go_wp2_with fail
      go_ret
      rw [HP0.out]
      exact ⟨⟨_, _, _, rfl, rfl, World.ownsRow_nil _ _ _ _⟩, Below.refl _ _⟩
    · exact impl_codePut_yes a n cap zs b m cap' ls w h hn (by omega) g hm (by rw [← hm]; exact okB_len' hok) hok
end Go.Proofs.Ytjdilanmkgodnaa

/- CodePut of the specification, for every list and code. -/
namespace Go.Proofs.Ytjdilanmkgodnaa
open Go.RowKit

theorem take_map_snoc (ls zs : List Int) (k : Nat) (h : k < zs.length) : (zs.take (k + 1)).map (fun z => Cp.bit ls z.toNat) = (zs.take k).map (fun z => Cp.bit ls z.toNat) ++ [Cp.bit ls (zs[k]).toNat] := by
  rw [List.take_succ_eq_append_getElem h, List.map_append]; rfl
theorem not_ok' {ls zs : List Int} {k : Nat} (hk : k < zs.length) (h : ¬ Cp.Good ls zs[k]) : ¬ Cp.Ok zs ls := fun g => h (g.2.2 zs[k] (List.getElem_mem hk))

set_option maxHeartbeats 2000000 in
set_option maxRecDepth 20000 in
theorem spec_codePut_yes (a : Option Addr) (n cap : Nat) (zs : List Int) (b : Option Addr) (m cap' : Nat) (ls : List Int) (w : World) (h : Ints w a zs) (hn : zs.length = n) (hl : n ≤ 9000) (g : Ints w b ls) (hm : ls.length = m) (hm3 : m ≤ 300) (hok : Cd.okB ls = true) :
    Calls Try.prog 23 #[.slice a n cap, .slice b m cap'] w fun e w' => (∃ v L c, e = .returned (.slice v L c) ∧ (Cp.put zs ls).length = L ∧ Bits2 w' v (Cp.put zs ls)) ∧ Below w.heap.size w w' := by
  obtain ⟨i0, hi0, hz0, hz1, hz2⟩ := info_parts info_bit
  have b0 : Below w.heap.size w (w.alloc (.cells #[] 40)) := (Below.refl _ _).alloc (Nat.le_refl _) _
  have HOK : Hid (Calls Try.prog 13 #[.slice b m cap'] (w.alloc (.cells #[] 40)) fun e w' => e = .returned (.bool true) ∧ w' = w.alloc (.cells #[] 40)) := by
    have := spec_codeOk b cap' m ls (w.alloc (.cells #[] 40)) (g.kept b0) hm (by omega)
    rw [hok] at this; exact this
  have HMK : Hid (Calls Try.prog 33 #[.slice b m cap'] (w.alloc (.cells #[] 40)) fun e w' => e = .returned (.slice (some ⟨(w.alloc (.cells #[] 40)).heap.size, 0, none⟩) m m) ∧ w' = (w.alloc (.cells #[] 40)).alloc (.cells (arr (Mk.mk ls)) 3)) := l3Make_any b cap' m ls _ (g.kept b0) hm hm3
  have hs0 : (w.alloc (.cells #[] 40)).heap.size = w.heap.size + 1 := by simp
  obtain ⟨W, hW⟩ : ∃ W, W = (w.alloc (.cells #[] 40)).alloc (.cells (arr (Mk.mk ls)) 3) := ⟨_, rfl⟩
  have hbW : Below w.heap.size w W := by rw [hW]; exact b0.alloc (by simp) _
  have hEW : OwnP W w.heap.size (.slice (some ⟨w.heap.size, 0, none⟩) 0 0) 0 [] := by rw [hW]; exact World.ownsRow.alloc (own_none w) _
  have hNW : Ints W (some ⟨w.heap.size + 1, 0, none⟩) (Mk.mk ls) := by
    have := (owns_arr (w.alloc (.cells #[] 40)) (Mk.mk ls)).ints
    rw [← hW, hs0] at this; exact this
  have hsW : W.heap.size = w.heap.size + 1 + 1 := by rw [hW]; simp
  have d1 : decide ((9000 : Int) < (n : Int)) = false := by simp; omega
  have HI : Hid (Ints w a zs ∧ zs.length = n) := ⟨h, hn⟩
  have HG : Hid (Ints w b ls ∧ ls.length = m ∧ Cd.okB ls = true) := ⟨g, hm, hok⟩
  have HF : Hid (Below w.heap.size w W ∧ OwnP W w.heap.size (.slice (some ⟨w.heap.size, 0, none⟩) 0 0) 0 [] ∧ Ints W (some ⟨w.heap.size + 1, 0, none⟩) (Mk.mk ls) ∧ W.heap.size = w.heap.size + 1 + 1) := ⟨hbW, hEW, hNW, hsW⟩
  have HW : Hid (W = (w.alloc (.cells #[] 40)).alloc (.cells (arr (Mk.mk ls)) 3)) := hW
  clear h hn g hm hok b0 hbW hEW hNW hsW hW hs0
  go_enter Try.func23, Try.ntmps23
  go_wp2_with fail
  refine HOK.out.mono ?_
  rintro e w1 ⟨rfl, hw1⟩
  subst hw1
  go_wp2_with fail
  refine HMK.out.mono ?_
  rintro e w1 ⟨rfl, hw1⟩
  rw [← HW.out] at hw1
  subst hw1
  clear HOK HMK
  go_wp2_with fail
  go_loopw [5, 7] (fun v i wr => ∃ (k : Nat) (vv : Value), k ≤ n ∧ i = .int .i64 k ∧ vv = v ∧ (∀ j (hj : j < zs.length), j < k → Cp.Good ls zs[j]) ∧ OwnP wr w.heap.size vv k ((zs.take k).map (fun z => Cp.bit ls z.toNat)) ∧ (vv.ownBlock ≠ some (w.heap.size + 1)) ∧ Below w.heap.size w wr ∧ Ints wr (some ⟨w.heap.size + 1, 0, none⟩) (Mk.mk ls) ∧ w.heap.size + 1 + 1 ≤ wr.heap.size) (fun _ i _ => n - (intOf i).toNat)
  case atStart => exact ⟨0, _, Nat.zero_le _, rfl, rfl, fun j hj h0 => absurd h0 (by omega), HF.out.2.1, (fun e => absurd (Option.some.inj e) (show ¬ w.heap.size = w.heap.size + 1 by omega)), HF.out.1, HF.out.2.2.1, Nat.le_of_eq HF.out.2.2.2.symm⟩
  case round =>
    obtain ⟨k, vv, hk, rfl, rfl, hall, hown, hvb, hbel, hNU, hsz⟩ := hrel
    have HL : Hid (∀ j (hj : j < zs.length), j < k → Cp.Good ls zs[j]) := hall
    have HNU : Hid (Ints wr (some ⟨w.heap.size + 1, 0, none⟩) (Mk.mk ls)) := hNU
    clear hall hNU
    by_cases hlt : k < n
    · have hkl : k < zs.length := by have := HI.out.2; omega
      obtain ⟨b1, o1, e1, hb1, c1⟩ := (HI.out.1.kept hbel).at hkl
      have hlb1 : b1 < w.heap.size := by
        rcases HI.out.1 with q | ⟨bb, off, e, hb, _⟩
        · rw [q] at hkl; simp at hkl
        · rw [e] at e1; cases e1; exact hb
      subst e1
      obtain ⟨x, hx⟩ : ∃ x, x = zs[k] := ⟨_, rfl⟩
      rw [← hx] at c1
      have HX : Hid (x = zs[k]) := hx
      have hki : (k : Int) < (n : Int) := by omega
      clear hx
      by_cases hin : 0 ≤ x ∧ x ≤ (m : Int) - 1
      · obtain ⟨s, rfl⟩ := Int.eq_ofNat_of_zero_le hin.1
        have hsm : s < m := by omega
        have hsl : s < ls.length := by have := HG.out.2.1; omega
        obtain ⟨bb, oo, eb, hbb, cb⟩ := (HG.out.1.kept hbel).at hsl
        obtain ⟨V, S, hV, hS, hVb, hSb⟩ := Cp.parts HG.out.2.2 s hsl
        have eS : ls[s] = (S : Int) := by rw [← hS, List.getD_eq_getElem?_getD, List.getElem?_eq_getElem hsl]; rfl
        have eV : (Mk.mk ls)[s]'(by rw [Mk.mk_len]; exact hsl) = (V : Int) := by rw [← hV, List.getD_eq_getElem?_getD, List.getElem?_eq_getElem (by rw [Mk.mk_len]; exact hsl)]; rfl
        rw [eS] at cb
        have HB2 : Hid (Ints wr b ls) := HG.out.1.kept hbel
        subst eb
        have HIN : Hid (0 ≤ (s : Int) ∧ (s : Int) ≤ (m : Int) - 1) := hin
        have hsi : (s : Int) < (m : Int) := by omega
        by_cases hS0 : S = 0
        · have HP0 : Hid (Cp.put zs ls = []) := Cp.put_no (not_ok' hkl (by rw [← HX.out]; exact fun q => by have h3 := q.2.2; rw [Int.toNat_natCast, hS, hS0] at h3; exact h3 rfl))
          subst hS0
          have HBL : Hid (Below w.heap.size w wr) := hbel
          clear hown hbel hV hS hvb hin eS eV
          go_wp2_with fail
          refine (l1In_yes _ _ _ _ HIN.out.1 HIN.out.2).mono ?_
          rintro e w4 ⟨rfl, hw4⟩
          have hv4 := hw4.symm
          subst hv4
          go_wp2_with fail
          go_ret
          rw [HP0.out]
          exact ⟨⟨_, _, _, rfl, rfl, .inl rfl⟩, HBL.out.alloc HBL.out.size _⟩
        · have e3 : ((S : Int) == 0) = false := by simp; omega
          have HGD : Hid (Cp.Good ls zs[k]) := by rw [← HX.out]; exact ⟨by omega, by have := HG.out.2.1; omega, by rw [Int.toNat_natCast, hS]; omega⟩
          have hbit := Cp.bit_of hV hS
          have HSY : Hid (Calls Try.prog 46 #[.slice (some ⟨w.heap.size + 1, 0, none⟩) m m, .slice (some ⟨bb, oo, none⟩) m cap', .int .i64 (s : Int)] wr fun e w' => e = .returned (.agg #[.int .i64 (turned V S : Nat), .int .i64 (S : Int)]) ∧ Below wr.heap.size wr w') :=
            l3Sym_any _ _ m m cap' s V S (Mk.mk ls) ls wr HNU.out HB2.out (by rw [Mk.mk_len]; exact HG.out.2.1) HG.out.2.1 hsm eV eS (by omega) hSb
          have hsn := take_map_snoc ls zs k hkl
          rw [← HX.out, Int.toNat_natCast, hbit] at hsn
          have HSN : Hid (_ = _) := hsn
          generalize (zs.take k).map (fun z => Cp.bit ls z.toNat) = l at *
          generalize turned V S = T at *
          clear hin eS eV hV hS hbit hsn
          go_wp2_with fail
          refine (l1In_yes _ _ _ _ HIN.out.1 HIN.out.2).mono ?_
          rintro e w4 ⟨rfl, hw4⟩
          have hv4 := hw4.symm
          subst hv4
          go_wp2_with fail
          refine HSY.out.mono ?_
          rintro e w5 ⟨rfl, b5⟩
          have hown5 : OwnP w5 w.heap.size vv k l := hown.same (fun q hq _ => b5.block q hq)
          have hbel5 := hbel.trans (b5.mono hbel.size)
          have HNU5 : Hid (Ints w5 (some ⟨w.heap.size + 1, 0, none⟩) (Mk.mk ls)) := HNU.out.kept b5
          have hsz5 : w.heap.size + 1 + 1 ≤ w5.heap.size := Nat.le_trans hsz b5.size
          clear hown hbel b5 HSY
          have hm63 : k + 1 ≤ maxLen := by unfold maxLen; omega
          have hlen : (k + 1) * 16 ≤ 140737488355328 := by omega
          have hone : ∀ u ∈ [Value.int .i64 (T : Int), Value.int .i64 (S : Int)], u.oneCell' = true := by intro u hu; simp at hu; rcases hu with rfl | rfl <;> rfl
          go_wp2_with (at_builtin; refine wpList_append_lies _ (by rfl) _ _ _ (by rfl) w.heap.size 40 i0 (.agg #[.int .i64 0, .int .i64 0]) 2 16 Try.underlying35 hi0 hz0 hz1 hz2 rfl (by decide) _ k (cellsOf l) (by rfl) (World.ownsRow.alloc (show World.ownsRow _ _ _ _ _ _ _ from hown5) _) ⟨w5.heap.size, 0, none⟩ 1 1 [.int .i64 (T : Int), .int .i64 (S : Int)] (by rfl) rfl (World.news_of_block (heap_alloc_new _ _)) hone (by decide) hm63 hlen (by simp; omega) (w5.heap.size + 1) (by simp) ?_)
          intro gg cap2 w6 hown6 hgrow hat hlt6
          have hlt0 := World.ownsRow.lt hown5
          have hb6 : Below w.heap.size w w6 := (hbel5.alloc hbel5.size _).grown hgrow (by simp; omega) (fun q hq => (hlt0 q hq).1)
          have hgb : gg ≠ w.heap.size + 1 := by
            rcases hat with e | e
            · intro q; rw [q] at e; exact hvb e
            · omega
          have HNU6 : Hid (Ints w6 (some ⟨w.heap.size + 1, 0, none⟩) (Mk.mk ls)) := by
            rcases HNU5.out with q | ⟨b7, o7, e7, hb7, hc7⟩
            · exact .inl q
            · cases e7
              refine .inr ⟨_, _, rfl, Nat.lt_of_lt_of_le (by simp; omega) hgrow.size, fun i hi => ?_⟩
              exact (hgrow.cell_far _ (by simp; omega) (fun q => hvb q.symm)).trans ((World.cell?_alloc_past _ _ _ hb7).trans (hc7 i hi))
          have H6 : Hid (OwnP w6 w.heap.size (.slice (some ⟨gg, 0, none⟩) (k + 1) cap2) (k + 1) ((zs.take (k + 1)).map (fun z => Cp.bit ls z.toNat)) ∧ Below w.heap.size w w6 ∧ w.heap.size + 1 + 1 ≤ w6.heap.size) := by
            refine ⟨?_, hb6, ?_⟩
            · rw [HSN.out]; exact OwnP.more hown6
            · have := hgrow.size; simp at this; omega
          clear hown6 hgrow hat hlt0 hown5 hbel5 hone hm63 hlen hlt6 hb6 HNU5 hvb hsz hsz5
          go_wp2_with fail
          go_roundw
          case rel =>
            refine ⟨k + 1, _, by omega, by go_num, rfl, fun j hj h1 => ?_, H6.out.1, (fun e => hgb (Option.some.inj e)), H6.out.2.1, HNU6.out, H6.out.2.2⟩
            by_cases e : j < k
            · exact HL.out j hj e
            · have : j = k := by omega
              subst this
              exact HGD.out
          case measure => simp [intOf]; omega
      · have HP0 : Hid (Cp.put zs ls = []) := Cp.put_no (not_ok' hkl (by rw [← HX.out]; exact fun q => hin ⟨q.1, by have := q.2.1; have := HG.out.2.1; omega⟩))
        have HIN : Hid (¬ (0 ≤ x ∧ x ≤ (m : Int) - 1)) := hin
        have HBL : Hid (Below w.heap.size w wr) := hbel
        clear hown hbel hvb hin
        go_wp2_with fail
        refine (l1In_no _ _ _ _ HIN.out).mono ?_
        rintro e w4 ⟨rfl, hw4⟩
        have hv4 := hw4.symm
        subst hv4
        go_wp2_with fail
        go_ret
        rw [HP0.out]
        exact ⟨⟨_, _, _, rfl, rfl, .inl rfl⟩, HBL.out.alloc HBL.out.size _⟩
    · have hk' : k = n := by omega
      subst hk'
      have hgood : Cp.Ok zs ls := ⟨HG.out.2.2, by have := HI.out.2; omega, fun z hz => by
        obtain ⟨j, hj, rfl⟩ := List.getElem_of_mem hz
        exact HL.out j hj (by have := HI.out.2; omega)⟩
      have hput : Cp.put zs ls = (zs.take k).map (fun z => Cp.bit ls z.toNat) := by rw [Cp.put_yes hgood, ← HI.out.2, List.take_length]
      rw [← hput] at hown
      have hln := hown.len
      obtain ⟨ao, c, rfl, hB⟩ := hown.bits
      have HE : Hid (Bits2 wr ao (Cp.put zs ls) ∧ Below w.heap.size w wr ∧ (Cp.put zs ls).length = k) := ⟨hB, hbel, hln⟩
      clear hown hB hbel hput hgood hvb hln
      go_wp2_with fail
      go_ret
      exact ⟨⟨_, _, _, rfl, HE.out.2.2, HE.out.1⟩, HE.out.2.1⟩

set_option maxHeartbeats 1000000 in
theorem spec_codePut (a : Option Addr) (n cap : Nat) (zs : List Int) (b : Option Addr) (m cap' : Nat) (ls : List Int) (w : World) (h : Ints w a zs) (hn : zs.length = n) (hl : n ≤ 1048576) (g : Ints w b ls) (hm : ls.length = m) (hm2 : m ≤ 1048576) :
    Calls Try.prog 23 #[.slice a n cap, .slice b m cap'] w fun e w' => (∃ v L c, e = .returned (.slice v L c) ∧ (Cp.put zs ls).length = L ∧ Bits2 w' v (Cp.put zs ls)) ∧ Below w.heap.size w w' := by
  have b0 : Below w.heap.size w (w.alloc (.cells #[] 40)) := (Below.refl _ _).alloc (Nat.le_refl _) _
  have HOK := spec_codeOk b cap' m ls (w.alloc (.cells #[] 40)) (g.kept b0) hm hm2
  cases hok : Cd.okB ls
  · rw [hok] at HOK
    have HO : Hid (Calls Try.prog 13 #[.slice b m cap'] (w.alloc (.cells #[] 40)) fun e w' => e = .returned (.bool false) ∧ w' = w.alloc (.cells #[] 40)) := HOK
    have HP0 : Hid (Cp.put zs ls = []) := Cp.put_no (fun q => by have := q.1; rw [hok] at this; cases this)
    clear HOK hok h g hn hm
    go_enter Try.func23, Try.ntmps23
    go_wp2_with fail
    refine HO.out.mono ?_
    rintro e w1 ⟨rfl, hw1⟩
    subst hw1
    go_wp2_with fail
    go_ret
    rw [HP0.out]
    exact ⟨⟨_, _, _, rfl, rfl, .inl rfl⟩, b0⟩
  · by_cases hbig : 9000 < n
    · rw [hok] at HOK
      have HO : Hid (Calls Try.prog 13 #[.slice b m cap'] (w.alloc (.cells #[] 40)) fun e w' => e = .returned (.bool true) ∧ w' = w.alloc (.cells #[] 40)) := HOK
      have HP0 : Hid (Cp.put zs ls = []) := Cp.put_no (fun q => by have := q.2.1; omega)
      have d1 : decide ((9000 : Int) < (n : Int)) = true := by simp; omega
      clear HOK hok h g hn hm
      go_enter Try.func23, Try.ntmps23
      go_wp2_with fail
      refine HO.out.mono ?_
      rintro e w1 ⟨rfl, hw1⟩
      subst hw1
      go_wp2_with fail
      go_ret
      rw [HP0.out]
      exact ⟨⟨_, _, _, rfl, rfl, .inl rfl⟩, b0⟩
    · exact spec_codePut_yes a n cap zs b m cap' ls w h hn (by omega) g hm (by rw [← hm]; exact okB_len' hok) hok
end Go.Proofs.Ytjdilanmkgodnaa

/- BitsPut of the program, for every list of bits. -/
namespace Go.Proofs.Ytjdilanmkgodnaa
open Go.RowKit

theorem shr_zero (V S : Nat) (h : V < 2 ^ S) : ((V : Int) / 2 ^ S == 0) = true := by
  have e : (V : Int) / 2 ^ S = ((V / 2 ^ S : Nat) : Int) := by simp
  rw [e, Nat.div_eq_of_lt h]; rfl
theorem shr_more (V S : Nat) (h : ¬ V < 2 ^ S) : ((V : Int) / 2 ^ S == 0) = false := by
  have e : (V : Int) / 2 ^ S = ((V / 2 ^ S : Nat) : Int) := by simp
  have hp : 0 < V / 2 ^ S := Nat.div_pos (by omega) (Nat.pow_pos (by omega))
  rw [e, beq_eq_false_iff_ne]; omega

set_option maxHeartbeats 1000000 in
theorem bitOk_any (p : Int × Int) (w : World) (h1 : -9223372036854775808 ≤ p.1) (h2 : p.1 ≤ 9223372036854775807) :
    Calls Try.prog 47 #[.agg #[.int .i64 p.1, .int .i64 p.2]] w fun e w' => e = .returned (.bool (Bp.okB p)) ∧ Below w.heap.size w w' := by
  obtain ⟨v, s⟩ := p
  simp only at h1 h2 ⊢
  by_cases a1 : 0 ≤ s
  · have d1 : decide (0 ≤ s) = true := by simpa using a1
    by_cases a2 : s ≤ 24
    · have d2 : decide (s ≤ 24) = true := by simpa using a2
      by_cases a3 : 0 ≤ v
      · have d3 : decide (0 ≤ v) = true := by simpa using a3
        obtain ⟨S, rfl⟩ := Int.eq_ofNat_of_zero_le a1
        obtain ⟨V, rfl⟩ := Int.eq_ofNat_of_zero_le a3
        by_cases a4 : V < 2 ^ S
        · have hok : Bp.okB ((V : Int), (S : Int)) = true := Bp.okB_true ⟨a1, a2, a3, by
            show (V : Int).toNat < 2 ^ (S : Int).toNat
            rw [Int.toNat_natCast, Int.toNat_natCast]; exact a4⟩
          have hz := shr_zero V S a4
          have HO : Hid (Bp.okB ((V : Int), (S : Int)) = true) := hok
          have hS24 : S ≤ 24 := by omega
          clear hok a4 a1 a2 a3
          go_enter Try.func47, Try.ntmps47
          go_wp2_with fail
          go_ret
          exact ⟨by rw [HO.out]; rfl, (Below.refl _ _).alloc (Nat.le_refl _) _⟩
        · have hok : Bp.okB ((V : Int), (S : Int)) = false := Bp.okB_false (fun g => a4 (by
            have h4 : (V : Int).toNat < 2 ^ (S : Int).toNat := g.2.2.2
            rw [Int.toNat_natCast, Int.toNat_natCast] at h4; exact h4))
          have hz := shr_more V S a4
          have HO : Hid (Bp.okB ((V : Int), (S : Int)) = false) := hok
          have hS24 : S ≤ 24 := by omega
          clear hok a4 a1 a2 a3
          go_enter Try.func47, Try.ntmps47
          go_wp2_with fail
          go_ret
          exact ⟨by rw [HO.out]; rfl, (Below.refl _ _).alloc (Nat.le_refl _) _⟩
      · have d3 : decide (0 ≤ v) = false := by simpa using a3
        have HO : Hid (Bp.okB (v, s) = false) := Bp.okB_false (fun g => a3 g.2.2.1)
        clear a3
        go_enter Try.func47, Try.ntmps47
        go_wp2_with fail
        go_ret
        exact ⟨by rw [HO.out]; rfl, (Below.refl _ _).alloc (Nat.le_refl _) _⟩
    · have d2 : decide (s ≤ 24) = false := by simpa using a2
      have HO : Hid (Bp.okB (v, s) = false) := Bp.okB_false (fun g => a2 g.2.1)
      clear a2
      go_enter Try.func47, Try.ntmps47
      go_wp2_with fail
      go_ret
      exact ⟨by rw [HO.out]; rfl, (Below.refl _ _).alloc (Nat.le_refl _) _⟩
  · have d1 : decide (0 ≤ s) = false := by simpa using a1
    have HO : Hid (Bp.okB (v, s) = false) := Bp.okB_false (fun g => a1 g.1)
    clear a1
    go_enter Try.func47, Try.ntmps47
    go_wp2_with fail
    go_ret
    exact ⟨by rw [HO.out]; rfl, (Below.refl _ _).alloc (Nat.le_refl _) _⟩
end Go.Proofs.Ytjdilanmkgodnaa

/- BitsPut of the program, walked whole. -/
namespace Go.Proofs.Ytjdilanmkgodnaa
open Go.RowKit

/-- numbers that an int holds -/
def I64s (l : List (Int × Int)) : Prop := ∀ p ∈ l, -9223372036854775808 ≤ p.1 ∧ p.1 ≤ 9223372036854775807

set_option maxHeartbeats 2000000 in
set_option maxRecDepth 20000 in
theorem impl_bitsPut_low (a : Option Addr) (n cap : Nat) (l : List (Int × Int)) (w : World) (h : Bits2 w a l) (hn : l.length = n) (hl : n ≤ 2000000) (hr : I64s l) :
    Calls Try.prog 24 #[.slice a n cap, .bool false] w fun e w' => e = .returned (.string ⟨((Bp.answer false l).map UInt8.ofNat).toArray⟩) ∧ Below w.heap.size w w' := by
  have HB : Hid (Bits2 w a l) := h
  have hn1 : l.length ≤ n := by omega
  have hn2 : n ≤ l.length := by omega
  have HR : Hid (I64s l) := hr
  have HW0 : Hid (Writes (w.alloc (.cells #[(.func (.func 56) #[] #[]), .slice none 0 0, .int .i64 0] 69)) w.heap.size false (Bp.fOf false l) 0) := writes_new w false (Bp.fOf false l) _
  have HF : Hid (∀ i, Bp.fOf false l i < 2) := Bp.fOf_lt false l
  have hOO := orderOf_any false w
  have HOO : Hid (Calls Try.prog 39 #[.bool false] w fun e w' => e = .returned ((.func (.func 56) #[] #[])) ∧ w' = w) := hOO
  have HMV : Hid (∀ (N V S : Nat) (w' : World), Writes w' w.heap.size false (Bp.fOf false l) N → N + S ≤ 72000 → S ≤ 24 → V < 16777216 → (∀ q, q < S → Bp.fOf false l (N + q) = Bp.bitIn false V S q) →
      Calls Try.prog 45 #[.iface 67 (.pointer (some ⟨w.heap.size, 0, none⟩)), (.func (.func 56) #[] #[]), .int .i64 V, .int .i64 S] w' fun e w'' => (∃ z, e = .returned (.tuple #[.int .i64 z, .bool true])) ∧ Writes w'' w.heap.size false (Bp.fOf false l) (N + S) ∧ Below w.heap.size w' w'') :=
    fun N V S w' hw h1 h2 h3 h4 => wmove_any false w.heap.size N V S _ w' hw h1 (by omega) (by omega) (Bp.fOf_lt false l) h4
  have HMN : Hid (∀ (N S : Nat) (v : Int) (w' : World), Writes w' w.heap.size false (Bp.fOf false l) N → N ≤ 72000 → 72000 < N + S →
      Calls Try.prog 45 #[.iface 67 (.pointer (some ⟨w.heap.size, 0, none⟩)), (.func (.func 56) #[] #[]), .int .i64 v, .int .i64 S] w' fun e w'' => e = .returned (.tuple #[.int .i64 0, .bool false]) ∧ w'' = w') :=
    fun N S v w' hw h1 h2 => wmove_no w.heap.size N S v false _ _ w' hw h1 h2
  clear h hn hr hOO
  go_enter Try.func24, Try.ntmps24
  go_wp2_with fail
  refine HOO.out.mono ?_
  rintro e w1 ⟨rfl, hw1⟩
  subst hw1
  go_wp2_with fail
  go_loopw [18] (fun i wr => ∃ k N : Nat, k ≤ n ∧ i = .int .i64 k ∧ N = Bp.tot l k ∧ N ≤ 72000 ∧ Bp.Fits l k ∧ Writes wr w1.heap.size false (Bp.fOf false l) N ∧ Below w1.heap.size w1 wr) (fun i _ => n - (intOf i).toNat)
  case atStart => exact ⟨0, 0, Nat.zero_le _, rfl, rfl, by omega, Bp.fits_zero l, HW0.out, (Below.refl _ _).alloc (Nat.le_refl _) _⟩
  case round =>
    obtain ⟨k, N, hk, rfl, hN, hN7, hfit, hWr, hbel⟩ := hrel
    have HT : Hid (N = Bp.tot l k) := hN
    have HFT : Hid (Bp.Fits l k) := hfit
    have HWR : Hid (Writes wr w1.heap.size false (Bp.fOf false l) N) := hWr
    clear hN hfit hWr HW0 HOO
    by_cases hlt : k < n
    · have hkl : k < l.length := by omega
      obtain ⟨b, off, rfl, hbB, hc1, hc2⟩ := HB.out.at hkl
      have e1 := (hbel.cell (p := ⟨b, off + k * 2, none⟩) hbB).trans hc1
      have e2 := (hbel.cell (p := ⟨b, off + k * 2 + 1, none⟩) hbB).trans hc2
      have hki : (k : Int) < (n : Int) := by omega
      have hrk := HR.out l[k] (List.getElem_mem hkl)
      have HOK := fun w => bitOk_any l[k] w hrk.1 hrk.2
      have HTS := Bp.tot_succ l k hkl
      rw [← HT.out] at HTS
      have HNF : Hid (¬ (Bp.Ok l[k] ∧ Bp.tot l (k + 1) ≤ 72000) → Bp.answer false l = []) := fun g => Bp.answer_no (Bp.fits_not hkl hkl g)
      have HYF : Hid (Bp.Ok l[k] → Bp.tot l (k + 1) ≤ 72000 → Bp.Fits l (k + 1)) := fun g1 g2 => Bp.fits_succ hkl HFT.out g1 g2
      have HA : Hid (∀ q, q < (l[k]).2.toNat → Bp.fOf false l (N + q) = Bp.bitIn false (l[k]).1.toNat (l[k]).2.toNat q) := by
        intro q hq; rw [HT.out]; exact Bp.fOf_at false l k q hkl hq
      by_cases hok : Bp.Ok l[k]
      · have HO : Hid (Bp.Ok l[k]) := hok
        rw [Bp.okB_true hok] at HOK
        obtain ⟨o1, o2, o3, o4⟩ := hok
        obtain ⟨S, hS⟩ := Int.eq_ofNat_of_zero_le o1
        obtain ⟨V, hV⟩ := Int.eq_ofNat_of_zero_le o3
        rw [hS] at HTS o2 e2
        rw [hV] at e1
        rw [hV, hS] at HA o4
        simp only [Int.toNat_natCast] at HTS HA o4
        have hS24 : S ≤ 24 := by omega
        have hVb : V < 16777216 := Nat.lt_of_lt_of_le o4 (Nat.le_trans (Nat.pow_le_pow_right (by omega) hS24) (by decide))
        have HTT : Hid (Bp.tot l (k + 1) = N + S) := HTS
        have HL : Hid (∀ w, Calls Try.prog 47 #[.agg #[.int .i64 (V : Int), .int .i64 (S : Int)]] w fun e w' => e = .returned (.bool true) ∧ Below w.heap.size w w') := by
          intro w; have := HOK w; rw [hS, hV] at this; exact this
        clear HTS HOK hS hV o1 o2 o3 o4 hrk hc1 hc2
        go_wp2_with fail
        refine (HL.out _).mono ?_
        rintro e w2 ⟨rfl, bel1⟩
        have e3 : w2.cell? ⟨wr.heap.size, 0, none⟩ = some (.int .i64 (V : Int)) := (bel1.cell (p := ⟨wr.heap.size, 0, none⟩) (by simp)).trans (by rw [World.cell?_alloc_at _ _ _ _ rfl]; rfl)
        have e4 : w2.cell? ⟨wr.heap.size, 1, none⟩ = some (.int .i64 (S : Int)) := (bel1.cell (p := ⟨wr.heap.size, 1, none⟩) (by simp)).trans (by rw [World.cell?_alloc_at _ _ _ _ rfl]; rfl)
        have belw : Below wr.heap.size wr w2 := ((Below.refl wr.heap.size wr).alloc (Nat.le_refl _) _).trans (bel1.mono (by simp))
        have HW2 : Hid (Writes w2 w1.heap.size false (Bp.fOf false l) N) := HWR.out.kept belw
        have hb2 : Below w1.heap.size w1 w2 := hbel.trans (belw.mono hbel.size)
        clear bel1 belw e1 e2 HWR hbel HL
        by_cases h7 : 72000 < N + S
        · have HAS : Hid (Bp.answer false l = []) := HNF.out (fun g => by have := g.2; rw [HTT.out] at this; omega)
          go_wp2_with fail
          refine (HMN.out N S V w2 HW2.out hN7 h7).mono ?_
          rintro e w3 ⟨rfl, hw3⟩
          subst hw3
          go_wp2_with fail
          go_ret
          exact ⟨by rw [HAS.out]; rfl, hb2⟩
        · have HF2 : Hid (Bp.Fits l (k + 1)) := HYF.out HO.out (by rw [HTT.out]; omega)
          go_wp2_with fail
          refine (HMV.out N V S w2 HW2.out (by omega) hS24 hVb HA.out).mono ?_
          rintro e w3 ⟨⟨z, rfl⟩, hW3, bel3⟩
          have hb3 := hb2.trans bel3
          have HW3 : Hid (Writes w3 w1.heap.size false (Bp.fOf false l) (N + S)) := hW3
          clear hW3 bel3 hb2 e3 e4
          go_wp2_with fail
          go_roundw
          case rel => exact ⟨k + 1, N + S, by omega, by go_num, HTT.out.symm, by omega, HF2.out, HW3.out, hb3⟩
          case measure => simp [intOf]; omega
      · rw [Bp.okB_false hok] at HOK
        have HAS : Hid (Bp.answer false l = []) := HNF.out (fun g => hok g.1)
        have HL : Hid (∀ w, Calls Try.prog 47 #[.agg #[.int .i64 (l[k]).1, .int .i64 (l[k]).2]] w fun e w' => e = .returned (.bool false) ∧ Below w.heap.size w w') := HOK
        clear HOK HTS HNF HYF HA hok hc1 hc2 hrk
        generalize (l[k]).1 = v at *
        generalize (l[k]).2 = s at *
        go_wp2_with fail
        refine (HL.out _).mono ?_
        rintro e w2 ⟨rfl, bel1⟩
        have belw : Below wr.heap.size wr w2 := ((Below.refl wr.heap.size wr).alloc (Nat.le_refl _) _).trans (bel1.mono (by simp))
        have hb2 : Below w1.heap.size w1 w2 := hbel.trans (belw.mono hbel.size)
        clear e1 e2 bel1 hbel HL belw
        go_wp2_with fail
        go_ret
        exact ⟨by rw [HAS.out]; rfl, hb2⟩
    · have hk' : k = l.length := by omega
      have hfits : Bp.Fits l l.length := by rw [← hk']; exact HFT.out
      have HAN : Hid (Bp.pack false (Bp.fOf false l) N = Bp.answer false l) := by show _ = _; rw [Bp.answer_yes hfits, HT.out, hk']; rfl
      obtain ⟨_, ⟨v, L, k1, hown, hLL⟩, _, _, _, _⟩ := HWR.out
      obtain ⟨cap', ao, rfl, htx⟩ := hown.text
      rw [HAN.out] at htx
      clear hown hfits hk' hLL
      go_wp2_with fail
      go_ret
      exact ⟨rfl, hbel⟩

set_option maxHeartbeats 2000000 in
set_option maxRecDepth 20000 in
theorem impl_bitsPut_high (a : Option Addr) (n cap : Nat) (l : List (Int × Int)) (w : World) (h : Bits2 w a l) (hn : l.length = n) (hl : n ≤ 2000000) (hr : I64s l) :
    Calls Try.prog 24 #[.slice a n cap, .bool true] w fun e w' => e = .returned (.string ⟨((Bp.answer true l).map UInt8.ofNat).toArray⟩) ∧ Below w.heap.size w w' := by
  have HB : Hid (Bits2 w a l) := h
  have hn1 : l.length ≤ n := by omega
  have hn2 : n ≤ l.length := by omega
  have HR : Hid (I64s l) := hr
  have HW0 : Hid (Writes (w.alloc (.cells #[(.func (.func 55) #[] #[]), .slice none 0 0, .int .i64 0] 69)) w.heap.size true (Bp.fOf true l) 0) := writes_new w true (Bp.fOf true l) _
  have HF : Hid (∀ i, Bp.fOf true l i < 2) := Bp.fOf_lt true l
  have hOO := orderOf_any true w
  have HOO : Hid (Calls Try.prog 39 #[.bool true] w fun e w' => e = .returned ((.func (.func 55) #[] #[])) ∧ w' = w) := hOO
  have HMV : Hid (∀ (N V S : Nat) (w' : World), Writes w' w.heap.size true (Bp.fOf true l) N → N + S ≤ 72000 → S ≤ 24 → V < 16777216 → (∀ q, q < S → Bp.fOf true l (N + q) = Bp.bitIn true V S q) →
      Calls Try.prog 45 #[.iface 67 (.pointer (some ⟨w.heap.size, 0, none⟩)), (.func (.func 55) #[] #[]), .int .i64 V, .int .i64 S] w' fun e w'' => (∃ z, e = .returned (.tuple #[.int .i64 z, .bool true])) ∧ Writes w'' w.heap.size true (Bp.fOf true l) (N + S) ∧ Below w.heap.size w' w'') :=
    fun N V S w' hw h1 h2 h3 h4 => wmove_any true w.heap.size N V S _ w' hw h1 (by omega) (by omega) (Bp.fOf_lt true l) h4
  have HMN : Hid (∀ (N S : Nat) (v : Int) (w' : World), Writes w' w.heap.size true (Bp.fOf true l) N → N ≤ 72000 → 72000 < N + S →
      Calls Try.prog 45 #[.iface 67 (.pointer (some ⟨w.heap.size, 0, none⟩)), (.func (.func 55) #[] #[]), .int .i64 v, .int .i64 S] w' fun e w'' => e = .returned (.tuple #[.int .i64 0, .bool false]) ∧ w'' = w') :=
    fun N S v w' hw h1 h2 => wmove_no w.heap.size N S v true _ _ w' hw h1 h2
  clear h hn hr hOO
  go_enter Try.func24, Try.ntmps24
  go_wp2_with fail
  refine HOO.out.mono ?_
  rintro e w1 ⟨rfl, hw1⟩
  subst hw1
  go_wp2_with fail
  go_loopw [18] (fun i wr => ∃ k N : Nat, k ≤ n ∧ i = .int .i64 k ∧ N = Bp.tot l k ∧ N ≤ 72000 ∧ Bp.Fits l k ∧ Writes wr w1.heap.size true (Bp.fOf true l) N ∧ Below w1.heap.size w1 wr) (fun i _ => n - (intOf i).toNat)
  case atStart => exact ⟨0, 0, Nat.zero_le _, rfl, rfl, by omega, Bp.fits_zero l, HW0.out, (Below.refl _ _).alloc (Nat.le_refl _) _⟩
  case round =>
    obtain ⟨k, N, hk, rfl, hN, hN7, hfit, hWr, hbel⟩ := hrel
    have HT : Hid (N = Bp.tot l k) := hN
    have HFT : Hid (Bp.Fits l k) := hfit
    have HWR : Hid (Writes wr w1.heap.size true (Bp.fOf true l) N) := hWr
    clear hN hfit hWr HW0 HOO
    by_cases hlt : k < n
    · have hkl : k < l.length := by omega
      obtain ⟨b, off, rfl, hbB, hc1, hc2⟩ := HB.out.at hkl
      have e1 := (hbel.cell (p := ⟨b, off + k * 2, none⟩) hbB).trans hc1
      have e2 := (hbel.cell (p := ⟨b, off + k * 2 + 1, none⟩) hbB).trans hc2
      have hki : (k : Int) < (n : Int) := by omega
      have hrk := HR.out l[k] (List.getElem_mem hkl)
      have HOK := fun w => bitOk_any l[k] w hrk.1 hrk.2
      have HTS := Bp.tot_succ l k hkl
      rw [← HT.out] at HTS
      have HNF : Hid (¬ (Bp.Ok l[k] ∧ Bp.tot l (k + 1) ≤ 72000) → Bp.answer true l = []) := fun g => Bp.answer_no (Bp.fits_not hkl hkl g)
      have HYF : Hid (Bp.Ok l[k] → Bp.tot l (k + 1) ≤ 72000 → Bp.Fits l (k + 1)) := fun g1 g2 => Bp.fits_succ hkl HFT.out g1 g2
      have HA : Hid (∀ q, q < (l[k]).2.toNat → Bp.fOf true l (N + q) = Bp.bitIn true (l[k]).1.toNat (l[k]).2.toNat q) := by
        intro q hq; rw [HT.out]; exact Bp.fOf_at true l k q hkl hq
      by_cases hok : Bp.Ok l[k]
      · have HO : Hid (Bp.Ok l[k]) := hok
        rw [Bp.okB_true hok] at HOK
        obtain ⟨o1, o2, o3, o4⟩ := hok
        obtain ⟨S, hS⟩ := Int.eq_ofNat_of_zero_le o1
        obtain ⟨V, hV⟩ := Int.eq_ofNat_of_zero_le o3
        rw [hS] at HTS o2 e2
        rw [hV] at e1
        rw [hV, hS] at HA o4
        simp only [Int.toNat_natCast] at HTS HA o4
        have hS24 : S ≤ 24 := by omega
        have hVb : V < 16777216 := Nat.lt_of_lt_of_le o4 (Nat.le_trans (Nat.pow_le_pow_right (by omega) hS24) (by decide))
        have HTT : Hid (Bp.tot l (k + 1) = N + S) := HTS
        have HL : Hid (∀ w, Calls Try.prog 47 #[.agg #[.int .i64 (V : Int), .int .i64 (S : Int)]] w fun e w' => e = .returned (.bool true) ∧ Below w.heap.size w w') := by
          intro w; have := HOK w; rw [hS, hV] at this; exact this
        clear HTS HOK hS hV o1 o2 o3 o4 hrk hc1 hc2
        go_wp2_with fail
        refine (HL.out _).mono ?_
        rintro e w2 ⟨rfl, bel1⟩
        have e3 : w2.cell? ⟨wr.heap.size, 0, none⟩ = some (.int .i64 (V : Int)) := (bel1.cell (p := ⟨wr.heap.size, 0, none⟩) (by simp)).trans (by rw [World.cell?_alloc_at _ _ _ _ rfl]; rfl)
        have e4 : w2.cell? ⟨wr.heap.size, 1, none⟩ = some (.int .i64 (S : Int)) := (bel1.cell (p := ⟨wr.heap.size, 1, none⟩) (by simp)).trans (by rw [World.cell?_alloc_at _ _ _ _ rfl]; rfl)
        have belw : Below wr.heap.size wr w2 := ((Below.refl wr.heap.size wr).alloc (Nat.le_refl _) _).trans (bel1.mono (by simp))
        have HW2 : Hid (Writes w2 w1.heap.size true (Bp.fOf true l) N) := HWR.out.kept belw
        have hb2 : Below w1.heap.size w1 w2 := hbel.trans (belw.mono hbel.size)
        clear bel1 belw e1 e2 HWR hbel HL
        by_cases h7 : 72000 < N + S
        · have HAS : Hid (Bp.answer true l = []) := HNF.out (fun g => by have := g.2; rw [HTT.out] at this; omega)
          go_wp2_with fail
          refine (HMN.out N S V w2 HW2.out hN7 h7).mono ?_
          rintro e w3 ⟨rfl, hw3⟩
          subst hw3
          go_wp2_with fail
          go_ret
          exact ⟨by rw [HAS.out]; rfl, hb2⟩
        · have HF2 : Hid (Bp.Fits l (k + 1)) := HYF.out HO.out (by rw [HTT.out]; omega)
          go_wp2_with fail
          refine (HMV.out N V S w2 HW2.out (by omega) hS24 hVb HA.out).mono ?_
          rintro e w3 ⟨⟨z, rfl⟩, hW3, bel3⟩
          have hb3 := hb2.trans bel3
          have HW3 : Hid (Writes w3 w1.heap.size true (Bp.fOf true l) (N + S)) := hW3
          clear hW3 bel3 hb2 e3 e4
          go_wp2_with fail
          go_roundw
          case rel => exact ⟨k + 1, N + S, by omega, by go_num, HTT.out.symm, by omega, HF2.out, HW3.out, hb3⟩
          case measure => simp [intOf]; omega
      · rw [Bp.okB_false hok] at HOK
        have HAS : Hid (Bp.answer true l = []) := HNF.out (fun g => hok g.1)
        have HL : Hid (∀ w, Calls Try.prog 47 #[.agg #[.int .i64 (l[k]).1, .int .i64 (l[k]).2]] w fun e w' => e = .returned (.bool false) ∧ Below w.heap.size w w') := HOK
        clear HOK HTS HNF HYF HA hok hc1 hc2 hrk
        generalize (l[k]).1 = v at *
        generalize (l[k]).2 = s at *
        go_wp2_with fail
        refine (HL.out _).mono ?_
        rintro e w2 ⟨rfl, bel1⟩
        have belw : Below wr.heap.size wr w2 := ((Below.refl wr.heap.size wr).alloc (Nat.le_refl _) _).trans (bel1.mono (by simp))
        have hb2 : Below w1.heap.size w1 w2 := hbel.trans (belw.mono hbel.size)
        clear e1 e2 bel1 hbel HL belw
        go_wp2_with fail
        go_ret
        exact ⟨by rw [HAS.out]; rfl, hb2⟩
    · have hk' : k = l.length := by omega
      have hfits : Bp.Fits l l.length := by rw [← hk']; exact HFT.out
      have HAN : Hid (Bp.pack true (Bp.fOf true l) N = Bp.answer true l) := by show _ = _; rw [Bp.answer_yes hfits, HT.out, hk']; rfl
      obtain ⟨_, ⟨v, L, k1, hown, hLL⟩, _, _, _, _⟩ := HWR.out
      obtain ⟨cap', ao, rfl, htx⟩ := hown.text
      rw [HAN.out] at htx
      clear hown hfits hk' hLL
      go_wp2_with fail
      go_ret
      exact ⟨rfl, hbel⟩

theorem impl_bitsPut (hi : Bool) (a : Option Addr) (n cap : Nat) (l : List (Int × Int)) (w : World) (h : Bits2 w a l) (hn : l.length = n) (hl : n ≤ 2000000) (hr : I64s l) :
    Calls Try.prog 24 #[.slice a n cap, .bool hi] w fun e w' => e = .returned (.string ⟨((Bp.answer hi l).map UInt8.ofNat).toArray⟩) ∧ Below w.heap.size w w' := by
  cases hi
  · exact impl_bitsPut_low a n cap l w h hn hl hr
  · exact impl_bitsPut_high a n cap l w h hn hl hr
end Go.Proofs.Ytjdilanmkgodnaa

/- P11: symbols that were put are there, one behind the other. -/
namespace Go.Proofs.Ytjdilanmkgodnaa
open Go.RowKit

theorem put_i64 (zs ls : List Int) : I64s (Cp.put zs ls) := by
  intro p hp
  by_cases h : Cp.Ok zs ls
  · obtain ⟨k, hk, rfl⟩ := List.getElem_of_mem hp
    obtain ⟨_, L, V, _, hS, e⟩ := put_sym h (by rw [put_length h] at hk; exact hk) hk
    have h1 := turned_lt V L
    have h2 : 2 ^ L ≤ 2 ^ 15 := Nat.pow_le_pow_right (by omega) hS.le
    rw [e]
    show _ ≤ ((turned V L : Nat) : Int) ∧ ((turned V L : Nat) : Int) ≤ _
    omega
  · rw [Cp.put_no h] at hp; cases hp

/-- what is kept on the way -/
def Kept (w0 : World) (a1 : Option Addr) (zs : List Int) (a2 : Option Addr) (ls : List Int) (w : World) : Prop := Ints w a1 zs ∧ Ints w a2 ls ∧ Below w0.heap.size w0 w
theorem Kept.more {w0 w w' : World} {a1 a2 : Option Addr} {zs ls : List Int} (h : Kept w0 a1 zs a2 ls w) (hb : Below w.heap.size w w') : Kept w0 a1 zs a2 ls w' := ⟨h.1.kept hb, h.2.1.kept hb, h.2.2.trans (hb.mono h.2.2.size)⟩

set_option maxHeartbeats 4000000 in
set_option maxRecDepth 20000 in
theorem lawCodePut (a : Option Addr) (len cap : Nat) (w : World) (h : Code8 w a len cap) :
    Calls Try.prog 5 #[.slice a len cap] w fun e w' => e = .returned (.bool true) ∧ Below w.heap.size w w' := by
  by_cases hbig : 1048576 < len
  · have hbi : (1048576 : Int) < (len : Int) := by omega
    clear h
    go_enter Try.func5, Try.ntmps5
    go_wp2_with fail
    go_ret
    exact ⟨rfl, Below.refl _ _⟩
  have hbi : ¬ (1048576 : Int) < (len : Int) := by omega
  have HDR : Hid (Calls Try.prog 21 #[.slice a len cap] w (SymsDrawn w)) := drawCodePut_any a len cap w h
  clear h
  go_enter Try.func5, Try.ntmps5
  go_wp2_with fail
  refine HDR.out.mono ?_
  rintro e w1 ⟨⟨a1, n1, c1, zs, a2, n2, c2, ls, rfl, hI1, hn1, hb1, hI2, hn2, hb2, hc2, -⟩, b1⟩
  clear HDR
  have H1 : Hid (Kept w a1 zs a2 ls w1) := ⟨hI1, hI2, b1⟩
  obtain ⟨P, hP⟩ : ∃ P, P = Cp.put zs ls := ⟨_, rfl⟩
  obtain ⟨M, hM⟩ : ∃ M, M = P.length := ⟨_, rfl⟩
  obtain ⟨bo, hbo⟩ : ∃ bo, bo = Cd.okB ls := ⟨_, rfl⟩
  have hMb : M ≤ 9000 := by rw [hM, hP]; exact Cp.put_len zs ls
  have HM : Hid (P.length = M) := hM.symm
  have HIM : Hid (∀ w : World, Ints w a1 zs → Ints w a2 ls → Calls Try.prog 19 #[.slice a1 n1 c1, .slice a2 n2 c2] w fun e w' => (∃ v c, e = .returned (.slice v M c) ∧ Bits2 w' v P) ∧ Below w.heap.size w w') := fun w h g => by
    refine (impl_codePut a1 n1 c1 zs a2 n2 c2 ls w h hn1 (by omega) g hn2 (by omega)).mono ?_
    rintro e w' ⟨⟨v, L, c, rfl, hl, hO⟩, b⟩
    rw [← hP, HM.out] at hl
    subst hl
    obtain ⟨ao, cp, e, hB⟩ := hO.bits
    cases e
    exact ⟨⟨v, c, rfl, by rw [hP]; exact hB⟩, b⟩
  have HSP : Hid (∀ w : World, Ints w a1 zs → Ints w a2 ls → Calls Try.prog 23 #[.slice a1 n1 c1, .slice a2 n2 c2] w fun e w' => (∃ v c, e = .returned (.slice v M c) ∧ Bits2 w' v P) ∧ Below w.heap.size w w') := fun w h g => by
    refine (spec_codePut a1 n1 c1 zs a2 n2 c2 ls w h hn1 (by omega) g hn2 (by omega)).mono ?_
    rintro e w' ⟨⟨v, L, c, rfl, hl, hO⟩, b⟩
    rw [← hP, HM.out] at hl
    subst hl
    exact ⟨⟨v, c, rfl, by rw [hP]; exact hO⟩, b⟩
  have HWB : Hid (∀ (w : World) (x y : Option Addr) (c c' : Nat), Bits2 w x P → Bits2 w y P → Calls Try.prog 22 #[.slice x M c, .slice y M c'] w fun e w' => e = .returned (.bool true) ∧ Below w.heap.size w w') := fun w x y c c' h g => by
    refine (wiBits_same x c y c' M P w h g HM.out (by omega)).mono ?_
    rintro e w' ⟨rfl, m, rfl⟩
    exact ⟨rfl, below_drewN (Below.refl _ _) _⟩
  have HOI : Hid (∀ w : World, Ints w a2 ls → Calls Try.prog 12 #[.slice a2 n2 c2] w fun e w' => e = .returned (.bool bo) ∧ w' = w) := fun w h => by rw [hbo]; exact impl_codeOk a2 c2 n2 ls w h hn2 (by omega)
  have HOS : Hid (∀ w : World, Ints w a2 ls → Calls Try.prog 13 #[.slice a2 n2 c2] w fun e w' => e = .returned (.bool bo) ∧ w' = w) := fun w h => by rw [hbo]; exact spec_codeOk a2 c2 n2 ls w h hn2 (by omega)
  have hq1 : (bo != bo) = false := by simp
  have hq2 : (bo == bo) = true := by simp
  clear hI1 hI2 b1
  go_wp2_with fail
  refine (HIM.out _ H1.out.1 H1.out.2.1).mono ?_
  rintro e w2 ⟨⟨v, c, rfl, hB2⟩, b2⟩
  have H2 : Hid (Kept w a1 zs a2 ls w2 ∧ Bits2 w2 v P) := ⟨H1.out.more b2, hB2⟩
  clear hB2 b2 H1 HIM
  have HX : Hid (P = Cp.put zs ls ∧ M = P.length ∧ zs.length = n1 ∧ ls.length = n2) := ⟨hP, hM, hn1, hn2⟩
  clear hP hM hn1 hn2 hbo
  go_wp2_with fail
  refine (HSP.out _ H2.out.1.1 H2.out.1.2.1).mono ?_
  rintro e w3 ⟨⟨v', c', rfl, hB3⟩, b3⟩
  have H3 : Hid (Kept w a1 zs a2 ls w3 ∧ Bits2 w3 v P ∧ Bits2 w3 v' P) := ⟨H2.out.1.more b3, H2.out.2.kept b3, hB3⟩
  clear hB3 b3 H2
  go_wp2_with fail
  refine (HWB.out _ _ _ _ _ H3.out.2.1 H3.out.2.2).mono ?_
  rintro e w4 ⟨rfl, b4⟩
  have H4 : Hid (Kept w a1 zs a2 ls w4 ∧ Bits2 w4 v P) := ⟨H3.out.1.more b4, H3.out.2.1.kept b4⟩
  clear b4 H3
  go_wp2_with fail
  refine (HOI.out _ H4.out.1.2.1).mono ?_
  rintro e w5 ⟨rfl, hw5⟩
  subst hw5
  go_wp2_with fail
  refine (HOS.out _ H4.out.1.2.1).mono ?_
  rintro e w6 ⟨rfl, hw6⟩
  subst hw6
  by_cases hM0 : M = 0
  · subst hM0
    go_wp2_with fail
    refine (HSP.out _ H4.out.1.1 H4.out.1.2.1).mono ?_
    rintro e w7 ⟨⟨v7, c7, rfl, hB7⟩, b7⟩
    have H7 : Hid (Kept w a1 zs a2 ls w7 ∧ Bits2 w7 v P ∧ Bits2 w7 v7 P) := ⟨H4.out.1.more b7, H4.out.2.kept b7, hB7⟩
    clear hB7 b7 H4
    go_wp2_with fail
    refine (HWB.out _ _ _ _ _ H7.out.2.1 H7.out.2.2).mono ?_
    rintro e w8 ⟨rfl, b8⟩
    have H8 : Hid (Kept w a1 zs a2 ls w8) := H7.out.1.more b8
    clear b8 H7
    go_wp2_with fail
    refine (HOI.out _ H8.out.2.1).mono ?_
    rintro e w9 ⟨rfl, hw9⟩
    subst hw9
    go_wp2_with fail
    refine (HOS.out _ H8.out.2.1).mono ?_
    rintro e w10 ⟨rfl, hw10⟩
    subst hw10
    have HF : Hid (Below w.heap.size w w10) := H8.out.2.2
    clear H8 HSP HWB HOI HOS HX HM
    go_wp2_with fail
    go_ret
    exact ⟨rfl, HF.out⟩
  · have hMi : ¬ (M : Int) = 0 := by omega
    have hok : Cp.Ok zs ls := by
      refine Classical.byContradiction fun hno => hM0 ?_
      rw [HX.out.2.1, HX.out.1, Cp.put_no hno]; rfl
    have hMn : M = n1 := by rw [HX.out.2.1, HX.out.1, put_length hok]; exact HX.out.2.2.1
    subst hMn
    obtain ⟨s, hs⟩ : ∃ s, s = textOf false P := ⟨_, rfl⟩
    have HBP : Hid (∀ w : World, Bits2 w v P → Calls Try.prog 24 #[.slice v M c, .bool false] w fun e w' => e = .returned (.string s) ∧ Below w.heap.size w w') := fun w hw => by
      rw [hs]; exact impl_bitsPut false v M c P w hw HM.out (by omega) (by rw [HX.out.1]; exact put_i64 zs ls)
    have hfit := put_fits hok (by rw [HX.out.2.2.1]; exact hb1)
    rw [← HX.out.1] at hfit
    obtain ⟨T, hT⟩ : ∃ T : Nat → Nat, T = Bp.tot P := ⟨_, rfl⟩
    have hsz : s.size = (T M + 7) / 8 := by rw [hs, textOf_size hfit, hT, HM.out]
    have hTM : T M ≤ 165 := by
      have := put_tot hok M (by rw [HX.out.2.2.1]; omega)
      rw [← HX.out.1, ← hT] at this; omega
    have hs9 : s.size ≤ 100 := by omega
    have HTL : Hid (∀ k, k ≤ M → T k ≤ 165) := fun k hk => by
      have := put_tot hok k (by rw [HX.out.2.2.1]; omega)
      rw [← HX.out.1, ← hT] at this; omega
    have HZ : Hid (s.size = (T M + 7) / 8) := hsz
    have HT0 : Hid (T 0 = 0) := by show _ = _; rw [hT]; simp [Bp.tot]
    have HBK : Hid (∀ k, (hk : k < zs.length) → ∃ i L V : Nat, zs[k] = (i : Int) ∧ Mk.Sym ls i L V ∧ T (k + 1) = T k + L ∧ cgAns s ((T k : Nat) : Int) ls = ((i : Int), ((T k + L : Nat) : Int))) := fun k hk => by
      have := code_back hok (by rw [HX.out.2.2.1]; exact hb1) hk
      rw [← HX.out.1, ← hT, ← hs] at this
      exact this
    have HCG : Hid (∀ (w : World) (A : Int), Ints w a2 ls → Calls Try.prog 17 #[.string s, .int .i64 A, .slice a2 n2 c2] w fun e w' => e = .returned (.tuple #[.int .i64 (cgAns s A ls).1, .int .i64 (cgAns s A ls).2]) ∧ Below w.heap.size w w') := fun w A h => impl_codeGet s A a2 c2 n2 ls w h HX.out.2.2.2 (by omega) (by omega)
    clear hs hfit hT hsz hok HSP HWB HOI HOS
    go_wp2_with fail
    refine (HBP.out _ H4.out.2).mono ?_
    rintro e w7 ⟨rfl, b7⟩
    have H7 : Hid (Kept w a1 zs a2 ls w7) := H4.out.1.more b7
    clear b7 H4 HBP
    go_wp2_with fail
    go_loopw [7, 8] (fun x i wr => ∃ k A : Nat, k ≤ M ∧ A ≤ 165 ∧ Hid (A = T k) ∧ x = .int .i64 (A : Int) ∧ i = .int .i64 (k : Int) ∧ Hid (Kept w a1 zs a2 ls wr)) (fun _ i _ => M - (intOf i).toNat)
    case atStart => exact ⟨0, 0, Nat.zero_le _, by omega, HT0.out.symm, rfl, rfl, H7⟩
    case round =>
      obtain ⟨k, A, hk, hA, HA, rfl, rfl, HW⟩ := hrel
      clear H7 HT0
      by_cases hlt : k < M
      · have hki : (k : Int) < (M : Int) := by omega
        have hkz : k < zs.length := by rw [HX.out.2.2.1]; exact hlt
        obtain ⟨i, L, V, e1, hS, hTk, hcg⟩ := HBK.out k hkz
        rw [← HA.out] at hTk hcg
        have hL15 := hS.le
        have hil : i < n2 := by rw [← HX.out.2.2.2]; exact hS.lt
        have hii : (i : Int) < (n2 : Int) := by omega
        obtain ⟨Q, hQ⟩ : ∃ Q : Nat, Q = A + L := ⟨_, rfl⟩
        rw [← hQ] at hTk hcg
        have HQ : Hid (Q = T (k + 1)) := hTk.symm
        have hQb : Q ≤ 165 ∨ 165 < Q := by omega
        have HC : Hid (Calls Try.prog 17 #[.string s, .int .i64 (A : Int), .slice a2 n2 c2] wr fun e w' => e = .returned (.tuple #[.int .i64 (i : Int), .int .i64 (Q : Int)]) ∧ Below wr.heap.size wr w') := by
          have := HCG.out wr (A : Int) HW.out.2.1
          rw [hcg] at this
          exact this
        have eQ : (A : Int) + (L : Int) = (Q : Int) := by omega
        have HS : Hid (Mk.Sym ls i L V ∧ zs.getD k 0 = (i : Int)) := ⟨hS, by rw [List.getD_eq_getElem?_getD, List.getElem?_eq_getElem hkz]; exact e1⟩
        have hQ165 : Q ≤ 165 := by
          have hq : Q = T (k + 1) := HQ.out
          have := HTL.out (k + 1) (by omega)
          omega
        clear e1 hS hTk hcg hQ hQb
        go_wp2_with fail
        refine HC.out.mono ?_
        rintro e w8 ⟨rfl, b8⟩
        have H8 : Hid (Kept w a1 zs a2 ls w8) := HW.out.more b8
        obtain ⟨p1, o1, rfl, f1⟩ := ints_one H8.out.1 hkz
        obtain ⟨p2, o2, rfl, f2⟩ := ints_one H8.out.2.1 HS.out.1.lt
        rw [HS.out.2] at f1
        rw [HS.out.1.len] at f2
        clear b8 HC HW hkz
        go_wp2_with fail
        go_roundw
        case rel => exact ⟨k + 1, Q, by omega, hQ165, HQ, rfl, by go_num, H8⟩
        case measure => simp [intOf]; omega
      · have hki : ¬ (k : Int) < (M : Int) := by omega
        have hkM : k = M := by omega
        have HF : Hid (Below w.heap.size w wr) := HW.out.2.2
        obtain ⟨Z, hZ⟩ : ∃ Z : Nat, Z = s.size := ⟨_, rfl⟩
        have eZ : ((A : Int) + 7) / 8 = (s.size : Int) := by
          have h1 := HZ.out
          have h2 := HA.out
          rw [hkM] at h2
          rw [← h2] at h1
          omega
        have eZ2 : ((A : Int) + 7).tdiv 8 = (s.size : Int) := by rw [Int.tdiv_eq_ediv_of_nonneg (by omega)]; exact eZ
        clear HW HBK HCG HX HM HZ HA hZ hkM
        go_wp2_with fail
        go_ret
        exact ⟨rfl, HF.out⟩
end Go.Proofs.Ytjdilanmkgodnaa
