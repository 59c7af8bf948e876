/- The depths that a picture's kind can have, and a number found in a list. -/
import Derived.Test.YtjmmhaanndnipaaIntsWalks
import Derived.Below
namespace Go.Proofs.Ytjmmhaanndnipaa
open Go.RowKit

set_option maxHeartbeats 400000 in
theorem index_any (a : Option Addr) (n cap : Nat) (zs : List Int) (v : Int) (w : World) (h : Ints w a zs) (hn : zs.length = n) (hl : n ≤ 2000000) :
    Calls Try.prog 60 #[.slice a n cap, .int .i64 v] w fun e w' => (∃ r : Int, e = .returned (.int .i64 r) ∧ decide (0 ≤ r) = decide (v ∈ zs)) ∧ w' = w := by
  have HI : Hid (Ints w a zs) := h
  have hzg : n ≤ zs.length := by omega
  have HN : Hid (zs.length = n) := hn
  clear h hn
  go_enter Try.func60, Try.ntmps60
  go_wp2_with fail
  go_loop [8] (fun i => ∃ k : Nat, k ≤ n ∧ i = .int .i64 k ∧ ∀ j (hj : j < zs.length), j < k → zs[j] ≠ v) (fun i => n - (intOf i).toNat)
  case atStart => exact ⟨0, Nat.zero_le _, rfl, fun j hj h0 => absurd h0 (by omega)⟩
  case round =>
    obtain ⟨k, hk, rfl, hall⟩ := hrel
    have HA : Hid (∀ j (hj : j < zs.length), j < k → zs[j] ≠ v) := hall
    clear hall
    by_cases hlt : k < n
    · have hkz : k < zs.length := by omega
      rcases HI.out with h | ⟨b, off, rfl, hbB, hc⟩
      · rw [h] at hkz; simp at hkz
      · have hck := hc k hkz
        have hki : (k : Int) < (n : Int) := by omega
        clear hc
        by_cases he : v = zs[k]
        · have HM : Hid (v ∈ zs) := by rw [he]; exact List.getElem_mem hkz
          rw [← he] at hck
          clear he
          go_wp2_with fail
          go_ret
          exact ⟨⟨_, rfl, ⟨fun _ => HM.out, fun _ => Int.natCast_nonneg _⟩⟩, rfl⟩
        · have HX : Hid (v ≠ zs[k]) := he
          generalize hg : zs[k] = x at *
          have hG : Hid (zs[k] = x) := hg
          clear hg
          go_wp2_with fail
          go_round
          case rel =>
            refine ⟨k + 1, by omega, by go_num, fun j hj h1 => ?_⟩
            by_cases e : j < k
            · exact HA.out j hj e
            · have : j = k := by omega
              subst this
              rw [hG.out]; exact fun q => HX.out q.symm
          case measure => simp [intOf]; omega
    · have hk' : k = n := by omega
      subst hk'
      have HM : Hid (v ∉ zs) := fun hm => by
        obtain ⟨j, hj, e⟩ := List.getElem_of_mem hm
        exact HA.out j hj (by have := HN.out; omega) e
      clear HA
      go_wp2_with fail
      go_ret
      exact ⟨⟨_, rfl, ⟨fun h => absurd h (by omega), fun h => absurd h HM.out⟩⟩, rfl⟩

set_option maxHeartbeats 400000 in
theorem contains_any (a : Option Addr) (n cap : Nat) (zs : List Int) (v : Int) (w : World) (h : Ints w a zs) (hn : zs.length = n) (hl : n ≤ 2000000) :
    Calls Try.prog 46 #[.slice a n cap, .int .i64 v] w fun e w' => e = .returned (.bool (decide (v ∈ zs))) ∧ w' = w := by
  have HC : Hid (Calls Try.prog 60 #[.slice a n cap, .int .i64 v] w fun e w' => (∃ r : Int, e = .returned (.int .i64 r) ∧ decide (0 ≤ r) = decide (v ∈ zs)) ∧ w' = w) := index_any a n cap zs v w h hn hl
  clear h hn
  go_enter Try.func46, Try.ntmps46
  go_wp2_with fail
  refine HC.out.mono ?_
  rintro e w1 ⟨⟨r, rfl, hr⟩, hw1⟩
  subst hw1
  have HR : Hid (decide (0 ≤ r) = decide (v ∈ zs)) := hr
  clear hr HC
  go_wp2_with fail
  go_ret
  exact ⟨by rw [← HR.out]; rfl, rfl⟩

/-- the depths of a kind -/
def depL (kind : Int) : List Int := if kind = 1 ∨ kind = 4 then [1, 2, 4, 8] else if kind = 2 then [24] else if kind = 3 then [32] else []
theorem depL_len (kind : Int) : (depL kind).length ≤ 4 := by unfold depL; split; simp; split; simp; split <;> simp

theorem ints_new (w : World) (zs : List Int) (A : Array Value) (hA : A = (zs.map (fun z => Value.int .i64 z)).toArray) : Ints (w.alloc (.cells A 3)) (some ⟨w.heap.size, 0, none⟩) zs := by
  subst hA
  refine .inr ⟨w.heap.size, 0, rfl, by simp, fun i hi => ?_⟩
  rw [World.cell?_alloc_at _ _ _ _ rfl]
  simp [hi]

set_option maxHeartbeats 400000 in
theorem depthsOf_any (kind : Int) (w : World) :
    Calls Try.prog 47 #[.int .i64 kind] w fun e w' => (∃ ao c, e = .returned (.slice ao (depL kind).length c) ∧ Ints w' ao (depL kind)) ∧ Below w.heap.size w w' := by
  by_cases h1 : kind = 1
  · subst h1
    go_enter Try.func47, Try.ntmps47
    go_wp2_with fail
    go_ret
    exact ⟨⟨_, _, rfl, ints_new w [1, 2, 4, 8] _ rfl⟩, (Below.refl _ _).alloc (Nat.le_refl _) _⟩
  · by_cases h4 : kind = 4
    · subst h4
      go_enter Try.func47, Try.ntmps47
      go_wp2_with fail
      go_ret
      exact ⟨⟨_, _, rfl, ints_new w [1, 2, 4, 8] _ rfl⟩, (Below.refl _ _).alloc (Nat.le_refl _) _⟩
    · by_cases h2 : kind = 2
      · subst h2
        go_enter Try.func47, Try.ntmps47
        go_wp2_with fail
        go_ret
        exact ⟨⟨_, _, rfl, ints_new w [24] _ rfl⟩, (Below.refl _ _).alloc (Nat.le_refl _) _⟩
      · by_cases h3 : kind = 3
        · subst h3
          go_enter Try.func47, Try.ntmps47
          go_wp2_with fail
          go_ret
          exact ⟨⟨_, _, rfl, ints_new w [32] _ rfl⟩, (Below.refl _ _).alloc (Nat.le_refl _) _⟩
        · have HD : Hid (depL kind = []) := by show _ = _; unfold depL; rw [if_neg (by omega), if_neg h2, if_neg h3]
          go_enter Try.func47, Try.ntmps47
          go_wp2_with fail
          go_ret
          rw [HD.out]
          exact ⟨⟨_, _, rfl, .inl rfl⟩, Below.refl _ _⟩

/-- some kind can have that depth -/
def depB (d : Int) : Bool := decide (d = 1 ∨ d = 2 ∨ d = 4 ∨ d = 8 ∨ d = 24 ∨ d = 32)

theorem kind_cases {k : Nat} (h1 : 1 ≤ k) (h4 : k ≤ 4) : k = 1 ∨ k = 2 ∨ k = 3 ∨ k = 4 := by omega

theorem depB_yes {k : Nat} {d : Int} (h : d ∈ depL (k : Int)) : depB d = true := by
  unfold depL at h
  unfold depB
  apply decide_eq_true
  split at h
  · simp at h; omega
  · split at h
    · simp at h; omega
    · split at h
      · simp at h; omega
      · simp at h

theorem depB_no {d : Int} (h : ∀ k : Nat, 1 ≤ k → k ≤ 4 → d ∉ depL (k : Int)) : depB d = false := by
  have a := h 1 (by omega) (by omega)
  have b := h 2 (by omega) (by omega)
  have c := h 3 (by omega) (by omega)
  simp [depL] at a b c
  unfold depB
  apply decide_eq_false
  omega

set_option maxHeartbeats 400000 in
theorem depthOk_any (d : Int) (w : World) :
    Calls Try.prog 33 #[.int .i64 d] w fun e w' => e = .returned (.bool (depB d)) ∧ Below w.heap.size w w' := by
  go_enter Try.func33, Try.ntmps33
  go_wp2_with fail
  go_loopw [3] (fun i wr => ∃ k : Nat, 1 ≤ k ∧ k ≤ 5 ∧ i = .int .i64 k ∧ (∀ j : Nat, 1 ≤ j → j < k → d ∉ depL (j : Int)) ∧ Below w.heap.size w wr) (fun i _ => 5 - (intOf i).toNat)
  case atStart => exact ⟨1, by omega, by omega, rfl, fun j h1 h2 => absurd h2 (by omega), Below.refl _ _⟩
  case round =>
    obtain ⟨k, hk1, hk5, rfl, hall, hbel⟩ := hrel
    have HA : Hid (∀ j : Nat, 1 ≤ j → j < k → d ∉ depL (j : Int)) := hall
    clear hall
    by_cases hlt : k ≤ 4
    · have hki : (k : Int) ≤ 4 := by omega
      have hle := depL_len (k : Int)
      go_wp2_with fail
      refine (depthsOf_any (k : Int) wr).mono ?_
      rintro e w1 ⟨⟨ao, c, rfl, hI⟩, b1⟩
      have hb1 := hbel.trans (b1.mono hbel.size)
      have HC : Hid (Calls Try.prog 46 #[.slice ao (depL (k : Int)).length c, .int .i64 d] w1 fun e w' => e = .returned (.bool (decide (d ∈ depL (k : Int)))) ∧ w' = w1) := contains_any ao _ c _ d w1 hI rfl (by omega)
      clear hI b1 hbel
      generalize hL : (depL (k : Int)).length = L at *
      clear hL
      go_wp2_with fail
      refine HC.out.mono ?_
      rintro e w2 ⟨rfl, hw2⟩
      subst hw2
      by_cases hm : d ∈ depL (k : Int)
      · have HM : Hid (depB d = true) := depB_yes hm
        rw [decide_eq_true hm]
        clear hm HC
        go_wp2_with fail
        go_ret
        exact ⟨by rw [HM.out]; rfl, hb1⟩
      · have HM : Hid (d ∉ depL (k : Int)) := hm
        rw [decide_eq_false hm]
        clear hm HC
        go_wp2_with fail
        go_roundw
        case rel =>
          refine ⟨k + 1, by omega, by omega, by go_num, fun j h1 h2 => ?_, hb1⟩
          by_cases e : j < k
          · exact HA.out j h1 e
          · have : j = k := by omega
            subst this
            exact HM.out
        case measure => simp [intOf]; omega
    · have HM : Hid (depB d = false) := depB_no (fun j h1 h2 => HA.out j h1 (by omega))
      have hki : ¬ (k : Int) ≤ 4 := by omega
      clear HA
      go_wp2_with fail
      go_ret
      exact ⟨by rw [HM.out]; rfl, hbel⟩
end Go.Proofs.Ytjmmhaanndnipaa
