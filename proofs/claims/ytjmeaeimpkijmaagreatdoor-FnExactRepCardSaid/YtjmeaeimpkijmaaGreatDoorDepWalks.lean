/- The depths that a picture's kind can have, and a number found in a list. -/
import Derived.Test.YtjmeaeimpkijmaaGreatDoorIntsWalks
import Derived.Below
namespace Go.Proofs.YtjmeaeimpkijmaaGreatDoor
open Go.RowKit

set_option maxHeartbeats 400000 in
theorem index_any (a : Option Addr) (n cap : Nat) (zs : List Int) (v : Int) (w : World) (h : Ints w a zs) (hn : zs.length = n) (hl : n ≤ 2000000) :
    Calls Tryz.prog 77 #[.slice a n cap, .int .i64 v] w fun e w' => (∃ r : Int, e = .returned (.int .i64 r) ∧ decide (0 ≤ r) = decide (v ∈ zs)) ∧ w' = w := by
  have HI : Hid (Ints w a zs) := h
  have hzg : n ≤ zs.length := by omega
  have HN : Hid (zs.length = n) := hn
  clear h hn
  go_enter Tryz.func77, Tryz.ntmps77
  go_wp2_with fail
  go_loop [8] (fun i => ∃ k : Nat, k ≤ n ∧ i = .int .i64 k ∧ ∀ j (hj : j < zs.length), j < k → zs[j] ≠ v) (fun i => n - (intOf i).toNat)
  case atStart => exact ⟨0, Nat.zero_le _, rfl, fun j hj h0 => absurd h0 (by omega)⟩
  case round =>
    obtain ⟨k, hk, rfl, hall⟩ := hrel
    have HA : Hid (∀ j (hj : j < zs.length), j < k → zs[j] ≠ v) := hall
    clear hall
    by_cases hlt : k < n
    · have hkz : k < zs.length := by omega
      rcases HI.out with h | ⟨b, off, rfl, hbB, hc⟩
      · rw [h] at hkz; simp at hkz
      · have hck := hc k hkz
        have hki : (k : Int) < (n : Int) := by omega
        clear hc
        by_cases he : v = zs[k]
        · have HM : Hid (v ∈ zs) := by rw [he]; exact List.getElem_mem hkz
          rw [← he] at hck
          clear he
          go_wp2_with fail
          go_ret
          exact ⟨⟨_, rfl, ⟨fun _ => HM.out, fun _ => Int.natCast_nonneg _⟩⟩, rfl⟩
        · have HX : Hid (v ≠ zs[k]) := he
          generalize hg : zs[k] = x at *
          have hG : Hid (zs[k] = x) := hg
          clear hg
          go_wp2_with fail
          go_round
          case rel =>
            refine ⟨k + 1, by omega, by go_num, fun j hj h1 => ?_⟩
            by_cases e : j < k
            · exact HA.out j hj e
            · have : j = k := by omega
              subst this
              rw [hG.out]; exact fun q => HX.out q.symm
          case measure => simp [intOf]; omega
    · have hk' : k = n := by omega
      subst hk'
      have HM : Hid (v ∉ zs) := fun hm => by
        obtain ⟨j, hj, e⟩ := List.getElem_of_mem hm
        exact HA.out j hj (by have := HN.out; omega) e
      clear HA
      go_wp2_with fail
      go_ret
      exact ⟨⟨_, rfl, ⟨fun h => absurd h (by omega), fun h => absurd h HM.out⟩⟩, rfl⟩

set_option maxHeartbeats 400000 in
theorem contains_any (a : Option Addr) (n cap : Nat) (zs : List Int) (v : Int) (w : World) (h : Ints w a zs) (hn : zs.length = n) (hl : n ≤ 2000000) :
    Calls Tryz.prog 54 #[.slice a n cap, .int .i64 v] w fun e w' => e = .returned (.bool (decide (v ∈ zs))) ∧ w' = w := by
  have HC : Hid (Calls Tryz.prog 77 #[.slice a n cap, .int .i64 v] w fun e w' => (∃ r : Int, e = .returned (.int .i64 r) ∧ decide (0 ≤ r) = decide (v ∈ zs)) ∧ w' = w) := index_any a n cap zs v w h hn hl
  clear h hn
  go_enter Tryz.func54, Tryz.ntmps54
  go_wp2_with fail
  refine HC.out.mono ?_
  rintro e w1 ⟨⟨r, rfl, hr⟩, hw1⟩
  subst hw1
  have HR : Hid (decide (0 ≤ r) = decide (v ∈ zs)) := hr
  clear hr HC
  go_wp2_with fail
  go_ret
  exact ⟨by rw [← HR.out]; rfl, rfl⟩

/-- the depths of a kind -/
def depL (kind : Int) : List Int := if kind = 1 ∨ kind = 4 then [1, 2, 4, 8] else if kind = 2 then [24] else if kind = 3 then [32] else []
theorem depL_len (kind : Int) : (depL kind).length ≤ 4 := by unfold depL; split; simp; split; simp; split <;> simp

theorem ints_new (w : World) (zs : List Int) (A : Array Value) (hA : A = (zs.map (fun z => Value.int .i64 z)).toArray) : Ints (w.alloc (.cells A 3)) (some ⟨w.heap.size, 0, none⟩) zs := by
  subst hA
  refine .inr ⟨w.heap.size, 0, rfl, by simp, fun i hi => ?_⟩
  rw [World.cell?_alloc_at _ _ _ _ rfl]
  simp [hi]

set_option maxHeartbeats 400000 in
theorem depthsOf_any (kind : Int) (w : World) :
    Calls Tryz.prog 55 #[.int .i64 kind] w fun e w' => (∃ ao c, e = .returned (.slice ao (depL kind).length c) ∧ Ints w' ao (depL kind)) ∧ Below w.heap.size w w' := by
  by_cases h1 : kind = 1
  · subst h1
    go_enter Tryz.func55, Tryz.ntmps55
    go_wp2_with fail
    go_ret
    exact ⟨⟨_, _, rfl, ints_new w [1, 2, 4, 8] _ rfl⟩, (Below.refl _ _).alloc (Nat.le_refl _) _⟩
  · by_cases h4 : kind = 4
    · subst h4
      go_enter Tryz.func55, Tryz.ntmps55
      go_wp2_with fail
      go_ret
      exact ⟨⟨_, _, rfl, ints_new w [1, 2, 4, 8] _ rfl⟩, (Below.refl _ _).alloc (Nat.le_refl _) _⟩
    · by_cases h2 : kind = 2
      · subst h2
        go_enter Tryz.func55, Tryz.ntmps55
        go_wp2_with fail
        go_ret
        exact ⟨⟨_, _, rfl, ints_new w [24] _ rfl⟩, (Below.refl _ _).alloc (Nat.le_refl _) _⟩
      · by_cases h3 : kind = 3
        · subst h3
          go_enter Tryz.func55, Tryz.ntmps55
          go_wp2_with fail
          go_ret
          exact ⟨⟨_, _, rfl, ints_new w [32] _ rfl⟩, (Below.refl _ _).alloc (Nat.le_refl _) _⟩
        · have HD : Hid (depL kind = []) := by show _ = _; unfold depL; rw [if_neg (by omega), if_neg h2, if_neg h3]
          go_enter Tryz.func55, Tryz.ntmps55
          go_wp2_with fail
          go_ret
          rw [HD.out]
          exact ⟨⟨_, _, rfl, .inl rfl⟩, Below.refl _ _⟩
end Go.Proofs.YtjmeaeimpkijmaaGreatDoor
