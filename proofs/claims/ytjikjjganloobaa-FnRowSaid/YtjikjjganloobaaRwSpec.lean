/- RowGet of the specification. -/
import Derived.Test.YtjikjjganloobaaRwMath
import Derived.Test.YtjikjjganloobaaIntOwn
namespace Go.Proofs.Ytjikjjganloobaa
open Go.RowKit

set_option maxHeartbeats 400000 in
theorem l8Bits_any (d : Int) (w : World) :
    Calls Try.prog 26 #[.int .i64 d] w fun e w' => e = .returned (.bool (depB d)) ∧ w' = w := by
  by_cases h : depB d = true
  · have HD : Hid (depB d = true) := h
    rcases Rw.dep_cases h with rfl | rfl | rfl | rfl | rfl | rfl
    all_goals
      clear h
      go_enter Try.func26, Try.ntmps26
      go_wp2_with fail
      go_ret
      exact ⟨by rw [HD.out]; rfl, rfl⟩
  · have HD : Hid (depB d = false) := by show _ = _; simpa using h
    unfold depB at h
    simp only [decide_eq_true_eq, not_or] at h
    obtain ⟨h1, h2, h3, h4, h5, h6⟩ := h
    have e1 : (d == 1) = false := by simpa using h1
    have e2 : (d == 2) = false := by simpa using h2
    have e3 : (d == 4) = false := by simpa using h3
    have e4 : (d == 8) = false := by simpa using h4
    have e5 : (d == 24) = false := by simpa using h5
    have e6 : (d == 32) = false := by simpa using h6
    go_enter Try.func26, Try.ntmps26
    go_wp2_with fail
    go_ret
    exact ⟨by rw [HD.out]; rfl, rfl⟩

set_option maxHeartbeats 400000 in
theorem l8Bytes_any (C D P Q : Nat) (w : World) (hP : P = C * D) (hQ : Q = (P + 7) / 8) (hb : P ≤ 32000) :
    Calls Try.prog 28 #[.int .i64 C, .int .i64 D] w fun e w' => e = .returned (.int .i64 (Q : Int)) ∧ w' = w := by
  have e1 : (C : Int) * (D : Int) = (P : Int) := by rw [hP]; simp
  have e2 : ((P : Int) + 7) / 8 = (Q : Int) := by omega
  have e3 : ((P : Int) + 7).tdiv 8 = (Q : Int) := by rw [Int.tdiv_eq_ediv_of_nonneg (by omega)]; exact e2
  have hQ2 : Q ≤ 5000 := by omega
  clear hP hQ
  go_enter Try.func28, Try.ntmps28
  go_wp2_with fail
  go_ret
  exact ⟨by first | rfl | (simp only [e1, e2, e3]), rfl⟩

set_option maxHeartbeats 1000000 in
set_option maxRecDepth 20000 in
theorem l8Points_small (s : ByteArray) (D n : Nat) (w : World) (hD : D ≤ 24) (hlen : n * D ≤ 8 * s.size) (hs : s.size ≤ 9000) (hn : n ≤ 1000) :
    Calls Try.prog 29 #[.string s, .int .i64 D, .int .i64 n] w fun e w' => (∃ ao c, e = .returned (.slice ao n c) ∧ Ints w' ao (Rw.row s D n)) ∧ Below w.heap.size w w' := by
  obtain ⟨i0, hi0, hz0, hz1, hz2⟩ := info_parts info_int
  have HE := ownI_none w
  have HL : Hid (n * D ≤ 8 * s.size) := hlen
  have hDi : ¬ (24 : Int) < (D : Int) := by omega
  clear hlen
  go_enter Try.func29, Try.ntmps29
  go_wp2_with fail
  go_loopw [7, 8] (fun v i wr => ∃ k : Nat, k ≤ n ∧ i = .int .i64 k ∧ OwnI wr w.heap.size v k (Rw.row s D k) ∧ Below w.heap.size w wr) (fun _ i _ => n - (intOf i).toNat)
  case atStart => exact ⟨0, Nat.zero_le _, rfl, HE, (Below.refl _ _).alloc (Nat.le_refl _) _⟩
  case round =>
    obtain ⟨k, hk, rfl, hown, hbel⟩ := hrel
    clear HE
    by_cases hlt : k < n
    · obtain ⟨P, hP⟩ : ∃ P, P = k * D := ⟨_, rfl⟩
      have hPD : P + D ≤ 8 * s.size := by
        have h1 : (k + 1) * D ≤ n * D := Nat.mul_le_mul_right _ hlt
        rw [Nat.add_mul, Nat.one_mul, ← hP] at h1
        exact Nat.le_trans h1 HL.out
      have hPi : (k : Int) * (D : Int) = (P : Int) := by rw [hP]; simp
      obtain ⟨x, hx⟩ : ∃ x, x = Rw.pt s D k := ⟨_, rfl⟩
      have hxb : x < 16777216 := by
        rw [hx]; exact Nat.lt_of_lt_of_le (Rw.pt_lt s D k) (Nat.le_trans (Nat.pow_le_pow_right (by omega) hD) (by decide))
      have HG : Hid (∀ w : World, Calls Try.prog 47 #[.string s, .int .i64 (P : Int), .int .i64 D, .bool true] w fun e w' => e = .returned (.int .i64 (x : Int)) ∧ ∃ m, w' = w.drewN m) := by
        intro w
        have := l1Get_high s P D w hPD hs hD
        rw [hx, hP]; rw [hP] at this
        exact this
      have HR : Hid (Rw.row s D (k + 1) = Rw.row s D k ++ [(x : Int)]) := by show _ = _; rw [Rw.row_succ, hx]
      have hP7 : P ≤ 72000 := by omega
      clear hx hP hPD
      generalize Rw.row s D k = l at *
      have hki : (k : Int) < (n : Int) := by omega
      go_wp2_with fail
      refine (HG.out _).mono ?_
      rintro e w3 ⟨rfl, m, hw3⟩
      have hown3 := hown.drewN m
      rw [← hw3] at hown3
      have hbel3 : Below w.heap.size w w3 := by rw [hw3]; exact below_drewN hbel _
      clear hw3 hown hbel HG
      have hbs : w.heap.size ≤ w3.heap.size := hbel3.size
      have hm63 : k + 1 ≤ maxLen := by unfold maxLen; omega
      have hlen : (k + 1) * 8 ≤ 140737488355328 := by omega
      have hone : ∀ u ∈ [Value.int .i64 (x : Int)], u.oneCell' = true := by intro u hu; simp at hu; subst hu; rfl
      go_wp2_with (at_builtin; refine wpList_append_lies _ (by rfl) _ _ _ (by rfl) w.heap.size 3 i0 (.int .i64 0) 1 8 Try.underlying22 hi0 hz0 hz1 hz2 rfl (by decide) _ k (intsV l) (by rfl) (World.ownsRow.alloc (show World.ownsRow _ _ _ _ _ _ _ from hown3) _) ⟨w3.heap.size, 0, none⟩ 1 1 [.int .i64 (x : Int)] (by rfl) rfl (World.news_of_block (heap_alloc_new _ _)) hone (by decide) hm63 hlen (by simp; omega) _ rfl ?_)
      intro g cap2 w4 hown4 hgrow hat hlt4
      have hlt0 := World.ownsRow.lt hown3
      have hb4 : Below w.heap.size w w4 := (hbel3.alloc hbs _).grown hgrow (by simp; omega) (fun k hk => (hlt0 k hk).1)
      have H4 : Hid (OwnI w4 w.heap.size (.slice (some ⟨g, 0, none⟩) (k + 1) cap2) (k + 1) (Rw.row s D (k + 1))) := by
        show OwnI _ _ _ _ _
        rw [HR.out]; exact OwnI.more hown4
      clear hown4 hgrow hat hlt0 hown3 hbel3 hone hm63 hlen hlt4
      go_wp2_with fail
      go_roundw
      case rel => exact ⟨k + 1, by omega, by go_num, H4.out, hb4⟩
      case measure => simp [intOf]; omega
    · have hk' : k = n := by omega
      subst hk'
      obtain ⟨ao, cap, rfl, hO⟩ := OwnI.owns hown
      have HI : Hid (Ints _ ao (Rw.row s D k)) := hO.ints
      clear hown hO
      go_wp2_with fail
      go_ret
      exact ⟨⟨_, _, rfl, HI.out⟩, hbel⟩

set_option maxHeartbeats 1000000 in
set_option maxRecDepth 20000 in
theorem l8Points_32 (s : ByteArray) (n : Nat) (w : World) (hlen : n * 32 ≤ 8 * s.size) (hs : s.size ≤ 9000) (hn : n ≤ 1000) :
    Calls Try.prog 29 #[.string s, .int .i64 32, .int .i64 n] w fun e w' => (∃ ao c, e = .returned (.slice ao n c) ∧ Ints w' ao (Rw.row s 32 n)) ∧ Below w.heap.size w w' := by
  obtain ⟨i0, hi0, hz0, hz1, hz2⟩ := info_parts info_int
  have HE := ownI_none w
  have HL : Hid (n * 32 ≤ 8 * s.size) := hlen
  clear hlen
  go_enter Try.func29, Try.ntmps29
  go_wp2_with fail
  go_loopw [7, 8] (fun v i wr => ∃ k : Nat, k ≤ n ∧ i = .int .i64 k ∧ OwnI wr w.heap.size v k (Rw.row s 32 k) ∧ Below w.heap.size w wr) (fun _ i _ => n - (intOf i).toNat)
  case atStart => exact ⟨0, Nat.zero_le _, rfl, HE, (Below.refl _ _).alloc (Nat.le_refl _) _⟩
  case round =>
    obtain ⟨k, hk, rfl, hown, hbel⟩ := hrel
    clear HE
    by_cases hlt : k < n
    · obtain ⟨P, hP⟩ : ∃ P, P = k * 32 := ⟨_, rfl⟩
      have hPD : P + 32 ≤ 8 * s.size := by have := HL.out; omega
      obtain ⟨x, hx⟩ : ∃ x, x = Bg.big (fun i => bitAt s true (P + i)) 16 := ⟨_, rfl⟩
      obtain ⟨y, hy⟩ : ∃ y, y = Bg.big (fun i => bitAt s true (P + 16 + i)) 16 := ⟨_, rfl⟩
      have hxb : x < 65536 := by rw [hx]; exact Bg.big_lt _ (fun _ => bitAt_lt _ _ _) 16
      have hyb : y < 65536 := by rw [hy]; exact Bg.big_lt _ (fun _ => bitAt_lt _ _ _) 16
      have HG : Hid (∀ (z : Int) (w : World), z = (P : Int) → Calls Try.prog 47 #[.string s, .int .i64 z, .int .i64 16, .bool true] w fun e w' => e = .returned (.int .i64 (x : Int)) ∧ ∃ m, w' = w.drewN m) := by
        intro z w hz
        rw [hz, hx]; exact l1Get_high s P 16 w (by omega) hs (by omega)
      have HG2 : Hid (∀ (z : Int) (w : World), z = ((P + 16 : Nat) : Int) → Calls Try.prog 47 #[.string s, .int .i64 z, .int .i64 16, .bool true] w fun e w' => e = .returned (.int .i64 (y : Int)) ∧ ∃ m, w' = w.drewN m) := by
        intro z w hz
        rw [hz, hy]; exact l1Get_high s (P + 16) 16 w (by omega) hs (by omega)
      have HR : Hid (Rw.row s 32 (k + 1) = Rw.row s 32 k ++ [(x : Int) * 65536 + (y : Int)]) := by
        show _ = _; rw [Rw.row_succ, Rw.pt_split, hx, hy, hP]; simp
      have HPP : Hid ((k : Int) * 32 = (P : Int) ∧ (k : Int) * 32 + 16 = ((P + 16 : Nat) : Int)) := by constructor <;> omega
      have hP7 : P ≤ 72000 := by omega
      clear hx hy hP hPD
      generalize Rw.row s 32 k = l at *
      have hki : (k : Int) < (n : Int) := by omega
      go_wp2_with fail
      refine (HG.out _ _ HPP.out.1).mono ?_
      rintro e w2 ⟨rfl, m2, hw2⟩
      have hown2 := hown.drewN m2
      rw [← hw2] at hown2
      have hbel2 : Below w.heap.size w w2 := by rw [hw2]; exact below_drewN hbel _
      clear hw2 hown hbel HG
      go_wp2_with fail
      refine (HG2.out _ _ HPP.out.2).mono ?_
      rintro e w3 ⟨rfl, m, hw3⟩
      have hown3 := hown2.drewN m
      rw [← hw3] at hown3
      have hbel3 : Below w.heap.size w w3 := by rw [hw3]; exact below_drewN hbel2 _
      clear hw3 hown2 hbel2 HG2
      obtain ⟨z, hz⟩ : ∃ z : Nat, z = x * 65536 + y := ⟨_, rfl⟩
      have hzi : (x : Int) * 65536 + (y : Int) = (z : Int) := by omega
      have hzb : z < 4294967296 := by omega
      rw [hzi] at HR
      clear hz
      have hbs : w.heap.size ≤ w3.heap.size := hbel3.size
      have hm63 : k + 1 ≤ maxLen := by unfold maxLen; omega
      have hlen : (k + 1) * 8 ≤ 140737488355328 := by omega
      have hone : ∀ u ∈ [Value.int .i64 (z : Int)], u.oneCell' = true := by intro u hu; simp at hu; subst hu; rfl
      go_wp2_with (at_builtin; refine wpList_append_lies _ (by rfl) _ _ _ (by rfl) w.heap.size 3 i0 (.int .i64 0) 1 8 Try.underlying22 hi0 hz0 hz1 hz2 rfl (by decide) _ k (intsV l) (by rfl) (World.ownsRow.alloc (show World.ownsRow _ _ _ _ _ _ _ from hown3) _) ⟨w3.heap.size, 0, none⟩ 1 1 [.int .i64 (z : Int)] (by rfl) rfl (World.news_of_block (heap_alloc_new _ _)) hone (by decide) hm63 hlen (by simp; omega) _ rfl ?_)
      intro g cap2 w4 hown4 hgrow hat hlt4
      have hlt0 := World.ownsRow.lt hown3
      have hb4 : Below w.heap.size w w4 := (hbel3.alloc hbs _).grown hgrow (by simp; omega) (fun k hk => (hlt0 k hk).1)
      have H4 : Hid (OwnI w4 w.heap.size (.slice (some ⟨g, 0, none⟩) (k + 1) cap2) (k + 1) (Rw.row s 32 (k + 1))) := by
        show OwnI _ _ _ _ _
        rw [HR.out]; exact OwnI.more hown4
      clear hown4 hgrow hat hlt0 hown3 hbel3 hone hm63 hlen hlt4
      go_wp2_with fail
      go_roundw
      case rel => exact ⟨k + 1, by omega, by go_num, H4.out, hb4⟩
      case measure => simp [intOf]; omega
    · have hk' : k = n := by omega
      subst hk'
      obtain ⟨ao, cap, rfl, hO⟩ := OwnI.owns hown
      have HI : Hid (Ints _ ao (Rw.row s 32 k)) := hO.ints
      clear hown hO
      go_wp2_with fail
      go_ret
      exact ⟨⟨_, _, rfl, HI.out⟩, hbel⟩
end Go.Proofs.Ytjikjjganloobaa
