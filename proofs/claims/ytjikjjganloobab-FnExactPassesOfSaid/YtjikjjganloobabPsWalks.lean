/- Lists of parts (six numbers each) in memory: held against each other, marked, and found again. -/
import Derived.Test.YtjikjjganloobabMarkFrom
import Derived.Deep.RegionHeld3
import Derived.Below
namespace Go.Proofs.Ytjikjjganloobab
open Go.RowKit

set_option maxHeartbeats 1000000 in
theorem eqPass_same (a b c d e f : Int) (w : World) :
    Calls Try.prog 40 #[.agg #[.int .i64 a, .int .i64 b, .int .i64 c, .int .i64 d, .int .i64 e, .int .i64 f], .agg #[.int .i64 a, .int .i64 b, .int .i64 c, .int .i64 d, .int .i64 e, .int .i64 f]] w fun e w' => e = .returned (.bool true) ∧ Below w.heap.size w w' := by
  go_enter Try.func40, Try.ntmps40
  go_wp2_with fail
  go_ret
  exact ⟨rfl, ((Below.refl _ _).alloc (Nat.le_refl _) _).alloc (by simp) _⟩

/-- six cells from a place on -/
theorem ints_six {w : World} {a : Option Addr} {l : List Int} (h : Ints w a l) {k n : Nat} (hn : l.length = n * 6) (hk : k < n) : ∃ b off, a = some ⟨b, off, none⟩ ∧ b < w.heap.size ∧
    w.cell? ⟨b, off + k * 6, none⟩ = some (.int .i64 (l.getD (k * 6) 0)) ∧ w.cell? ⟨b, off + k * 6 + 1, none⟩ = some (.int .i64 (l.getD (k * 6 + 1) 0)) ∧ w.cell? ⟨b, off + k * 6 + 2, none⟩ = some (.int .i64 (l.getD (k * 6 + 2) 0)) ∧
    w.cell? ⟨b, off + k * 6 + 3, none⟩ = some (.int .i64 (l.getD (k * 6 + 3) 0)) ∧ w.cell? ⟨b, off + k * 6 + 4, none⟩ = some (.int .i64 (l.getD (k * 6 + 4) 0)) ∧ w.cell? ⟨b, off + k * 6 + 5, none⟩ = some (.int .i64 (l.getD (k * 6 + 5) 0)) := by
  rcases h with h | ⟨b, off, rfl, hb, hc⟩
  · rw [h] at hn; simp at hn; omega
  · have H : ∀ j, j < 6 → w.cell? ⟨b, off + (k * 6 + j), none⟩ = some (.int .i64 (l.getD (k * 6 + j) 0)) := fun j hj => by
      have hlt : k * 6 + j < l.length := by omega
      rw [hc (k * 6 + j) hlt, List.getD_eq_getElem?_getD, List.getElem?_eq_getElem hlt]; rfl
    exact ⟨b, off, rfl, hb, H 0 (by omega), H 1 (by omega), H 2 (by omega), H 3 (by omega), H 4 (by omega), H 5 (by omega)⟩

set_option maxHeartbeats 2000000 in
theorem eqPasses_same (a : Option Addr) (cap : Nat) (b : Option Addr) (cap' n : Nat) (l : List Int) (w : World) (h : Ints w a l) (g : Ints w b l) (hn : l.length = n * 6) (hl : n ≤ 20) :
    Calls Try.prog 14 #[.slice a n cap, .slice b n cap'] w fun e w' => e = .returned (.bool true) ∧ Below w.heap.size w w' := by
  have HI : Hid (∀ k, k < n → _) := fun k hk => ints_six h hn hk
  have HG : Hid (∀ k, k < n → _) := fun k hk => ints_six g hn hk
  clear h g hn
  go_enter Try.func14, Try.ntmps14
  go_wp2_with fail
  go_loopw [5] (fun i wr => ∃ k : Nat, k ≤ n ∧ i = .int .i64 k ∧ Below w.heap.size w wr) (fun i _ => n - (intOf i).toNat)
  case atStart => exact ⟨0, Nat.zero_le _, rfl, Below.refl _ _⟩
  case round =>
    obtain ⟨k, hk, rfl, hbel⟩ := hrel
    by_cases hlt : k < n
    · obtain ⟨b1, off1, rfl, hb1, c0, c1, c2, c3, c4, c5⟩ := HI.out k hlt
      obtain ⟨b2, off2, rfl, hb2, d0, d1, d2, d3, d4, d5⟩ := HG.out k hlt
      have e0 := (hbel.cell (p := ⟨b1, off1 + k * 6, none⟩) hb1).trans c0
      have e1 := (hbel.cell (p := ⟨b1, off1 + k * 6 + 1, none⟩) hb1).trans c1
      have e2 := (hbel.cell (p := ⟨b1, off1 + k * 6 + 2, none⟩) hb1).trans c2
      have e3 := (hbel.cell (p := ⟨b1, off1 + k * 6 + 3, none⟩) hb1).trans c3
      have e4 := (hbel.cell (p := ⟨b1, off1 + k * 6 + 4, none⟩) hb1).trans c4
      have e5 := (hbel.cell (p := ⟨b1, off1 + k * 6 + 5, none⟩) hb1).trans c5
      have f0 := (hbel.cell (p := ⟨b2, off2 + k * 6, none⟩) hb2).trans d0
      have f1 := (hbel.cell (p := ⟨b2, off2 + k * 6 + 1, none⟩) hb2).trans d1
      have f2 := (hbel.cell (p := ⟨b2, off2 + k * 6 + 2, none⟩) hb2).trans d2
      have f3 := (hbel.cell (p := ⟨b2, off2 + k * 6 + 3, none⟩) hb2).trans d3
      have f4 := (hbel.cell (p := ⟨b2, off2 + k * 6 + 4, none⟩) hb2).trans d4
      have f5 := (hbel.cell (p := ⟨b2, off2 + k * 6 + 5, none⟩) hb2).trans d5
      have hki : (k : Int) < (n : Int) := by omega
      have hbb1 : b1 < wr.heap.size := Nat.lt_of_lt_of_le hb1 hbel.size
      have hbb2 : b2 < wr.heap.size := Nat.lt_of_lt_of_le hb2 hbel.size
      clear HI HG c0 c1 c2 c3 c4 c5 d0 d1 d2 d3 d4 d5
      generalize l.getD (k * 6) 0 = v0 at *
      generalize l.getD (k * 6 + 1) 0 = v1 at *
      generalize l.getD (k * 6 + 2) 0 = v2 at *
      generalize l.getD (k * 6 + 3) 0 = v3 at *
      generalize l.getD (k * 6 + 4) 0 = v4 at *
      generalize l.getD (k * 6 + 5) 0 = v5 at *
      have HTT : Hid (∀ w, Calls Try.prog 40 #[.agg #[.int .i64 v0, .int .i64 v1, .int .i64 v2, .int .i64 v3, .int .i64 v4, .int .i64 v5], .agg #[.int .i64 v0, .int .i64 v1, .int .i64 v2, .int .i64 v3, .int .i64 v4, .int .i64 v5]] w fun e w' => e = .returned (.bool true) ∧ Below w.heap.size w w') := fun w => eqPass_same v0 v1 v2 v3 v4 v5 w
      go_wp2_with fail
      go_region_with ((go_at_call 40; refine (HTT.out _).mono ?_; rintro e w2 ⟨rfl, bel2⟩))
      all_goals have hb9 := hbel.drew.trans (bel2.mono hbel.size)
      all_goals clear bel2 hbel e0 e1 e2 e3 e4 e5 f0 f1 f2 f3 f4 f5 HTT
      all_goals go_wp2_with fail
      all_goals
        go_roundw
        case rel => exact ⟨k + 1, by omega, by go_num, hb9⟩
        case measure => simp [intOf]; omega
    · go_wp2_with fail
      go_ret
      exact ⟨rfl, hbel⟩

theorem mixS_next (f : Nat → Int) (k n : Nat) {w : World} {b t : Nat} (h : Own w b n (mixS 1 f k)) (hk : k < n) (ht : t = 1 + k) : Own (w.setCell ⟨b, k, none⟩ (.int .i64 (t : Int))) b n (mixS 1 f (k + 1)) :=
  h.stepS (k := k) (g := mixS 1 f (k + 1)) (t : Int) hk (by rw [mixS_lt 1 f (by omega), ht]) (fun i _ hne => by
    by_cases e : i < k
    · rw [mixS_lt 1 f e, mixS_lt 1 f (by omega)]
    · rw [mixS_ge 1 f e, mixS_ge 1 f (by omega)])

theorem Own.at {w : World} {b n k : Nat} {f : Nat → Int} (h : Own w b n f) (hk : k < n) : ∃ x : Int, w.cell? ⟨b, k, none⟩ = some (.int .i64 x) ∧ w.frozen? ⟨b, k, none⟩ = false := ⟨_, h.2 k hk⟩

set_option maxHeartbeats 2000000 in
set_option maxRecDepth 20000 in
theorem markPasses (b n c : Nat) (f : Nat → Int) (w : World) (h : Own w b (n * 6) f) (hn : n ≤ 20) :
    Calls Try.prog 15 #[.slice (some ⟨b, 0, none⟩) n c, .int .i64 1] w fun e w' => e = .returned (.int .i64 ((1 + n * 6 : Nat) : Int)) ∧ Own w' b (n * 6) (fun i => ((1 + i : Nat) : Int)) ∧ Turned b w w' := by
  have HO : Hid (Own w b (n * 6) f) := h
  clear h
  go_enter Try.func15, Try.ntmps15
  go_wp2_with fail
  go_loopw [1, 5] (fun x i wr => ∃ k t : Nat, k ≤ n ∧ i = .int .i64 k ∧ t = 1 + k * 6 ∧ x = .int .i64 (t : Int) ∧ Own wr b (n * 6) (mixS 1 f (k * 6)) ∧ Turned b w wr) (fun _ i _ => n - (intOf i).toNat)
  case atStart => exact ⟨0, 1, Nat.zero_le _, rfl, rfl, rfl, ⟨HO.out.1, fun i hi => by rw [mixS_ge 1 f (by omega)]; exact HO.out.2 i hi⟩, Turned.refl _ _⟩
  case round =>
    obtain ⟨k, t, hk, rfl, ht, rfl, hO, hT⟩ := hrel
    by_cases hlt : k < n
    · have h0 := mixS_next f (k * 6) (n * 6) hO (by omega) ht
      have h1 := mixS_next f (k * 6 + 1) (n * 6) h0 (by omega) (t := t + 1) (by omega)
      have h2 := mixS_next f (k * 6 + 2) (n * 6) h1 (by omega) (t := t + 2) (by omega)
      have h3 := mixS_next f (k * 6 + 3) (n * 6) h2 (by omega) (t := t + 3) (by omega)
      have h4 := mixS_next f (k * 6 + 4) (n * 6) h3 (by omega) (t := t + 4) (by omega)
      have h5 := mixS_next f (k * 6 + 5) (n * 6) h4 (by omega) (t := t + 5) (by omega)
      have hT5 := (((((hT.set (k * 6) (.int .i64 (t : Int))).set (k * 6 + 1) (.int .i64 ((t + 1 : Nat) : Int))).set (k * 6 + 2) (.int .i64 ((t + 2 : Nat) : Int))).set (k * 6 + 3) (.int .i64 ((t + 3 : Nat) : Int))).set (k * 6 + 4) (.int .i64 ((t + 4 : Nat) : Int))).set (k * 6 + 5) (.int .i64 ((t + 5 : Nat) : Int))
      obtain ⟨y0, c0, z0⟩ := hO.at (k := k * 6) (by omega)
      obtain ⟨y1, c1, z1⟩ := hO.at (k := k * 6 + 1) (by omega)
      obtain ⟨y2, c2, z2⟩ := hO.at (k := k * 6 + 2) (by omega)
      obtain ⟨y3, c3, z3⟩ := hO.at (k := k * 6 + 3) (by omega)
      obtain ⟨y4, c4, z4⟩ := hO.at (k := k * 6 + 4) (by omega)
      obtain ⟨y5, c5, z5⟩ := hO.at (k := k * 6 + 5) (by omega)
      have hki : (k : Int) < (n : Int) := by omega
      obtain ⟨q1, hq1⟩ : ∃ q : Nat, q = t + 1 := ⟨_, rfl⟩
      obtain ⟨q2, hq2⟩ : ∃ q : Nat, q = t + 2 := ⟨_, rfl⟩
      obtain ⟨q3, hq3⟩ : ∃ q : Nat, q = t + 3 := ⟨_, rfl⟩
      obtain ⟨q4, hq4⟩ : ∃ q : Nat, q = t + 4 := ⟨_, rfl⟩
      obtain ⟨q5, hq5⟩ : ∃ q : Nat, q = t + 5 := ⟨_, rfl⟩
      rw [← hq1, ← hq2, ← hq3, ← hq4, ← hq5] at h5 hT5
      have H1 : Hid (Own _ b (n * 6) _) := h5
      have H2 : Hid (Turned b w _) := hT5
      have HQ : Hid (t = 1 + k * 6 ∧ q5 = t + 5) := ⟨ht, hq5⟩
      have a1 : (t : Int) + 1 = (q1 : Int) := by omega
      have a2 : (q1 : Int) + 1 = (q2 : Int) := by omega
      have a3 : (q2 : Int) + 1 = (q3 : Int) := by omega
      have a4 : (q3 : Int) + 1 = (q4 : Int) := by omega
      have a5 : (q4 : Int) + 1 = (q5 : Int) := by omega
      have htb : t ≤ 200 := by omega
      have b1 : q1 ≤ 210 := by omega
      have b2 : q2 ≤ 210 := by omega
      have b3 : q3 ≤ 210 := by omega
      have b4 : q4 ≤ 210 := by omega
      have b5 : q5 ≤ 210 := by omega
      clear hO hT h0 h1 h2 h3 h4 h5 hT5 HO ht hq1 hq2 hq3 hq4 hq5
      go_wp2_with fail
      go_roundw
      case rel => exact ⟨k + 1, q5 + 1, by omega, by go_num, by have := HQ.out; omega, by go_num, by rw [Nat.add_mul, Nat.one_mul]; exact H1.out, H2.out⟩
      case measure => simp [intOf]; omega
    · have hk' : k = n := by omega
      subst hk'
      have H1 : Hid (Own _ b (k * 6) (fun i => ((1 + i : Nat) : Int))) := ⟨hO.1, fun i hi => by have := hO.2 i hi; rw [mixS_lt 1 f hi] at this; exact this⟩
      have H3 : Hid (t = 1 + k * 6) := ht
      clear hO ht
      go_wp2_with fail
      go_ret
      exact ⟨ret_int (by have := H3.out; omega), H1.out, hT⟩

set_option maxHeartbeats 2000000 in
set_option maxRecDepth 20000 in
theorem heldPasses (b n c : Nat) (w : World) (h : Own w b (n * 6) (fun i => ((1 + i : Nat) : Int))) (hn : n ≤ 20) :
    Calls Try.prog 16 #[.slice (some ⟨b, 0, none⟩) n c, .int .i64 1] w fun e w' => e = .returned (.int .i64 ((1 + n * 6 : Nat) : Int)) ∧ w' = w := by
  have HO : Hid (∀ i, i < n * 6 → w.cell? ⟨b, i, none⟩ = some (.int .i64 ((1 + i : Nat) : Int))) := fun i hi => (h.2 i hi).1
  clear h
  go_enter Try.func16, Try.ntmps16
  go_wp2_with fail
  go_loop [1, 5] (fun x i => ∃ k t : Nat, k ≤ n ∧ i = .int .i64 k ∧ t = 1 + k * 6 ∧ x = .int .i64 (t : Int)) (fun _ i => n - (intOf i).toNat)
  case atStart => exact ⟨0, 1, Nat.zero_le _, rfl, rfl, rfl⟩
  case round =>
    obtain ⟨k, t, hk, rfl, ht, rfl⟩ := hrel
    by_cases hlt : k < n
    · obtain ⟨q1, hq1⟩ : ∃ q : Nat, q = t + 1 := ⟨_, rfl⟩
      obtain ⟨q2, hq2⟩ : ∃ q : Nat, q = t + 2 := ⟨_, rfl⟩
      obtain ⟨q3, hq3⟩ : ∃ q : Nat, q = t + 3 := ⟨_, rfl⟩
      obtain ⟨q4, hq4⟩ : ∃ q : Nat, q = t + 4 := ⟨_, rfl⟩
      obtain ⟨q5, hq5⟩ : ∃ q : Nat, q = t + 5 := ⟨_, rfl⟩
      have c0 := HO.out (k * 6) (by omega)
      have c1 := HO.out (k * 6 + 1) (by omega)
      have c2 := HO.out (k * 6 + 2) (by omega)
      have c3 := HO.out (k * 6 + 3) (by omega)
      have c4 := HO.out (k * 6 + 4) (by omega)
      have c5 := HO.out (k * 6 + 5) (by omega)
      rw [show 1 + k * 6 = t by omega] at c0
      rw [show 1 + (k * 6 + 1) = q1 by omega] at c1
      rw [show 1 + (k * 6 + 2) = q2 by omega] at c2
      rw [show 1 + (k * 6 + 3) = q3 by omega] at c3
      rw [show 1 + (k * 6 + 4) = q4 by omega] at c4
      rw [show 1 + (k * 6 + 5) = q5 by omega] at c5
      have hki : (k : Int) < (n : Int) := by omega
      have HQ : Hid (t = 1 + k * 6 ∧ q5 = t + 5) := ⟨ht, hq5⟩
      have a1 : (t : Int) + 1 = (q1 : Int) := by omega
      have a2 : (q1 : Int) + 1 = (q2 : Int) := by omega
      have a3 : (q2 : Int) + 1 = (q3 : Int) := by omega
      have a4 : (q3 : Int) + 1 = (q4 : Int) := by omega
      have a5 : (q4 : Int) + 1 = (q5 : Int) := by omega
      have htb : t ≤ 200 := by omega
      have b1 : q1 ≤ 210 := by omega
      have b2 : q2 ≤ 210 := by omega
      have b3 : q3 ≤ 210 := by omega
      have b4 : q4 ≤ 210 := by omega
      have b5 : q5 ≤ 210 := by omega
      clear ht hq1 hq2 hq3 hq4 hq5
      go_wp2_with fail
      go_round
      case rel => exact ⟨k + 1, q5 + 1, by omega, by go_num, by have := HQ.out; omega, by go_num⟩
      case measure => simp [intOf]; omega
    · have hk' : k = n := by omega
      subst hk'
      have H3 : Hid (t = 1 + k * 6) := ht
      clear ht
      go_wp2_with fail
      go_ret
      exact ⟨ret_int (by have := H3.out; omega), rfl⟩
end Go.Proofs.Ytjikjjganloobab
