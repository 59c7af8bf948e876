/- Rows of numbers: held against others, marked, found again. -/
import Derived.Test.YtlpfedhehfbfeaaRlTop
import Derived.Test.YtlpfedhehfbfeaaMarkFrom
namespace Go.Proofs.Ytlpfedhehfbfeaa
open Go.RowKit

theorem RowsAre.kept {base : Nat} {w w' : World} {a : Option Addr} {n W : Nat} {g : Rl.Grid} (h : RowsAre base w a n W g) (b : Below w.heap.size w w') : RowsAre base w' a n W g := by
  rcases h with e | ⟨R, G, e, hG, hR, hRl, hg⟩
  · exact .inl e
  · exact .inr ⟨R, G, e, hG, hR, Nat.lt_of_lt_of_le hRl b.size, hg.same b.size (fun _ => b.block R hRl) (fun c hc => b.block c (hg.low c hc).2)⟩

/-- a row's numbers -/
def rowL (g : Rl.Grid) (y W : Nat) : List Int := (List.range W).map fun x => g y x
theorem rowL_len (g : Rl.Grid) (y W : Nat) : (rowL g y W).length = W := by simp [rowL]
theorem Gd.ints {base : Nat} {w : World} {R W : Nat} {G : List Nat} {g : Rl.Grid} (h : Gd base w R G W g) {y : Nat} (hy : y < G.length) : Ints w (some ⟨G[y], 0, none⟩) (rowL g y W) := by
  refine .inr ⟨G[y], 0, rfl, (h.low _ (List.getElem_mem hy)).2, fun i hi => ?_⟩
  have hi' : i < W := by rw [rowL_len] at hi; exact hi
  rw [Nat.zero_add, (h.num y hy i hi').1]
  simp [rowL]
theorem Gd.drewN {base : Nat} {w : World} {R W : Nat} {G : List Nat} {g : Rl.Grid} (h : Gd base w R G W g) (q : Nat) : Gd base (w.drewN q) R G W g := h.same (Nat.le_refl _) (fun _ => rfl) (fun _ _ => rfl)

set_option maxHeartbeats 1000000 in
theorem eqRows_same (base base' : Nat) (a : Option Addr) (cap : Nat) (b : Option Addr) (cap' n W : Nat) (g : Rl.Grid) (w : World) (h1 : RowsAre base w a n W g) (h2 : RowsAre base' w b n W g) (hn : n ≤ 100) (hW : W ≤ 100) :
    Calls Try.prog 17 #[.slice a n cap, .slice b n cap'] w fun e w' => e = .returned (.bool true) ∧ ∃ m, w' = w.drewN m := by
  have H1 : Hid (RowsAre base w a n W g) := h1
  have H2 : Hid (RowsAre base' w b n W g) := h2
  clear h1 h2
  go_enter Try.func17, Try.ntmps17
  go_wp2_with fail
  go_loopw [5] (fun i wr => ∃ k m : Nat, k ≤ n ∧ i = .int .i64 k ∧ wr = w.drewN m) (fun i _ => n - (intOf i).toNat)
  case atStart => exact ⟨0, 0, Nat.zero_le _, rfl, rfl⟩
  case round =>
    obtain ⟨k, m, hk, rfl, hwr⟩ := hrel
    have HW : Hid (wr = w.drewN m) := hwr
    clear hwr
    by_cases hlt : k < n
    · have hki : (k : Int) < (n : Int) := by omega
      rcases H1.out with e | ⟨R1, G1, rfl, hG1, -, -, g1⟩
      · omega
      rcases H2.out with e | ⟨R2, G2, rfl, hG2, -, -, g2⟩
      · omega
      have hk1 : k < G1.length := by omega
      have hk2 : k < G2.length := by omega
      have e1 : wr.cell? ⟨R1, k, none⟩ = some (.slice (some ⟨G1[k], 0, none⟩) W W) := by rw [HW.out]; exact (g1.drewN m).row k hk1
      have e2 : wr.cell? ⟨R2, k, none⟩ = some (.slice (some ⟨G2[k], 0, none⟩) W W) := by rw [HW.out]; exact (g2.drewN m).row k hk2
      have HEQ : Hid (∀ q, Calls Try.prog 37 #[.slice (some ⟨G1[k], 0, none⟩) W W, .slice (some ⟨G2[k], 0, none⟩) W W] (wr.drewN q) fun e w' => e = .returned (.bool true) ∧ ∃ m', w' = (wr.drewN q).drewN m') := fun q => by rw [HW.out]; exact eqInts_same _ _ _ _ W (rowL g k W) ((w.drewN m).drewN q) (((g1.drewN m).drewN q).ints hk1) (((g2.drewN m).drewN q).ints hk2) (rowL_len _ _ _) (by omega)
      generalize G1[k] = b1 at *
      generalize G2[k] = b2 at *
      clear hG1 hG2 g1 g2 H1 H2 hk1 hk2
      go_wp2_with fail
      go_quiet ((go_at_call 37; exact Calls.quiet_of (HEQ.out _)))
      all_goals go_wp2_with fail
      all_goals
        go_roundw
        case rel => exact ⟨k + 1, _, by omega, by go_num, by rw [HW.out, World.drewN_drewN]⟩
        case measure => simp [intOf]; omega
    · have hki : ¬ (k : Int) < (n : Int) := by omega
      go_wp2_with fail
      go_ret
      exact ⟨rfl, m, HW.out⟩

/-- marks, row by row -/
def mkG (W : Nat) : Rl.Grid := fun y x => ((1 + y * W + x : Nat) : Int)
def mixG (g : Rl.Grid) (W k : Nat) : Rl.Grid := fun y x => if y < k then ((1 + y * W + x : Nat) : Int) else g y x
theorem Gd.mark {base : Nat} {w w' : World} {R W k t : Nat} {G : List Nat} {g : Rl.Grid} (h : Gd base w R G W (mixG g W k)) (hk : k < G.length) (ht : t = 1 + k * W) (ho : Own w' G[k] W (fun i => ((t + i : Nat) : Int))) (hT : Turned G[k] w w') : Gd base w' R G W (mixG g W (k + 1)) := by
  refine ⟨h.nodup, h.apart, fun b hb => ⟨(h.low b hb).1, by rw [hT.size]; exact (h.low b hb).2⟩, fun y hy => ?_, fun y hy x hx => ?_⟩
  · exact (cellAt_same (hT.rest R (fun e => h.apart _ (List.getElem_mem hk) e.symm)) y).1.trans (h.row y hy)
  · by_cases e : y = k
    · subst e
      have := ho.2 x hx
      unfold mixG
      rw [if_pos (by omega), ← ht]
      exact this
    · have hs := cellAt_same (hT.rest G[y] (h.nodup y k hy hk e)) x
      have := h.num y hy x hx
      have hm : mixG g W (k + 1) y x = mixG g W k y x := by
        unfold mixG
        by_cases hyk : y < k
        · rw [if_pos hyk, if_pos (by omega)]
        · rw [if_neg hyk, if_neg (by omega)]
      rw [hm]
      exact ⟨hs.1.trans this.1, hs.2.trans this.2⟩
theorem Gd.fun {base : Nat} {w : World} {R W : Nat} {G : List Nat} {g g' : Rl.Grid} (h : Gd base w R G W g) (he : ∀ y, y < G.length → ∀ x, g' y x = g y x) : Gd base w R G W g' :=
  ⟨h.nodup, h.apart, h.low, h.row, fun y hy x hx => by rw [he y hy x]; exact h.num y hy x hx⟩
theorem Gd.own {base : Nat} {w : World} {R W : Nat} {G : List Nat} {g : Rl.Grid} (h : Gd base w R G W g) {y : Nat} (hy : y < G.length) : Own w G[y] W (fun x => g y x) := ⟨(h.low _ (List.getElem_mem hy)).2, fun i hi => h.num y hy i hi⟩

theorem mul_bound {k n W : Nat} (hk : k ≤ n) (hn : n ≤ 100) (hW : W ≤ 100) : k * W ≤ 10000 := Nat.le_trans (Nat.mul_le_mul (Nat.le_trans hk hn) hW) (by decide)

set_option maxHeartbeats 1000000 in
theorem markRows_some (base R W cap : Nat) (G : List Nat) (n : Nat) (g : Rl.Grid) (w : World) (h : Gd base w R G W g) (hG : G.length = n) (hn : n ≤ 100) (hW : W ≤ 100) :
    Calls Try.prog 18 #[.slice (some ⟨R, 0, none⟩) n cap, .int .i64 1] w fun e w' => e = .returned (.int .i64 ((1 + n * W : Nat) : Int)) ∧ Gd base w' R G W (mkG W) ∧ Below base w w' := by
  have H0 : Hid (Gd base w R G W g) := h
  have HGn : Hid (G.length = n) := hG
  clear h hG
  go_enter Try.func18, Try.ntmps18
  go_wp2_with fail
  go_loopw [1, 5] (fun x i wr => ∃ k t : Nat, k ≤ n ∧ i = .int .i64 k ∧ Hid (t = 1 + k * W) ∧ x = .int .i64 (t : Int) ∧ Hid (Gd base wr R G W (mixG g W k) ∧ Below base w wr)) (fun _ i _ => n - (intOf i).toNat)
  case atStart => exact ⟨0, 1, Nat.zero_le _, rfl, by show _ = _; rw [Nat.zero_mul], rfl, H0.out.fun (fun y _ x => by unfold mixG; rw [if_neg (by omega)]), Below.refl _ _⟩
  case round =>
    obtain ⟨k, t, hk, rfl, HT, rfl, HS⟩ := hrel
    clear H0
    have htb : t ≤ 10001 := by have := HT.out; have := mul_bound hk hn hW; omega
    by_cases hlt : k < n
    · have hki : (k : Int) < (n : Int) := by omega
      have hkG : k < G.length := by rw [HGn.out]; exact hlt
      have e1 := HS.out.1.row k hkG
      have HMK : Hid (Calls Try.prog 38 #[.slice (some ⟨G[k], 0, none⟩) W W, .int .i64 (t : Int)] wr fun e w' => e = .returned (.int .i64 ((t + W : Nat) : Int)) ∧ Gd base w' R G W (mixG g W (k + 1)) ∧ Below base w w') := by
        refine (mark_ownS t G[k] W W _ wr (HS.out.1.own hkG) (by omega) (by omega)).mono ?_
        rintro e w' ⟨h1, h2, h3⟩
        exact ⟨h1, HS.out.1.mark hkG HT.out h2 h3, HS.out.2.trans (h3.below (HS.out.1.low _ (List.getElem_mem hkG)).1)⟩
      have HT2 : Hid (t + W = 1 + (k + 1) * W) := by show _ = _; rw [HT.out, Nat.succ_mul]; omega
      generalize G[k] = b1 at *
      clear HS HT hkG
      go_wp2_with fail
      refine HMK.out.mono ?_
      rintro e w2 ⟨rfl, h2, h3⟩
      have HS2 : Hid (Gd base w2 R G W (mixG g W (k + 1)) ∧ Below base w w2) := ⟨h2, h3⟩
      obtain ⟨t2, ht2⟩ : ∃ t2, t2 = t + W := ⟨_, rfl⟩
      rw [← ht2] at HT2
      rw [← ht2]
      clear h2 h3 HMK e1 ht2
      go_wp2_with fail
      go_roundw
      case rel => exact ⟨k + 1, t2, by omega, by go_num, HT2, rfl, HS2⟩
      case measure => simp [intOf]; omega
    · have hki : ¬ (k : Int) < (n : Int) := by omega
      have hk' : k = n := by omega
      subst hk'
      have HF : Hid (Gd base wr R G W (mkG W) ∧ Below base w wr) := ⟨HS.out.1.fun (fun y hy x => by unfold mixG mkG; rw [if_pos (by rw [← HGn.out]; exact hy)]), HS.out.2⟩
      clear HS
      go_wp2_with fail
      go_ret
      exact ⟨ret_int (by rw [HT.out]; simp), HF.out⟩

set_option maxHeartbeats 1000000 in
theorem heldRows_some (base R W cap : Nat) (G : List Nat) (n : Nat) (w : World) (h : Gd base w R G W (mkG W)) (hG : G.length = n) (hn : n ≤ 100) (hW : W ≤ 100) :
    Calls Try.prog 19 #[.slice (some ⟨R, 0, none⟩) n cap, .int .i64 1] w fun e w' => e = .returned (.int .i64 ((1 + n * W : Nat) : Int)) ∧ w' = w := by
  have H0 : Hid (Gd base w R G W (mkG W)) := h
  have HGn : Hid (G.length = n) := hG
  clear h hG
  go_enter Try.func19, Try.ntmps19
  go_wp2_with fail
  go_loop [1, 5] (fun x i => ∃ k t : Nat, k ≤ n ∧ i = .int .i64 k ∧ Hid (t = 1 + k * W) ∧ x = .int .i64 (t : Int)) (fun _ i => n - (intOf i).toNat)
  case atStart => exact ⟨0, 1, Nat.zero_le _, rfl, by show _ = _; rw [Nat.zero_mul], rfl⟩
  case round =>
    obtain ⟨k, t, hk, rfl, HT, rfl⟩ := hrel
    have htb : t ≤ 10001 := by have := HT.out; have := mul_bound hk hn hW; omega
    by_cases hlt : k < n
    · have hki : (k : Int) < (n : Int) := by omega
      have hkG : k < G.length := by rw [HGn.out]; exact hlt
      have e1 := H0.out.row k hkG
      have HMK : Hid (Calls Try.prog 39 #[.slice (some ⟨G[k], 0, none⟩) W W, .int .i64 (t : Int)] w fun e w' => e = .returned (.int .i64 ((t + W : Nat) : Int)) ∧ w' = w) := by
        refine held_ownS t G[k] W W w ?_ (by omega) (by omega)
        have h1 := H0.out.own hkG
        have h2 : (fun x => mkG W k x) = (fun i => ((t + i : Nat) : Int)) := by funext i; unfold mkG; rw [HT.out]
        rw [h2] at h1
        exact h1
      have HT2 : Hid (t + W = 1 + (k + 1) * W) := by show _ = _; rw [HT.out, Nat.succ_mul]; omega
      generalize G[k] = b1 at *
      clear HT hkG
      go_wp2_with fail
      refine HMK.out.mono ?_
      rintro e w2 ⟨rfl, hw2⟩
      replace hw2 := hw2.symm
      subst hw2
      obtain ⟨t2, ht2⟩ : ∃ t2, t2 = t + W := ⟨_, rfl⟩
      rw [← ht2] at HT2
      rw [← ht2]
      have hneg : ¬ (t2 : Int) < 0 := by omega
      clear HMK e1 ht2
      go_wp2_with fail
      go_round
      case rel => exact ⟨k + 1, t2, by omega, by go_num, HT2, rfl⟩
      case measure => simp [intOf]; omega
    · have hki : ¬ (k : Int) < (n : Int) := by omega
      have hk' : k = n := by omega
      subst hk'
      go_wp2_with fail
      go_ret
      exact ⟨ret_int (by rw [HT.out]; simp), rfl⟩

set_option maxHeartbeats 400000 in
theorem markRows_nil (a : Option Addr) (c : Nat) (w : World) :
    Calls Try.prog 18 #[.slice a 0 c, .int .i64 1] w fun e w' => e = .returned (.int .i64 1) ∧ w' = w := by
  go_enter Try.func18, Try.ntmps18
  go_wp2_with fail
  go_loop [1, 5] (fun x i => i = .int .i64 0 ∧ x = .int .i64 1) (fun _ _ => 0)
  case atStart => exact ⟨rfl, rfl⟩
  case round =>
    obtain ⟨rfl, rfl⟩ := hrel
    go_wp2_with fail
    go_ret
    exact ⟨rfl, rfl⟩
set_option maxHeartbeats 400000 in
theorem heldRows_nil (a : Option Addr) (c : Nat) (w : World) :
    Calls Try.prog 19 #[.slice a 0 c, .int .i64 1] w fun e w' => e = .returned (.int .i64 1) ∧ w' = w := by
  go_enter Try.func19, Try.ntmps19
  go_wp2_with fail
  go_loop [1, 5] (fun x i => i = .int .i64 0 ∧ x = .int .i64 1) (fun _ _ => 0)
  case atStart => exact ⟨rfl, rfl⟩
  case round =>
    obtain ⟨rfl, rfl⟩ := hrel
    go_wp2_with fail
    go_ret
    exact ⟨rfl, rfl⟩

theorem markRows_any (base : Nat) (a : Option Addr) (n W cap : Nat) (g : Rl.Grid) (w : World) (h : RowsAre base w a n W g) (hn : n ≤ 100) (hW : W ≤ 100) :
    Calls Try.prog 18 #[.slice a n cap, .int .i64 1] w fun e w' => e = .returned (.int .i64 ((1 + n * W : Nat) : Int)) ∧ RowsAre base w' a n W (mkG W) ∧ Below base w w' := by
  rcases h with rfl | ⟨R, G, rfl, hG, hR, hRl, hg⟩
  · refine (markRows_nil a cap w).mono ?_
    rintro e w' ⟨rfl, rfl⟩
    exact ⟨by rw [Nat.zero_mul]; rfl, .inl rfl, Below.refl _ _⟩
  · refine (markRows_some base R W cap G n g w hg hG hn hW).mono ?_
    rintro e w' ⟨h1, h2, h3⟩
    exact ⟨h1, .inr ⟨R, G, rfl, hG, hR, Nat.lt_of_lt_of_le hRl h3.size, h2⟩, h3⟩
theorem heldRows_any (base : Nat) (a : Option Addr) (n W cap : Nat) (w : World) (h : RowsAre base w a n W (mkG W)) (hn : n ≤ 100) (hW : W ≤ 100) :
    Calls Try.prog 19 #[.slice a n cap, .int .i64 1] w fun e w' => e = .returned (.int .i64 ((1 + n * W : Nat) : Int)) ∧ w' = w := by
  rcases h with rfl | ⟨R, G, rfl, hG, hR, hRl, hg⟩
  · refine (heldRows_nil a cap w).mono ?_
    rintro e w' ⟨rfl, rfl⟩
    exact ⟨by rw [Nat.zero_mul]; rfl, rfl⟩
  · exact heldRows_some base R W cap G n w hg hG hn hW
end Go.Proofs.Ytlpfedhehfbfeaa
