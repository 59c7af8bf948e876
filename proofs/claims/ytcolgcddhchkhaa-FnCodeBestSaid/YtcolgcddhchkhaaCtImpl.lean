/- The program's lengths of a code: treeLengths, oneAbove, halves. -/
import Derived.Test.YtcolgcddhchkhaaCfTree
import Derived.Test.YtcolgcddhchkhaaCtSpec
namespace Go.Proofs.Ytcolgcddhchkhaa
open Go.RowKit
open Ct (Tr Nt)

theorem syms_lt {zs : List Int} {j o : Nat} {t : Tr} (h : iterT (initT zs zs.length) j = [(o, t)]) : ∀ s ∈ Ct.syms t, s < zs.length := fun s hs => by
  rcases Nat.lt_or_ge s zs.length with hlt | hge
  · exact hlt
  · have h1 := Ct.iter_cnt s (initT zs zs.length) j
    rw [h, (Ct.init_cnt zs s zs.length).2 hge] at h1
    have h2 : Cf.sum (Ct.cnt s) [(o, t)] = (Ct.syms t).count s := by simp [Cf.sum, Ct.cnt]
    have h3 := List.one_le_count_iff.2 hs
    omega
theorem hgt_le {zs : List Int} {j o : Nat} {t : Tr} (h : iterT (initT zs zs.length) j = [(o, t)]) : Ct.hgt t ≤ zs.length := by
  have h1 := Ct.iter_lvs (initT zs zs.length) j
  rw [h] at h1
  have h2 : Cf.sum Ct.lvs [(o, t)] = (Ct.syms t).length := by simp [Cf.sum, Ct.lvs]
  have h3 := Ct.init_lvs zs zs.length
  have h4 := Ct.hgt_lvs t
  omega
theorem OwnL.below {w w' : World} {B n lo : Nat} {f : Nat → Nat} (h : OwnL w B n f) (hb : Below lo w w') (hl : B < lo) : OwnL w' B n f := by
  obtain ⟨h1, cs, fr, h2⟩ := h
  exact ⟨own_low h1 hb hl, cs, fr, (hb.block B hl).trans h2⟩
def TLEnd (zs : List Int) (n : Nat) (w : World) (e : Ending) (w' : World) : Prop := (e = .returned (.slice (some ⟨w.heap.size, 0, none⟩) n n) ∧ ∃ f, OwnL w' w.heap.size n f ∧ Ct.IsLens zs f) ∧ Below w.heap.size w w'
set_option maxHeartbeats 4000000 in
set_option maxRecDepth 20000 in
theorem treeLengths_any (a : Option Addr) (n cap : Nat) (zs : List Int) (w : World) (h : Ints w a zs) (hn : zs.length = n) (hb : n ≤ 300) (hz : ∀ i, i < zs.length → 0 ≤ zs.getD i 0 ∧ zs.getD i 0 ≤ 9000) :
    Calls Try.prog 41 #[.slice a n cap] w (TLEnd zs n w) := by
  have HI : Hid (Ints w a zs) := h
  have HN : Hid (zs.length = n) := hn
  have hmk := make_arr zs n hn (by omega) w
  obtain ⟨w1, hw1⟩ : ∃ w1, w1 = w.alloc (.cells (arr (Mk.outer zs 0).2) 3) := ⟨_, rfl⟩
  have b1 : Below w.heap.size w w1 := by rw [hw1]; exact (Below.refl _ _).alloc (Nat.le_refl _) _
  have hs1 : w1.heap.size = w.heap.size + 1 := by rw [hw1]; simp
  have HO1 : Hid (OwnL w1 w.heap.size n (fun _ => 0)) := by
    rw [hw1]
    refine ⟨⟨by simp, fun i hi => ⟨?_, by rw [World.frozen?_alloc_at _ _ _ _ rfl]⟩⟩, _, _, heap_alloc_new _ _⟩
    rw [World.cell?_alloc_at _ _ _ _ rfl, arr_get _ i (by rw [Mk.outer_len, hn]; exact hi)]
    simp [Mk.outer]
  have HGT : Hid (Calls Try.prog 69 #[.slice a n cap] w1 (GrowEnd zs w1)) := growTree_any a n cap zs w1 (h.kept b1) hn hb hz
  rw [← hw1] at hmk
  clear h hn hz hw1
  go_enter Try.func41, Try.ntmps41
  go_wp2_with fail
  refine HGT.out.mono ?_
  rintro e w2 ⟨h2 | ⟨k, o, t, j, hit, rfl, ht⟩, b2⟩
  · obtain ⟨hnil, rfl⟩ := h2
    have HF : Hid (TLEnd zs n w (.returned (.slice (some ⟨w.heap.size, 0, none⟩) n n)) w2) := ⟨⟨rfl, _, HO1.out.below b2 (by omega), .inl ⟨hnil, rfl⟩⟩, b1.trans (b2.mono b1.size)⟩
    clear hnil b2 HGT
    go_wp2_with fail
    go_ret
    exact HF.out
  · have hO2 := HO1.out.below b2 (by omega)
    have hsl := syms_lt hit
    have hhl := hgt_le hit
    rw [HN.out] at hsl hhl
    have bw2 := b1.trans (b2.mono b1.size)
    match t, hit, ht, hsl, hhl with
    | .leaf s, hit, ⟨o', p', hk⟩, hsl, _ =>
      have hs : s < n := hsl s (by simp [Ct.syms])
      have hc : w2.cell? ⟨k, 0, none⟩ = some (.int .i64 (s : Int)) := by unfold nodeC at hk; simp [World.cell?, hk]
      obtain ⟨h3, h4⟩ := hO2.set hs 1
      have HF : Hid (TLEnd zs n w (.returned (.slice (some ⟨w.heap.size, 0, none⟩) n n)) (w2.setCell ⟨w.heap.size, s, none⟩ (.int .i64 1))) := ⟨⟨rfl, _, h3, .inr ⟨o, _, j, hit, rfl⟩⟩, bw2.setCell (p := ⟨w.heap.size, s, none⟩) (Nat.le_refl _) _⟩
      obtain ⟨hcs, hfs⟩ := hO2.1.2 s hs
      have hcs' : w2.cell? ⟨w.heap.size, s, none⟩ = some (.int .i64 0) := hcs
      have hsi : (s : Int) < (n : Int) := by omega
      have dg : decide ((s : Int) ≥ 0) = true := by simp
      clear h3 h4 hO2 hk hit hsl hhl bw2 b2 hcs HGT HO1
      go_wp2_with fail
      go_ret
      exact HF.out
    | .node l r, hit, ht, hsl, hhl =>
      have HTE : Hid (Calls Try.prog 70 #[.pointer (some ⟨k, 0, none⟩), .int .i64 ((0 : Nat) : Int), .slice (some ⟨w.heap.size, 0, none⟩) n n] w2 (TellEnd w.heap.size n (tell (.node l r) 0 (fun _ => 0)) w2)) := tell_any w.heap.size n n (.node l r) k 0 (fun _ => 0) w2 hsl ht hO2 (by omega)
      have hc : w2.cell? ⟨k, 0, none⟩ = some (.int .i64 (-1)) := by
        obtain ⟨kl, kr, o', p', hk, _⟩ := ht
        unfold nodeC at hk; simp [World.cell?, hk]
      have HB2 : Hid (Below w.heap.size w w2) := bw2
      have HIT : Hid (iterT (initT zs zs.length) j = [(o, .node l r)]) := hit
      clear hO2 hsl hhl ht b2 bw2 hit HGT HO1
      go_wp2_with fail
      refine HTE.out.mono ?_
      rintro e w3 ⟨⟨v, rfl⟩, o3, t3⟩
      have HF : Hid (TLEnd zs n w (.returned (.slice (some ⟨w.heap.size, 0, none⟩) n n)) w3) := ⟨⟨rfl, _, o3, .inr ⟨o, _, j, HIT.out, rfl⟩⟩, HB2.out.trans (t3.below (Nat.le_refl _))⟩
      clear o3 t3 HTE
      go_wp2_with fail
      go_ret
      exact HF.out
/-- one is above -/
def aboveB (l : List Int) (m : Int) : Bool := l.any (fun z => decide (z > m))
set_option maxHeartbeats 1000000 in
theorem oneAbove_any (a : Option Addr) (n c : Nat) (l : List Int) (m : Int) (w : World) (h : Ints w a l) (hn : l.length = n) (hb : n ≤ 1000) :
    Calls Try.prog 42 #[.slice a n c, .int .i64 m] w fun e w' => e = .returned (.bool (aboveB l m)) ∧ w' = w := by
  have HI : Hid (Ints w a l) := h
  have HN : Hid (l.length = n) := hn
  clear h hn
  go_enter Try.func42, Try.ntmps42
  go_wp2_with fail
  go_loopw [9] (fun i wr => ∃ k : Nat, k ≤ n ∧ i = .int .i64 (k : Int) ∧ wr = w ∧ Hid (aboveB l m = aboveB (l.drop k) m)) (fun i _ => n - (intOf i).toNat)
  case atStart => exact ⟨0, Nat.zero_le _, rfl, rfl, by show _ = _; rw [List.drop_zero]⟩
  case round =>
    obtain ⟨k, hk, rfl, hwr, HA⟩ := hrel
    subst hwr
    by_cases hlt : k < n
    · have hki : (k : Int) < (n : Int) := by omega
      have hkl : k < l.length := by rw [HN.out]; exact hlt
      obtain ⟨ab, ao, rfl, hac⟩ : ∃ ab ao, a = some ⟨ab, ao, none⟩ ∧ wr.cell? ⟨ab, ao + k, none⟩ = some (.int .i64 l[k]) := by
        rcases HI.out with e | ⟨b, off, e1, e2, e3⟩
        · rw [e] at hkl; simp at hkl
        · exact ⟨b, off, e1, e3 k hkl⟩
      have hd : aboveB (l.drop k) m = (decide (l[k] > m) || aboveB (l.drop (k + 1)) m) := by rw [List.drop_eq_getElem_cons hkl]; rfl
      generalize l[k] = z at *
      by_cases hgt : z > m
      · have HT : Hid (aboveB l m = true) := by show _ = _; rw [HA.out, hd, decide_eq_true hgt]; rfl
        have dgt : decide (z > m) = true := decide_eq_true hgt
        clear HA hd hgt
        go_wp2_with fail
        go_ret
        exact ⟨by rw [HT.out]; rfl, rfl⟩
      · have HT : Hid (aboveB l m = aboveB (l.drop (k + 1)) m) := by show _ = _; rw [HA.out, hd, decide_eq_false hgt]; rfl
        have dgt : decide (z > m) = false := decide_eq_false hgt
        clear HA hd hgt
        go_wp2_with fail
        go_roundw
        case rel => exact ⟨k + 1, by omega, by go_num, trivial, HT⟩
        case measure => simp [intOf]; omega
    · have hki : ¬ (k : Int) < (n : Int) := by omega
      have HT : Hid (aboveB l m = false) := by show _ = _; rw [HA.out, List.drop_of_length_le (by rw [HN.out]; omega)]; rfl
      clear HA
      go_wp2_with fail
      go_ret
      exact ⟨by rw [HT.out]; rfl, rfl⟩
end Go.Proofs.Ytcolgcddhchkhaa
