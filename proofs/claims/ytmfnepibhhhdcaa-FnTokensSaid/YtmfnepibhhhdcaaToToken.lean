/- A token put out. -/
import Derived.Test.YtmfnepibhhhdcaaToAgain
import Derived.Test.YtmfnepibhhhdcaaToOk
namespace Go.Proofs.Ytmfnepibhhhdcaa
open Go.RowKit

theorem Off.ofBelow {B O base : Nat} {w w' : World} (h : Below w.heap.size w w') (hb : base ≤ w.heap.size) : Off B O base w w' := ⟨h.os, h.tape, h.output, h.size, fun k hk _ _ => h.block k (by omega)⟩
theorem OwnT.grown {w w' : World} {B n : Nat} {v : Value} {l : List UInt8} (h : OwnT w B v n l) (hb : Below w.heap.size w w') : OwnT w' B v n l :=
  ⟨h.1, by
    rcases h.2 with h2 | ⟨g, cap, cur, hv, hg, hh, r⟩
    · exact .inl h2
    · exact .inr ⟨g, cap, cur, hv, hg, by rw [hb.block g (Array.getElem?_eq_some_iff.1 hh).1]; exact hh, r⟩⟩
theorem Kst.up {w wr w2 : World} {O base : Nat} {x : List UInt8} (h : Kst w O base x wr) (hb : Below wr.heap.size wr w2) : Kst w O base x w2 := by
  obtain ⟨v, a1, a2, a3, a4⟩ := h
  exact ⟨v, (hb.block _ a1.lt).trans a1, a2.grown hb, a3.trans (Off.ofBelow hb a4), Nat.le_trans a4 hb.size⟩
theorem Kst.start {w wr : World} {O base : Nat} {x : List UInt8} (h : Kst w O base x wr) : Kst wr O base x wr := by
  obtain ⟨v, a1, a2, a3, a4⟩ := h
  exact ⟨v, a1, a2, Off.refl _ _ _ _, a4⟩
theorem Kst.off {w wr : World} {O base : Nat} {x : List UInt8} (h : Kst w O base x wr) : Off O O base w wr := by
  obtain ⟨v, a1, a2, a3, a4⟩ := h
  exact a3
theorem Kst.trans {w wr w2 : World} {O base : Nat} {x y : List UInt8} (h : Kst w O base x wr) (g : Kst wr O base y w2) : Kst w O base y w2 := by
  obtain ⟨v, a1, a2, a3, a4⟩ := g
  exact ⟨v, a1, a2, h.off.trans a3, a4⟩

/-- how a token ends -/
def TkEnd (w : World) (O base : Nat) (p : Tk) (q : List UInt8) (e : Ending) (w' : World) : Prop :=
  (∃ r, To.step p q = some r ∧ e = .returned (.tuple #[]) ∧ Kst w O base r w') ∨ (∃ c, c ≠ 0 ∧ e = fault c ∧ To.step p q = none ∧ Off O O base w w')
theorem tkEnd_no {w w' : World} {O base : Nat} {p : Tk} {q : List UInt8} (c : Int) (h : c ≠ 0) (h2 : To.step p q = none) (h3 : Off O O base w w') : TkEnd w O base p q (fault c) w' := .inr ⟨c, h, rfl, h2, h3⟩
theorem tkEnd_yes {w w' : World} {O base : Nat} {p : Tk} {q : List UInt8} (r : List UInt8) (h2 : To.step p q = some r) (h3 : Kst w O base r w') : TkEnd w O base p q (.returned (.tuple #[])) w' := .inl ⟨r, h2, rfl, h3⟩

set_option maxHeartbeats 4000000 in
set_option maxRecDepth 100000 in
theorem outToken_any (O base : Nat) (v s d : Int) (q : List UInt8) (w : World) (h : Kst w O base q w) (hO : O < base) (hq : q.length ≤ 5000) :
    Calls Try.prog 53 #[.pointer (some ⟨O, 0, none⟩), .agg #[.int .i64 v, .int .i64 s, .int .i64 d]] w (TkEnd w O base (v, s, d) q) := by
  obtain ⟨v0, hv1, hv2, hv3, hv4⟩ := h
  have hn := hv2.len
  obtain ⟨ao0, cp0, rfl⟩ := hv2.shape
  obtain ⟨m, hm⟩ : ∃ m, m = q.length := ⟨_, rfl⟩
  have HM : Hid (m = q.length) := hm
  obtain ⟨W1, hW1⟩ : ∃ W1, W1 = w.alloc (.cells #[.int .i64 v, .int .i64 s, .int .i64 d] 39) := ⟨_, rfl⟩
  have HB1 : Hid (Below w.heap.size w W1) := by show Below _ _ _; rw [hW1]; exact (Below.refl _ _).alloc (Nat.le_refl _) _
  have HK1 : Hid (Kst w O base q W1) := Kst.up ⟨_, hv1, hv2, hv3, hv4⟩ HB1.out
  have HX1 : Hid (Kx W1 w.heap.size v s d) := by show Kx _ _ _ _ _; rw [hW1]; exact World.alloc_heap_new w _
  have c0 : W1.cell? ⟨O, 0, none⟩ = some (.slice ao0 m cp0) := by
    have h0 := (HB1.out.cell (p := ⟨O, 0, none⟩) hv1.lt).trans hv1.cells.1
    rw [hm]; exact h0
  obtain ⟨x0, x1, x2⟩ := HX1.out.cells
  have hW1' : w.alloc (.cells #[.int .i64 v, .int .i64 s, .int .i64 d] 39) = W1 := hW1.symm
  have hm5 : m ≤ 5000 := by omega
  clear hv1 hv2 hv3 hv4 hW1 hm hn HB1
  have hTO : ∀ b, To.okTok (v, s, d) m = b → Calls Try.prog 91 #[.agg #[.int .i64 v, .int .i64 s, .int .i64 d], .int .i64 (m : Int)] W1.drew fun e w' => e = .returned (.bool b) ∧ Kst w O base q w' ∧ Kx w' w.heap.size v s d := fun b hb => by
    refine (tokenOk_any v s d m W1.drew).mono ?_
    rintro e w' ⟨rfl, bel⟩
    have bel' : Below W1.heap.size W1 w' := ((Below.refl W1.heap.size W1).drew).trans bel
    exact ⟨by rw [hb], HK1.out.up bel', HX1.out.below bel'⟩
  by_cases hok : To.okTok (v, s, d) m = true
  · have HTO : Hid (Calls Try.prog 91 #[.agg #[.int .i64 v, .int .i64 s, .int .i64 d], .int .i64 (m : Int)] W1.drew fun e w' => e = .returned (.bool true) ∧ Kst w O base q w' ∧ Kx w' w.heap.size v s d) := hTO true hok
    have HOK : Hid (To.okTok (v, s, d) m = true) := hok
    clear hok hTO HX1 HK1
    by_cases hs : s = 0
    · have hsb : (s == 0) = true := by rw [hs]; rfl
      have hok2 := HOK.out
      rw [hs] at hok2
      have hv : 0 ≤ v ∧ v ≤ 255 := by
        refine ⟨?_, ?_⟩
        · by_cases h : 0 ≤ v
          · exact h
          · rw [To.ok_zero_no (fun h' => h h'.1)] at hok2; cases hok2
        · by_cases h : v ≤ 255
          · exact h
          · rw [To.ok_zero_no (fun h' => h h'.2.1)] at hok2; cases hok2
      obtain ⟨hv0, hv1⟩ := hv
      obtain ⟨c, hc⟩ : ∃ c : UInt8, c = UInt8.ofNat v.toNat := ⟨_, rfl⟩
      have hcv : v = ((c.toNat : Nat) : Int) := by
        rw [hc, UInt8.toNat_ofNat_of_lt' (by show v.toNat < 256; omega)]; omega
      have HP : Hid (∀ w2, Kst w O base q w2 → Calls Try.prog 92 #[.pointer (some ⟨O, 0, none⟩), .int .u8 v] w2 (TkEnd w O base (v, s, d) q)) := fun w2 hk => by
        obtain ⟨u, a1, a2, a3, a4⟩ := hk
        by_cases hr : q.length < 5000
        · have hp := put_yes O base 5000 q.length u q c w2 a1 a2 hO a4 hr (Nat.le_refl _)
          rw [← hcv] at hp
          refine hp.mono ?_
          rintro e w' ⟨rfl, v', b1, b2, b3, b4⟩
          refine tkEnd_yes (q ++ [c]) ?_ ⟨v', b1, by rw [List.length_append]; exact b2, a3.trans b3, b4⟩
          rw [hs, hc]
          exact To.step_byte (by rw [← HM.out]; exact hok2) hr
        · refine (put_no O base 5000 q.length _ q _ w2 a1 a2 (by omega)).mono ?_
          rintro e w' ⟨rfl, qq, rfl⟩
          exact tkEnd_no 3 (by decide) (by rw [hs]; exact To.step_full hr) (a3.drewN qq)
      clear hok2 hc hcv HOK hs
      go_enter Try.func53, Try.ntmps53
      go_wp2_with fail
      go_still_tail 6, (by kernel_rfl)
      repeat still_step
      go_wp2_with fail
      refine HTO.out.mono ?_
      rintro e w2 ⟨rfl, hk2, hx2⟩
      obtain ⟨y0, y1, y2⟩ := hx2.cells
      have HK2 : Hid (Kst w O base q w2) := hk2
      clear hk2 hx2 HTO x0 x1 x2 c0 hW1'
      go_wp2_with fail
      refine (insist_yes 1 _).mono ?_
      rintro e w3 ⟨rfl, hw3⟩
      replace hw3 := hw3.symm
      subst hw3
      go_wp2_with fail
      refine (HP.out _ HK2.out).mono ?_
      rintro e w4 (⟨r, h1, rfl, h2⟩ | ⟨c, h1, rfl, h2⟩)
      · have HF : Hid (TkEnd w O base (v, s, d) q (.returned (.tuple #[])) w4) := tkEnd_yes r h1 h2
        clear h1 h2 HP HK2 y0 y1 y2
        go_wp2_with fail
        go_end0
        exact HF.out
      · have HF : Hid (TkEnd w O base (v, s, d) q (fault c) w4) := tkEnd_no c h1 h2.1 h2.2
        clear h1 h2 HP HK2 y0 y1 y2
        unfold fault
        go_wp2_with fail
        exact ⟨rfl, HF.out⟩
    · have hsb : (s == 0) = false := by rw [beq_eq_false_iff_ne]; exact hs
      have hall : 3 ≤ s ∧ s ≤ 258 ∧ 1 ≤ d ∧ d ≤ (m : Int) := by
        by_cases h : v = 0 ∧ 3 ≤ s ∧ s ≤ 258 ∧ 1 ≤ d ∧ d ≤ (m : Int)
        · exact h.2
        · have := HOK.out; rw [To.ok_more_no hs h] at this; cases this
      obtain ⟨a1, a2, a3, a4⟩ := hall
      obtain ⟨S, rfl⟩ := Int.eq_ofNat_of_zero_le (show 0 ≤ s by omega)
      obtain ⟨D, rfl⟩ := Int.eq_ofNat_of_zero_le (show 0 ≤ d by omega)
      have HP : Hid (∀ w2, Kst w O base q w2 → Calls Try.prog 93 #[.pointer (some ⟨O, 0, none⟩), .int .i64 (S : Int), .int .i64 (D : Int)] w2 (TkEnd w O base (v, (S : Int), (D : Int)) q)) := fun w2 hk => by
        refine (again_any O base D S q w2 hk.start hO (by omega) (by have := HM.out; omega) hq (by omega)).mono ?_
        rintro e w' (⟨g1, rfl, g2⟩ | ⟨g1, rfl, g2⟩)
        · exact tkEnd_yes _ (To.step_again hs (by rw [← HM.out]; exact HOK.out) (by rw [Int.toNat_natCast]; exact g1)) (by rw [Int.toNat_natCast, Int.toNat_natCast]; exact hk.trans g2)
        · exact tkEnd_no 3 (by decide) (To.step_long hs (by rw [Int.toNat_natCast]; exact g1)) (hk.off.trans g2)
      clear HOK hs a1 a2 a3 a4
      go_enter Try.func53, Try.ntmps53
      go_wp2_with fail
      go_still_tail 6, (by kernel_rfl)
      repeat still_step
      go_wp2_with fail
      refine HTO.out.mono ?_
      rintro e w2 ⟨rfl, hk2, hx2⟩
      obtain ⟨y0, y1, y2⟩ := hx2.cells
      have HK2 : Hid (Kst w O base q w2) := hk2
      clear hk2 hx2 HTO x0 x1 x2 c0 hW1'
      go_wp2_with fail
      refine (insist_yes 1 _).mono ?_
      rintro e w3 ⟨rfl, hw3⟩
      replace hw3 := hw3.symm
      subst hw3
      go_wp2_with fail
      refine (HP.out _ HK2.out).mono ?_
      rintro e w4 (⟨r, h1, rfl, h2⟩ | ⟨c, h1, rfl, h2⟩)
      · have HF : Hid (TkEnd w O base (v, (S : Int), (D : Int)) q (.returned (.tuple #[])) w4) := tkEnd_yes r h1 h2
        clear h1 h2 HP HK2 y0 y1 y2
        go_wp2_with fail
        go_end0
        exact HF.out
      · have HF : Hid (TkEnd w O base (v, (S : Int), (D : Int)) q (fault c) w4) := tkEnd_no c h1 h2.1 h2.2
        clear h1 h2 HP HK2 y0 y1 y2
        unfold fault
        go_wp2_with fail
        exact ⟨rfl, HF.out⟩
  · have hok' : To.okTok (v, s, d) m = false := by simpa using hok
    have HTO : Hid (Calls Try.prog 91 #[.agg #[.int .i64 v, .int .i64 s, .int .i64 d], .int .i64 (m : Int)] W1.drew fun e w' => e = .returned (.bool false) ∧ Kst w O base q w' ∧ Kx w' w.heap.size v s d) := hTO false hok'
    have HNO : Hid (To.step (v, s, d) q = none) := To.step_no (by rw [← HM.out]; exact hok')
    clear hok hok' hTO HX1 HK1
    go_enter Try.func53, Try.ntmps53
    go_wp2_with fail
    go_still_tail 6, (by kernel_rfl)
    repeat still_step
    go_wp2_with fail
    refine HTO.out.mono ?_
    rintro e w2 ⟨rfl, hk2, hx2⟩
    have HF : Hid (TkEnd w O base (v, s, d) q (fault 1) w2) := tkEnd_no 1 (by decide) HNO.out hk2.off
    clear hk2 hx2 HTO x0 x1 x2 c0 hW1'
    go_wp2_with fail
    refine (insist_no 1 _).mono ?_
    rintro e w3 ⟨rfl, hw3⟩
    replace hw3 := hw3.symm
    subst hw3
    unfold fault
    go_wp2_with fail
    exact ⟨rfl, HF.out⟩
end Go.Proofs.Ytmfnepibhhhdcaa
