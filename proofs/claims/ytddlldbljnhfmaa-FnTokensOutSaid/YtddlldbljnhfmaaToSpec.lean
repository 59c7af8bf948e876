/- TokensOut of the specification. -/
import Derived.Test.YtddlldbljnhfmaaToMath
import Derived.Test.YtddlldbljnhfmaaOwnText
import Derived.Test.YtddlldbljnhfmaaInWalks
namespace Go.Proofs.Ytddlldbljnhfmaa
open Go.RowKit

theorem ToT.shape {w : World} {B n : Nat} {v : Value} {l : List UInt8} (h : OwnT w B v n l) : ∃ ao cap, v = .slice ao n cap := by
  rcases h.2 with ⟨rfl, h0⟩ | ⟨g, cap, cur, rfl, _⟩
  · exact ⟨none, 0, by rw [h0]⟩
  · exact ⟨_, _, rfl⟩
theorem ToT.at {w : World} {B n j : Nat} {ao : Option Addr} {cap : Nat} {l : List UInt8} (h : OwnT w B (.slice ao n cap) n l) (hj : j < n) : ∃ g, ao = some ⟨g, 0, none⟩ ∧ w.cell? ⟨g, j, none⟩ = some (.int .u8 (((l.getD j 0).toNat : Nat) : Int)) := by
  rcases h.2 with ⟨h1, h0⟩ | ⟨g, cap', cur, hv, hb, hg, hn, hm, hs, ht⟩
  · omega
  · simp only [Value.slice.injEq] at hv
    obtain ⟨rfl, _, rfl⟩ := hv
    refine ⟨g, rfl, ?_⟩
    have hh : OwnT w B (.slice (some ⟨g, 0, none⟩) n cap) n l := h
    have hc := World.ownsRow.cellAt hh j (by omega)
    rw [hc]
    have hl := hh.len
    simp [u8V, List.getD_eq_getElem?_getD, List.getElem?_eq_getElem (show j < l.length by omega)]
/-- the box of a token -/
def Kx (w : World) (k : Nat) (v s d : Int) : Prop := w.heap[k]? = some (.cells #[.int .i64 v, .int .i64 s, .int .i64 d] 35 (0, 0))
theorem Kx.lt {w : World} {k : Nat} {v s d : Int} (h : Kx w k v s d) : k < w.heap.size := (Array.getElem?_eq_some_iff.1 h).1
theorem Kx.cells {w : World} {k : Nat} {v s d : Int} (h : Kx w k v s d) : w.cell? ⟨k, 0, none⟩ = some (.int .i64 v) ∧ w.cell? ⟨k, 1, none⟩ = some (.int .i64 s) ∧ w.cell? ⟨k, 2, none⟩ = some (.int .i64 d) := by
  refine ⟨?_, ?_, ?_⟩ <;> simp [World.cell?, show w.heap[k]? = _ from h]
theorem Kx.below {w w' : World} {k : Nat} {v s d : Int} (h : Kx w k v s d) (hb : Below w.heap.size w w') : Kx w' k v s d := (hb.block k h.lt).trans h
theorem Kx.not_row {w : World} {k B n : Nat} {v s d : Int} {u : Value} {l : List UInt8} (h : Kx w k v s d) (ho : OwnT w B u n l) : u.ownBlock ≠ some k := by
  rcases ho.2 with ⟨rfl, _⟩ | ⟨g, cap, cur, rfl, _, hg, _⟩
  · intro e; cases e
  · intro e
    have e' : g = k := by simpa [Value.ownBlock] using e
    subst e'
    rw [show w.heap[g]? = _ from h] at hg
    simp at hg
theorem Kx.grew {base g : Nat} {w0 w' : World} {k B n : Nat} {v s d : Int} {u : Value} {l : List UInt8} (h : Kx w0 k v s d) (ho : OwnT w0 B u n l) (hg : Grew base w0 w' u g) : Kx w' k v s d := (hg.block k h.lt (fun e => h.not_row ho e.symm)).trans h

/-- how TokensOut ends -/
def ToEnd (w : World) (ts : List Tk) (e : Ending) (w' : World) : Prop := e = .returned (.tuple #[.string ⟨(To.ansL ts).toArray⟩, .bool (To.ansB ts)]) ∧ Below w.heap.size w w'
theorem toEnd_none {w w' : World} {ts : List Tk} {e : Ending} (h : To.get ts [] = none) (h1 : e = .returned (.tuple #[.string ⟨#[]⟩, .bool false])) (h2 : Below w.heap.size w w') : ToEnd w ts e w' := by
  refine ⟨?_, h2⟩
  unfold To.ansL To.ansB
  rw [h]; exact h1
theorem toEnd_some {w w' : World} {ts : List Tk} {e : Ending} (l : List UInt8) (h : To.get ts [] = some l) (h1 : e = .returned (.tuple #[.string ⟨l.toArray⟩, .bool true])) (h2 : Below w.heap.size w w') : ToEnd w ts e w' := by
  refine ⟨?_, h2⟩
  unfold To.ansL To.ansB
  rw [h]; exact h1
theorem ownT_none2 (w : World) : OwnT (w.alloc (.cells #[] 5)) w.heap.size (.slice (some ⟨w.heap.size, 0, none⟩) 0 0) 0 [] :=
  World.ownsRow_lit w #[] 0 (Nat.le_refl _) (by decide) rfl

set_option maxHeartbeats 4000000 in
set_option maxRecDepth 200000 in
theorem spec_tokensOut (a : Option Addr) (n cap : Nat) (ts : List Tk) (w : World) (h : Toks w a ts) (hn : ts.length = n) (hl : n ≤ 1048576) :
    Calls Try.prog 6 #[.slice a n cap] w (ToEnd w ts) := by
  have HI : Hid (Toks w a ts) := h
  have HN : Hid (ts.length = n) := hn
  have hzg : n ≤ ts.length := by omega
  have HE := ownT_none2 w
  clear h hn
  go_enter Try.func6, Try.ntmps6
  go_wp2_with fail
  go_loopw [4, 5] (fun o i wr => ∃ (k : Nat) (q : List UInt8), k ≤ n ∧ i = .int .i64 (k : Int) ∧ q.length ≤ 5000 ∧ Hid (OwnT wr w.heap.size o q.length q) ∧ Hid (To.get ts [] = To.get (ts.drop k) q) ∧ Hid (Below w.heap.size w wr) ∧ ∃ ao cp, o = .slice ao q.length cp) (fun _ i _ => n - (intOf i).toNat)
  case atStart => exact ⟨0, [], Nat.zero_le _, rfl, Nat.zero_le _, HE, rfl, (Below.refl _ _).alloc (Nat.le_refl _) _, _, _, rfl⟩
  case round =>
    obtain ⟨k, q, hk, rfl, hq, HO, HG, HB, ao, cp, rfl⟩ := hrel
    clear HE
    have hbs : w.heap.size ≤ wr.heap.size := HB.out.size
    by_cases hlt : k < n
    · have hkl : k < ts.length := by omega
      obtain ⟨b, off, rfl, hbB, hc1, hc2, hc3⟩ := HI.out.at hkl
      have e1 := (HB.out.cell (p := ⟨b, off + k * 3, none⟩) hbB).trans hc1
      have e2 := (HB.out.cell (p := ⟨b, off + k * 3 + 1, none⟩) hbB).trans hc2
      have e3 := (HB.out.cell (p := ⟨b, off + k * 3 + 2, none⟩) hbB).trans hc3
      have hki : (k : Int) < (n : Int) := by omega
      have HST : Hid (To.get ts [] = (To.step ((ts[k]).1, (ts[k]).2.1, (ts[k]).2.2) q).bind (To.get (ts.drop (k + 1)))) := by show _ = _; rw [HG.out, To.get_drop hkl]
      clear hc1 hc2 hc3 HG
      generalize (ts[k]).1 = v at *
      generalize (ts[k]).2.1 = s at *
      generalize (ts[k]).2.2 = d at *
      have HNO : Hid (To.step (v, s, d) q = none → To.get ts [] = none) := fun h => by rw [HST.out, h]; rfl
      have HYE : Hid (∀ r, To.step (v, s, d) q = some r → To.get ts [] = To.get (ts.drop (k + 1)) r) := fun r h => by rw [HST.out, h]; rfl
      have HW1 : Hid (Kx (wr.alloc (.cells #[.int .i64 v, .int .i64 s, .int .i64 d] 35)) wr.heap.size v s d ∧ OwnT (wr.alloc (.cells #[.int .i64 v, .int .i64 s, .int .i64 d] 35)) w.heap.size (.slice ao q.length cp) q.length q ∧ Below w.heap.size w (wr.alloc (.cells #[.int .i64 v, .int .i64 s, .int .i64 d] 35))) := ⟨heap_alloc_new _ _, HO.out.alloc _, HB.out.alloc hbs _⟩
      obtain ⟨m, hm⟩ : ∃ m, m = q.length := ⟨_, rfl⟩
      have HM : Hid (m = q.length) := hm
      rw [← hm] at HW1 hq ⊢
      clear HST HO hm
      have HIn : Hid (∀ (x lo hi : Int) (w : World), Calls Try.prog 14 #[.int .i64 x, .int .i64 lo, .int .i64 hi] w fun e w' => e = .returned (.bool (decide (lo ≤ x) && decide (x ≤ hi))) ∧ w' = w) := fun x lo hi w => by
        by_cases h : lo ≤ x ∧ x ≤ hi
        · rw [decide_eq_true h.1, decide_eq_true h.2]; exact l1In_yes _ _ _ w h.1 h.2
        · have : (decide (lo ≤ x) && decide (x ≤ hi)) = false := by
            by_cases h1 : lo ≤ x
            · rw [decide_eq_true h1, decide_eq_false (fun h2 => h ⟨h1, h2⟩)]; rfl
            · rw [decide_eq_false h1]; rfl
          rw [this]; exact l1In_no _ _ _ w h
      by_cases hs0 : s = 0
      · subst hs0
        by_cases hv : 0 ≤ v ∧ v ≤ 255
        · have HI1 : Hid (∀ w : World, Calls Try.prog 14 #[.int .i64 v, .int .i64 0, .int .i64 255] w fun e w' => e = .returned (.bool true) ∧ w' = w) := fun w => l1In_yes _ _ _ w hv.1 hv.2
          by_cases hd : d = 0
          · subst hd
            have hok : To.okTok (v, 0, 0) q.length = true := To.ok_zero hv.1 hv.2 rfl
            by_cases hf : m < 5000
            · have hfi : ¬ (5000 : Int) ≤ (m : Int) := by omega
              obtain ⟨c, hc⟩ : ∃ c : UInt8, c = UInt8.ofNat v.toNat := ⟨_, rfl⟩
              have hcv : v = ((c.toNat : Nat) : Int) := by rw [hc, UInt8.toNat_ofNat']; omega
              have HNX : Hid (To.get ts [] = To.get (ts.drop (k + 1)) (q ++ [c])) := HYE.out _ (by rw [hc]; exact To.step_byte hok (by rw [← HM.out]; exact hf))
              have hv1 := hv.1
              have hv2 := hv.2
              have HCV : Hid (v = ((c.toNat : Nat) : Int)) := hcv
              have hwv : IntKind.u8.wrap v = v := by simp [IntKind.wrap, IntKind.bits, IntKind.signed]; omega
              clear hok HNO HYE HIn hc hv hcv
              go_wp2_with fail
              refine (HI1.out _).mono ?_
              rintro e w2 ⟨rfl, hw2⟩
              rw [← hw2] at HW1
              obtain ⟨g, hg⟩ : ∃ g, g = wr.heap.size := ⟨_, rfl⟩
              rw [← hg] at HW1 ⊢
              clear hw2 hg e1 e2 e3 HI1
              obtain ⟨k0, k1, k2⟩ := HW1.out.1.cells
              have hb2 : w.heap.size ≤ w2.heap.size := HW1.out.2.2.size
              go_wp2_with (at_builtin; refine wpList_appT1 w2 (by rfl) _ _ (by rfl) w.heap.size _ m q v c HCV.out (by rfl) HW1.out.2.1 (by rfl) (by omega) hb2 ?_)
              intro g4 cap4 w4 hown4 hgrow
              have HF : Hid (OwnT w4 w.heap.size (.slice (some ⟨g4, 0, none⟩) (m + 1) cap4) (q ++ [c]).length (q ++ [c]) ∧ Below w.heap.size w w4) := ⟨by rw [List.length_append, ← HM.out]; exact hown4, hgrow.below HW1.out.2.2 (Nat.le_refl _) hb2⟩
              have HLN : Hid ((q ++ [c]).length = m + 1) := by show _ = _; rw [List.length_append, ← HM.out]; rfl
              clear hown4 hgrow HW1 k0 k1 k2
              go_wp2_with fail
              go_roundw
              case rel => exact ⟨k + 1, q ++ [c], by omega, by go_num, by rw [HLN.out]; omega, HF.out.1, HNX, HF.out.2, _, _, by rw [HLN.out]⟩
              case measure => simp [intOf]; omega
            · have hfi : (5000 : Int) ≤ (m : Int) := by omega
              have HNX : Hid (To.get ts [] = none) := HNO.out (To.step_full (by rw [← HM.out]; exact hf))
              have hv1 := hv.1
              have hv2 := hv.2
              clear hok HNO HYE HIn hv
              go_wp2_with fail
              refine (HI1.out _).mono ?_
              rintro e w2 ⟨rfl, hw2⟩
              replace hw2 := hw2.symm
              subst hw2
              clear HI1 e1 e2 e3
              go_wp2_with fail
              exact bodyPost_ret (v := .tuple #[.string ⟨#[]⟩, .bool false]) (by simp [results, Try.results6, go_sem]) rfl (toEnd_none HNX.out rfl HW1.out.2.2)
          · have HNX : Hid (To.get ts [] = none) := HNO.out (To.step_no (To.ok_zero_no (fun h => hd h.2.2)))
            have hdb : (d != 0) = true := by rw [bne_iff_ne]; exact hd
            clear HNO HYE HIn hv
            go_wp2_with fail
            refine (HI1.out _).mono ?_
            rintro e w2 ⟨rfl, hw2⟩
            replace hw2 := hw2.symm
            subst hw2
            clear HI1 e1 e2 e3
            go_wp2_with fail
            exact bodyPost_ret (v := .tuple #[.string ⟨#[]⟩, .bool false]) (by simp [results, Try.results6, go_sem]) rfl (toEnd_none HNX.out rfl HW1.out.2.2)
        · have HI1 : Hid (∀ w : World, Calls Try.prog 14 #[.int .i64 v, .int .i64 0, .int .i64 255] w fun e w' => e = .returned (.bool false) ∧ w' = w) := fun w => l1In_no _ _ _ w hv
          have HNX : Hid (To.get ts [] = none) := HNO.out (To.step_no (To.ok_zero_no (fun h => hv ⟨h.1, h.2.1⟩)))
          clear HNO HYE HIn hv
          go_wp2_with fail
          refine (HI1.out _).mono ?_
          rintro e w2 ⟨rfl, hw2⟩
          replace hw2 := hw2.symm
          subst hw2
          clear HI1 e1 e2 e3
          go_wp2_with fail
          exact bodyPost_ret (v := .tuple #[.string ⟨#[]⟩, .bool false]) (by simp [results, Try.results6, go_sem]) rfl (toEnd_none HNX.out rfl HW1.out.2.2)
      · have hs0b : ((s : Int) == 0) = false := by rw [beq_eq_false_iff_ne]; exact hs0
        by_cases hv : v = 0
        · have hvb : (v != 0) = false := by rw [hv]; rfl
          by_cases hs : 3 ≤ s ∧ s ≤ 258
          · have HI1 : Hid (∀ w : World, Calls Try.prog 14 #[.int .i64 s, .int .i64 3, .int .i64 258] w fun e w' => e = .returned (.bool true) ∧ w' = w) := fun w => l1In_yes _ _ _ w hs.1 hs.2
            by_cases hd : 1 ≤ d ∧ d ≤ (m : Int)
            · have HI2 : Hid (∀ w : World, Calls Try.prog 14 #[.int .i64 d, .int .i64 1, .int .i64 (m : Int)] w fun e w' => e = .returned (.bool true) ∧ w' = w) := fun w => l1In_yes _ _ _ w hd.1 hd.2
              have hok : To.okTok (v, s, d) q.length = true := To.ok_more hs0 hv hs.1 hs.2 hd.1 (by rw [← HM.out]; exact hd.2)
              obtain ⟨S, hS⟩ := Int.eq_ofNat_of_zero_le (show 0 ≤ s by omega)
              obtain ⟨D, hD⟩ := Int.eq_ofNat_of_zero_le (show 0 ≤ d by omega)
              subst hS
              subst hD
              have hSb : S ≤ 258 := by omega
              have hD1 : 1 ≤ D := by omega
              have hD2 : D ≤ m := by omega
              by_cases hf : m + S ≤ 5000
              · have hfd : decide ((5000 : Int) < (m : Int) + (S : Int)) = false := by simp; omega
                have HNX : Hid (To.get ts [] = To.get (ts.drop (k + 1)) (To.again q D S)) := by
                  have h := HYE.out _ (To.step_again hs0 hok (by rw [← HM.out, Int.toNat_natCast]; exact hf))
                  rw [Int.toNat_natCast, Int.toNat_natCast] at h
                  exact h
                clear hok HNO HYE HIn hs hd hs0 hv
                go_wp2_with fail
                refine (HI1.out _).mono ?_
                rintro e w2 ⟨rfl, hw2⟩
                rw [← hw2] at HW1
                obtain ⟨g, hg⟩ : ∃ g, g = wr.heap.size := ⟨_, rfl⟩
                rw [← hg] at HW1 ⊢
                clear hw2 hg e1 e2 e3 HI1
                obtain ⟨k0, k1, k2⟩ := HW1.out.1.cells
                go_wp2_with fail
                refine (HI2.out _).mono ?_
                rintro e w3 ⟨rfl, hw3⟩
                replace hw3 := hw3.symm
                subst hw3
                clear HI2
                go_wp2_with fail
                clear k0 k1 k2
                go_loopw [4, 7] (fun o j wx => ∃ (c : Nat) (r : List UInt8) (N : Nat), c ≤ S ∧ j = .int .i64 (c : Int) ∧ Hid (r = To.again q D c ∧ N = r.length) ∧ N ≤ m + c ∧ m + c ≤ N ∧ Hid (Kx wx g v (S : Int) (D : Int) ∧ OwnT wx w.heap.size o N r ∧ Below w.heap.size w wx) ∧ ∃ ao cp, o = .slice ao N cp) (fun _ j _ => S - (intOf j).toNat)
                case atStart => exact ⟨0, q, m, Nat.zero_le _, rfl, ⟨rfl, HM.out⟩, Nat.le_refl _, Nat.le_refl _, HW1.out, _, _, rfl⟩
                case round =>
                  obtain ⟨c, r, N, hc, rfl, HR, hN1, hN2, HX, ao2, cp2, rfl⟩ := hrel
                  clear HW1
                  obtain ⟨k0, k1, k2⟩ := HX.out.1.cells
                  have hNb : N ≤ 5000 := by omega
                  by_cases hcS : c < S
                  · have hci : (c : Int) < (S : Int) := by omega
                    obtain ⟨J, hJ⟩ : ∃ J, J + D = N := ⟨N - D, by omega⟩
                    have eJ : (N : Int) - (D : Int) = (J : Int) := by omega
                    have hJN : J < N := by omega
                    have hJi : (J : Int) < (N : Int) := by omega
                    obtain ⟨g2, rfl, hcell⟩ := ToT.at HX.out.2.1 hJN
                    obtain ⟨x, hx⟩ : ∃ x, x = r.getD J 0 := ⟨_, rfl⟩
                    rw [← hx] at hcell
                    obtain ⟨z, hz⟩ : ∃ z : Int, z = ((x.toNat : Nat) : Int) := ⟨_, rfl⟩
                    have HZZ : Hid (z = ((x.toNat : Nat) : Int)) := hz
                    rw [← hz] at hcell
                    have HR2 : Hid (r ++ [x] = To.again q D (c + 1) ∧ N + 1 = (r ++ [x]).length) := by
                      have hJ' : J = r.length - D := by have := HR.out.2; omega
                      refine ⟨?_, by rw [List.length_append, ← HR.out.2]; rfl⟩
                      show r ++ [x] = To.again q D c ++ [(To.again q D c).getD ((To.again q D c).length - D) 0]
                      rw [← HR.out.1, ← hJ', hx]
                    have hbx : w.heap.size ≤ wr.heap.size := HX.out.2.2.size
                    clear hx hz hJ
                    go_wp2_with (at_builtin; refine wpList_appT1 wr (by rfl) _ _ (by rfl) w.heap.size _ N r z x HZZ.out (by rfl) HX.out.2.1 (by rfl) (by omega) hbx ?_)
                    intro g4 cap4 w4 hown4 hgrow
                    have HF : Hid (Kx w4 g v (S : Int) (D : Int) ∧ OwnT w4 w.heap.size (.slice (some ⟨g4, 0, none⟩) (N + 1) cap4) (N + 1) (r ++ [x]) ∧ Below w.heap.size w w4) := ⟨HX.out.1.grew HX.out.2.1 hgrow, hown4, hgrow.below HX.out.2.2 (Nat.le_refl _) hbx⟩
                    clear hown4 hgrow HX k0 k1 k2 hcell
                    go_wp2_with fail
                    go_roundw
                    case rel => exact ⟨c + 1, r ++ [x], N + 1, by omega, by go_num, HR2, by omega, by omega, HF, _, _, rfl⟩
                    case measure => simp [intOf]; omega
                  · have hci : ¬ (c : Int) < (S : Int) := by omega
                    have hcS2 : c = S := by omega
                    have HF : Hid (To.get ts [] = To.get (ts.drop (k + 1)) r ∧ r.length = N) := ⟨by rw [HNX.out, HR.out.1, hcS2], HR.out.2.symm⟩
                    clear hcS2
                    go_wp2_with fail
                    go_roundw
                    case rel => exact ⟨k + 1, r, by omega, by go_num, by rw [HF.out.2]; exact hNb, (by rw [HF.out.2]; exact HX.out.2.1), HF.out.1, HX.out.2.2, _, _, by rw [HF.out.2]⟩
                    case measure => simp [intOf]; omega
              · have hfd : decide ((5000 : Int) < (m : Int) + (S : Int)) = true := by simp; omega
                have HNX : Hid (To.get ts [] = none) := HNO.out (To.step_long hs0 (by rw [← HM.out, Int.toNat_natCast]; exact hf))
                clear hok HNO HYE HIn hs hd hs0 hv
                go_wp2_with fail
                refine (HI1.out _).mono ?_
                rintro e w2 ⟨rfl, hw2⟩
                replace hw2 := hw2.symm
                subst hw2
                clear HI1 e1 e2 e3
                go_wp2_with fail
                refine (HI2.out _).mono ?_
                rintro e w3 ⟨rfl, hw3⟩
                replace hw3 := hw3.symm
                subst hw3
                clear HI2
                go_wp2_with fail
                exact bodyPost_ret (v := .tuple #[.string ⟨#[]⟩, .bool false]) (by simp [results, Try.results6, go_sem]) rfl (toEnd_none HNX.out rfl HW1.out.2.2)
            · have HI2 : Hid (∀ w : World, Calls Try.prog 14 #[.int .i64 d, .int .i64 1, .int .i64 (m : Int)] w fun e w' => e = .returned (.bool false) ∧ w' = w) := fun w => l1In_no _ _ _ w hd
              have HNX : Hid (To.get ts [] = none) := HNO.out (To.step_no (To.ok_more_no hs0 (fun h => hd ⟨h.2.2.2.1, by rw [HM.out]; exact h.2.2.2.2⟩)))
              clear HNO HYE HIn hs hd hs0 hv
              go_wp2_with fail
              refine (HI1.out _).mono ?_
              rintro e w2 ⟨rfl, hw2⟩
              replace hw2 := hw2.symm
              subst hw2
              clear HI1 e1 e2 e3
              go_wp2_with fail
              refine (HI2.out _).mono ?_
              rintro e w3 ⟨rfl, hw3⟩
              replace hw3 := hw3.symm
              subst hw3
              clear HI2
              go_wp2_with fail
              exact bodyPost_ret (v := .tuple #[.string ⟨#[]⟩, .bool false]) (by simp [results, Try.results6, go_sem]) rfl (toEnd_none HNX.out rfl HW1.out.2.2)
          · have HI1 : Hid (∀ w : World, Calls Try.prog 14 #[.int .i64 s, .int .i64 3, .int .i64 258] w fun e w' => e = .returned (.bool false) ∧ w' = w) := fun w => l1In_no _ _ _ w hs
            have HNX : Hid (To.get ts [] = none) := HNO.out (To.step_no (To.ok_more_no hs0 (fun h => hs ⟨h.2.1, h.2.2.1⟩)))
            clear HNO HYE HIn hs hs0 hv
            go_wp2_with fail
            refine (HI1.out _).mono ?_
            rintro e w2 ⟨rfl, hw2⟩
            replace hw2 := hw2.symm
            subst hw2
            clear HI1 e1 e2 e3
            go_wp2_with fail
            exact bodyPost_ret (v := .tuple #[.string ⟨#[]⟩, .bool false]) (by simp [results, Try.results6, go_sem]) rfl (toEnd_none HNX.out rfl HW1.out.2.2)
        · have hvb : (v != 0) = true := by rw [bne_iff_ne]; exact hv
          have HNX : Hid (To.get ts [] = none) := HNO.out (To.step_no (To.ok_more_no hs0 (fun h => hv h.1)))
          clear HNO HYE HIn hs0
          go_wp2_with fail
          exact bodyPost_ret (v := .tuple #[.string ⟨#[]⟩, .bool false]) (by simp [results, Try.results6, go_sem]) rfl (toEnd_none HNX.out rfl HW1.out.2.2)
    · have hF : To.get ts [] = some q := by rw [HG.out, To.get_end (by have := HN.out; omega)]
      have HF : Hid (To.get ts [] = some q) := hF
      have htx := HO.out.text
      clear hF HG HO
      go_wp2_with fail
      exact bodyPost_ret (v := .tuple #[.string ⟨q.toArray⟩, .bool true]) (by simp [results, Try.results6, go_sem]) rfl (toEnd_some q HF.out rfl HB.out)
end Go.Proofs.Ytddlldbljnhfmaa
