/- PackGet of the specification. -/
import Derived.Test.YtmcjdilmmabiaaaPgImpl
import Derived.Test.YtmcjdilmmabiaaaInWalks
namespace Go.Proofs.Ytmcjdilmmabiaaa
open Go.RowKit

theorem str_app (a b : List UInt8) : (ByteArray.mk a.toArray ++ ByteArray.mk b.toArray) = ByteArray.mk (a ++ b).toArray := by
  apply ByteArray.ext
  simp

set_option maxHeartbeats 400000 in
theorem l1Many_one (c : UInt8) (n : Nat) (w : World) (hn : n ≤ 1000) :
    Calls Try.prog 22 #[.string ⟨[c].toArray⟩, .int .i64 (n : Int)] w fun e w' => e = .returned (.string ⟨(List.replicate n c).toArray⟩) ∧ w' = w := by
  have hc1 : (ByteArray.mk [c].toArray).size = 1 := rfl
  obtain ⟨u, hu⟩ : ∃ u, u = ByteArray.mk [c].toArray := ⟨_, rfl⟩
  have HU : Hid (u = ByteArray.mk [c].toArray) := hu
  rw [← hu] at hc1 ⊢
  clear hu
  go_enter Try.func22, Try.ntmps22
  go_wp2_with fail
  go_loop [5, 6] (fun o i => ∃ (k : Nat) (t : ByteArray), k ≤ n ∧ i = .int .i64 k ∧ o = .string t ∧ t.size ≤ 1000 ∧ Hid (t = ⟨(List.replicate k c).toArray⟩)) (fun _ i => n - (intOf i).toNat)
  case atStart => exact ⟨0, ⟨#[]⟩, Nat.zero_le _, rfl, rfl, Nat.zero_le _, rfl⟩
  case round =>
    obtain ⟨k, t, hk, rfl, rfl, ht, HT⟩ := hrel
    by_cases hlt : k < n
    · have HT2 : Hid (t ++ u = ⟨(List.replicate (k + 1) c).toArray⟩) := by show _ = _; rw [HT.out, HU.out, str_app, List.replicate_succ']
      have HS : Hid ((t ++ u).size ≤ 1000) := by show _ ≤ _; rw [HT2.out]; simp [ByteArray.size]; omega
      go_wp2_with fail
      go_round
      case rel => exact ⟨k + 1, t ++ u, by omega, by go_num, rfl, HS.out, HT2⟩
      case measure => simp [intOf]; omega
    · have hk' : k = n := by omega
      subst hk'
      have HE : Hid (t = ⟨(List.replicate k c).toArray⟩) := HT
      go_wp2_with fail
      go_ret
      refine ⟨?_, rfl⟩
      have h := HE.out
      rw [List.toArray_replicate] at h
      rw [← h]
      rfl

theorem ownT_none (w : World) : OwnT (w.alloc (.cells #[] 5)) w.heap.size (.slice (some ⟨w.heap.size, 0, none⟩) 0 0) 0 [] :=
  World.ownsRow_lit w #[] 0 (Nat.le_refl _) (by decide) rfl

set_option maxHeartbeats 4000000 in
set_option maxRecDepth 20000 in
theorem spec_packGet (s : ByteArray) (lm : Int) (w : World) (hs : s.size ≤ 3000000) :
    Calls Try.prog 12 #[.string s, .int .i64 lm] w (PgAns w s lm) := by
  by_cases h0 : (s.size : Int) > 9000
  · have d0 : decide ((s.size : Int) > 9000) = true := decide_eq_true h0
    have HF : Hid (Pg.ans s lm = (1, [])) := Pg.ans_bad fun h => by unfold Pg.Valid at h; omega
    go_enter Try.func12, Try.ntmps12
    go_wp2_with fail
    refine bodyPost_ret (v := .tuple #[.string ⟨#[]⟩, .int .i64 1]) (by simp [results, Try.results12, go_sem]) rfl (pgAns_mk 1 [] HF.out rfl ((Below.refl _ _).alloc (Nat.le_refl _) _))
  · have d0 : decide ((s.size : Int) > 9000) = false := decide_eq_false h0
    by_cases h1 : 0 ≤ lm ∧ lm ≤ 5000
    · have HI : Hid (∀ w : World, Calls Try.prog 34 #[.int .i64 lm, .int .i64 0, .int .i64 5000] w fun e w' => e = .returned (.bool true) ∧ w' = w) := fun w => l1In_yes _ _ _ w h1.1 h1.2
      obtain ⟨lim, rfl⟩ := Int.eq_ofNat_of_zero_le h1.1
      have HRES : Hid (Pg.ans s lim = Pg.get lim s.data.toList []) := Pg.ans_ok (by unfold Pg.Valid; omega)
      have hl5 : lim ≤ 5000 := by omega
      have hs9 : s.size ≤ 9000 := by omega
      have HE := ownT_none w
      go_enter Try.func12, Try.ntmps12
      go_wp2_with fail
      refine (HI.out _).mono ?_
      rintro e v0 ⟨rfl, hv0⟩
      replace hv0 := hv0.symm
      subst hv0
      go_wp2_with fail
      clear HI h1
      go_loopw [6, 7] (fun v a wr => ∃ (A : Nat) (l : List UInt8), A ≤ s.size ∧ a = .int .i64 (A : Int) ∧ Hid (Pg.get lim s.data.toList [] = Pg.get lim (s.data.toList.drop A) l) ∧ l.length ≤ lim ∧ OwnT wr w.heap.size v l.length l ∧ Below w.heap.size w wr) (fun _ a _ => s.size - (intOf a).toNat)
      case atStart => exact ⟨0, [], Nat.zero_le _, rfl, rfl, Nat.zero_le _, HE, (Below.refl _ _).alloc (Nat.le_refl _) _⟩
      case round =>
        obtain ⟨A, l, hA, rfl, HG, hll, hOw, hbel⟩ := hrel
        clear HE
        have hbs := hbel.size
        obtain ⟨ao, cap, rfl⟩ := hOw.shape
        have HOw : Hid (OwnT wr w.heap.size (.slice ao l.length cap) l.length l) := hOw
        by_cases hlt : A < s.size
        · have hai : (A : Int) < (s.size : Int) := by omega
          have hby := byteAt_eq s A hlt
          have hH256 := byteAt_lt s A
          obtain ⟨c, hc1, hc2⟩ := drop_byte s A hlt
          have hlen : (s.data.toList.drop (A + 1)).length = s.size - (A + 1) := by rw [List.length_drop, Array.length_toList]; rfl
          obtain ⟨R, hR⟩ : ∃ R, R = s.data.toList.drop (A + 1) := ⟨_, rfl⟩
          obtain ⟨H, hH⟩ : ∃ H, H = byteAt s A := ⟨_, rfl⟩
          rw [← hH] at hby hH256 hc2
          rw [← hR] at hc1 hlen
          have hbi : ((s[A]'hlt).toNat : Int) = (H : Int) := by rw [hby]
          obtain ⟨A1, hA1⟩ : ∃ A1, A1 = A + 1 := ⟨_, rfl⟩
          have eA : (A : Int) + 1 = (A1 : Int) := by omega
          have HGS : Hid (¬ A1 + Pg.nd H ≤ s.size → Pg.ans s lim = (2, [])) := fun h => by rw [HRES.out, HG.out, hc1]; exact Pg.get_short (by rw [hc2, hlen]; omega)
          have HGL0 : Hid (A1 + Pg.nd H ≤ s.size → lim < (l ++ Pg.outp H R).length → Pg.get lim s.data.toList [] = (3, [])) := fun h h2 => by rw [HG.out, hc1]; exact Pg.get_long (by rw [hc2, hlen]; omega) (by rw [hc2]; exact h2)
          have HGY0 : Hid (A1 + Pg.nd H ≤ s.size → (l ++ Pg.outp H R).length ≤ lim → Pg.get lim s.data.toList [] = Pg.get lim (s.data.toList.drop (A1 + Pg.nd H)) (l ++ Pg.outp H R)) := fun h h2 => by
            rw [HG.out, hc1, Pg.get_more (by rw [hc2, hlen]; omega) (by rw [hc2]; exact h2), hc2, hR, List.drop_drop, hA1]
          have HRR : Hid (R = s.data.toList.drop A1) := by show _ = _; rw [hR, hA1]
          have hA1b : A1 ≤ s.size := by omega
          clear hby hc1 hc2 hlen hR hH hOw
          by_cases hlo : H < 128
          · have hloi : (H : Int) < 128 := by omega
            have hhii : ¬ (128 : Int) < (H : Int) := by omega
            have HND : Hid (Pg.nd H = H + 1) := by show _ = _; unfold Pg.nd; rw [if_pos hlo]
            obtain ⟨F, hF⟩ : ∃ F, F = A1 + H := ⟨_, rfl⟩
            obtain ⟨E, hE⟩ : ∃ E, E = F + 1 := ⟨_, rfl⟩
            have e1 : (A1 : Int) + (H : Int) = (F : Int) := by omega
            have e2 : (F : Int) + 1 = (E : Int) := by omega
            have HEE : Hid (E = A1 + Pg.nd H) := by show _ = _; rw [HND.out]; omega
            have hAE : A < E := by omega
            by_cases hin : E ≤ s.size
            · have hini : ¬ (s.size : Int) < (E : Int) := by omega
              obtain ⟨p, hp⟩ : ∃ p, p = Pg.outp H R := ⟨_, rfl⟩
              have hex : s.extract A1 E = ⟨p.toArray⟩ := by
                rw [Bk.extract_part, hp]
                unfold Pg.outp
                rw [if_pos hlo, HRR.out, show E - A1 = H + 1 by omega]
              have hpb : p.length ≤ 128 := by
                rw [hp]; unfold Pg.outp; rw [if_pos hlo, List.length_take]; omega
              have HGL : Hid (lim < (l ++ p).length → Pg.get lim s.data.toList [] = (3, [])) := by rw [hp]; exact HGL0.out (by rw [← HEE.out]; exact hin)
              have HGY : Hid ((l ++ p).length ≤ lim → Pg.get lim s.data.toList [] = Pg.get lim (s.data.toList.drop E) (l ++ p)) := by rw [hp, HEE.out]; exact HGY0.out (by rw [← HEE.out]; exact hin)
              have hEs : E ≤ s.size := hin
              have hAEi : (A1 : Int) ≤ (E : Int) := by omega
              have hEi : (E : Int) ≤ (s.size : Int) := by omega
              have hAE1 : A1 ≤ E := by omega
              clear hp hE hF HGL0 HGY0 HGS HEE HND HRR hA1 HG
              go_wp2_with (at_builtin; refine wpList_appTs wr (by rfl) _ _ (by rfl) w.heap.size _ l.length l p (by rfl) HOw.out (by rfl) (by omega) hbs ?_)
              intro v5 w5 hown5 hstep
              obtain ⟨ao5, cap5, rfl⟩ := hown5.shape
              obtain ⟨m, hm⟩ : ∃ m, m = l.length + p.length := ⟨_, rfl⟩
              rw [← hm] at hown5 ⊢
              have HM : Hid (m = (l ++ p).length) := by show _ = _; rw [List.length_append, hm]
              have HO5 : Hid (OwnT w5 w.heap.size (.slice ao5 m cap5) (l ++ p).length (l ++ p) ∧ Below w.heap.size w w5) := ⟨by rw [← HM.out]; exact hown5, hstep _ _ hbel (Nat.le_refl _) hbs⟩
              have hmb : m ≤ 10000 := by omega
              clear hown5 hstep hbel hm HOw
              by_cases hroom : m ≤ lim
              · have hri : ¬ (lim : Int) < (m : Int) := by omega
                have HNX : Hid (Pg.get lim s.data.toList [] = Pg.get lim (s.data.toList.drop E) (l ++ p) ∧ (l ++ p).length ≤ lim) := ⟨HGY.out (by rw [← HM.out]; exact hroom), by rw [← HM.out]; exact hroom⟩
                clear HGY HGL
                go_wp2_with fail
                go_roundw
                case rel => exact ⟨E, l ++ p, hEs, by go_num, HNX.out.1, HNX.out.2, by rw [← HM.out]; exact (by have := HO5.out.1; rw [← HM.out] at this; exact this), HO5.out.2⟩
                case measure => simp [intOf]; omega
              · have hri : (lim : Int) < (m : Int) := by omega
                have HNX : Hid (Pg.ans s lim = (3, [])) := by show _ = _; rw [HRES.out]; exact HGL.out (by rw [← HM.out]; omega)
                clear HGY HGL
                go_wp2_with fail
                refine bodyPost_ret (v := .tuple #[.string ⟨#[]⟩, .int .i64 3]) (by simp [results, Try.results12, go_sem]) rfl (pgAns_mk 3 [] HNX.out rfl HO5.out.2)
            · have hini : (s.size : Int) < (E : Int) := by omega
              have HF : Hid (Pg.ans s lim = (2, [])) := HGS.out (by rw [← HEE.out]; exact hin)
              clear HGL0 HGY0 HGS HEE HND HRR hA1 HG HOw hE hF
              go_wp2_with fail
              refine bodyPost_ret (v := .tuple #[.string ⟨#[]⟩, .int .i64 2]) (by simp [results, Try.results12, go_sem]) rfl (pgAns_mk 2 [] HF.out rfl hbel)
          · have hloi : ¬ (H : Int) < 128 := by omega
            by_cases hhi : 128 < H
            · have hhii : (128 : Int) < (H : Int) := by omega
              have HND : Hid (Pg.nd H = 1) := by show _ = _; unfold Pg.nd; rw [if_neg hlo, if_pos hhi]
              obtain ⟨E, hE⟩ : ∃ E, E = A1 + 1 := ⟨_, rfl⟩
              have e2 : (A1 : Int) + 1 = (E : Int) := by omega
              have HEE : Hid (E = A1 + Pg.nd H) := by show _ = _; rw [HND.out]; exact hE
              have hAE : A < E := by omega
              obtain ⟨T, hT⟩ : ∃ T, T = 257 - H := ⟨_, rfl⟩
              have e3 : 257 - (H : Int) = (T : Int) := by omega
              have hTb : T ≤ 128 := by omega
              by_cases hin : A1 < s.size
              · have hini : ¬ (s.size : Int) ≤ (A1 : Int) := by omega
                obtain ⟨p, hp⟩ : ∃ p, p = Pg.outp H R := ⟨_, rfl⟩
                obtain ⟨b, hb1, -⟩ := drop_byte s A1 hin
                have hex : s.extract A1 E = ⟨[b].toArray⟩ := by
                  rw [Bk.extract_part, hb1, show E - A1 = 1 by omega]; rfl
                have hpr : p = List.replicate T b := by
                  rw [hp]; unfold Pg.outp; rw [if_neg hlo, if_pos hhi, HRR.out, hb1, hT]; rfl
                have hpb : p.length ≤ 128 := by rw [hpr, List.length_replicate]; exact hTb
                have HMY : Hid (∀ w : World, Calls Try.prog 22 #[.string (s.extract A1 E), .int .i64 (T : Int)] w fun e w' => e = .returned (.string ⟨p.toArray⟩) ∧ w' = w) := fun w => by rw [hex, hpr]; exact l1Many_one b T w (by omega)
                have HGL : Hid (lim < (l ++ p).length → Pg.get lim s.data.toList [] = (3, [])) := by rw [hp]; exact HGL0.out (by rw [← HEE.out]; omega)
                have HGY : Hid ((l ++ p).length ≤ lim → Pg.get lim s.data.toList [] = Pg.get lim (s.data.toList.drop E) (l ++ p)) := by rw [hp, HEE.out]; exact HGY0.out (by rw [← HEE.out]; omega)
                have hEs : E ≤ s.size := by omega
                have hAEi : (A1 : Int) ≤ (E : Int) := by omega
                have hEi : (E : Int) ≤ (s.size : Int) := by omega
                have hAE1 : A1 ≤ E := by omega
                clear hp hE hT HGL0 HGY0 HGS HEE HND HRR hA1 HG hex hpr hb1
                go_wp2_with fail
                refine (HMY.out _).mono ?_
                rintro e w4 ⟨rfl, hw4⟩
                replace hw4 := hw4.symm
                subst hw4
                clear HMY
                go_wp2_with (at_builtin; refine wpList_appTs wr (by rfl) _ _ (by rfl) w.heap.size _ l.length l p (by rfl) HOw.out (by rfl) (by omega) hbs ?_)
                intro v5 w5 hown5 hstep
                obtain ⟨ao5, cap5, rfl⟩ := hown5.shape
                obtain ⟨m, hm⟩ : ∃ m, m = l.length + p.length := ⟨_, rfl⟩
                rw [← hm] at hown5 ⊢
                have HM : Hid (m = (l ++ p).length) := by show _ = _; rw [List.length_append, hm]
                have HO5 : Hid (OwnT w5 w.heap.size (.slice ao5 m cap5) (l ++ p).length (l ++ p) ∧ Below w.heap.size w w5) := ⟨by rw [← HM.out]; exact hown5, hstep _ _ hbel (Nat.le_refl _) hbs⟩
                have hmb : m ≤ 10000 := by omega
                clear hown5 hstep hbel hm HOw
                by_cases hroom : m ≤ lim
                · have hri : ¬ (lim : Int) < (m : Int) := by omega
                  have HNX : Hid (Pg.get lim s.data.toList [] = Pg.get lim (s.data.toList.drop E) (l ++ p) ∧ (l ++ p).length ≤ lim) := ⟨HGY.out (by rw [← HM.out]; exact hroom), by rw [← HM.out]; exact hroom⟩
                  clear HGY HGL
                  go_wp2_with fail
                  go_roundw
                  case rel => exact ⟨E, l ++ p, hEs, by go_num, HNX.out.1, HNX.out.2, by rw [← HM.out]; exact (by have := HO5.out.1; rw [← HM.out] at this; exact this), HO5.out.2⟩
                  case measure => simp [intOf]; omega
                · have hri : (lim : Int) < (m : Int) := by omega
                  have HNX : Hid (Pg.ans s lim = (3, [])) := by show _ = _; rw [HRES.out]; exact HGL.out (by rw [← HM.out]; omega)
                  clear HGY HGL
                  go_wp2_with fail
                  refine bodyPost_ret (v := .tuple #[.string ⟨#[]⟩, .int .i64 3]) (by simp [results, Try.results12, go_sem]) rfl (pgAns_mk 3 [] HNX.out rfl HO5.out.2)
              · have hini : (s.size : Int) ≤ (A1 : Int) := by omega
                have HF : Hid (Pg.ans s lim = (2, [])) := HGS.out (by rw [← HEE.out]; omega)
                clear HGL0 HGY0 HGS HEE HND HRR hA1 HG HOw hE hT
                go_wp2_with fail
                refine bodyPost_ret (v := .tuple #[.string ⟨#[]⟩, .int .i64 2]) (by simp [results, Try.results12, go_sem]) rfl (pgAns_mk 2 [] HF.out rfl hbel)
            · have hhii : ¬ (128 : Int) < (H : Int) := by omega
              have hnd : Pg.nd H = 0 := by unfold Pg.nd; rw [if_neg hlo, if_neg hhi]
              have hou : Pg.outp H R = [] := by unfold Pg.outp; rw [if_neg hlo, if_neg hhi]
              have HNX : Hid (Pg.get lim s.data.toList [] = Pg.get lim (s.data.toList.drop A1) l) := by
                have := HGY0.out (by rw [hnd]; exact hA1b) (by rw [hou, List.append_nil]; exact hll)
                rw [hnd, hou, List.append_nil] at this
                exact this
              have hAA : A < A1 := by omega
              obtain ⟨m, hm⟩ : ∃ m, m = l.length := ⟨_, rfl⟩
              have HM : Hid (m = l.length) := hm
              rw [← hm] at HOw hll ⊢
              have hri : ¬ (lim : Int) < (m : Int) := by omega
              clear hnd hou HGL0 HGY0 HGS HRR hA1 HG hm
              go_wp2_with fail
              go_roundw
              case rel => exact ⟨A1, l, hA1b, by go_num, HNX, by rw [← HM.out]; exact hll, by rw [← HM.out]; exact HOw.out, hbel⟩
              case measure => simp [intOf]; omega
        · obtain rfl : A = s.size := by omega
          have HF : Hid (Pg.ans s lim = (0, l)) := by
            show _ = _
            rw [HRES.out, HG.out, List.drop_of_length_le (by rw [Array.length_toList]; exact Nat.le_refl _), Pg.get_nil]
          have htx := HOw.out.text
          clear hOw HOw HG
          go_wp2_with fail
          refine bodyPost_ret (v := .tuple #[.string ⟨l.toArray⟩, .int .i64 0]) (by simp [results, Try.results12, go_sem]) rfl (pgAns_mk 0 l HF.out rfl hbel)
    · have HI : Hid (∀ w : World, Calls Try.prog 34 #[.int .i64 lm, .int .i64 0, .int .i64 5000] w fun e w' => e = .returned (.bool false) ∧ w' = w) := fun w => l1In_no _ _ _ w h1
      have HF : Hid (Pg.ans s lm = (1, [])) := Pg.ans_bad fun h => by unfold Pg.Valid at h; omega
      go_enter Try.func12, Try.ntmps12
      go_wp2_with fail
      refine (HI.out _).mono ?_
      rintro e v0 ⟨rfl, hv0⟩
      replace hv0 := hv0.symm
      subst hv0
      go_wp2_with fail
      refine bodyPost_ret (v := .tuple #[.string ⟨#[]⟩, .int .i64 1]) (by simp [results, Try.results12, go_sem]) rfl (pgAns_mk 1 [] HF.out rfl ((Below.refl _ _).alloc (Nat.le_refl _) _))
end Go.Proofs.Ytmcjdilmmabiaaa
