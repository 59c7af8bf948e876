/- ChunksGet of the specification. -/
import Derived.Test.YtgbcjkpmiceddaaCgMath
import Derived.Test.YtgbcjkpmiceddaaChSpec
import Derived.Test.YtgbcjkpmiceddaaChOwn
import Derived.Test.YtgbcjkpmiceddaaNmWalks
import Derived.Test.YtgbcjkpmiceddaaCrWalks
import Derived.Deep.RegionHeld3
namespace Go.Proofs.Ytgbcjkpmiceddaa
open Go.RowKit

theorem bx_nm (s : ByteArray) (A N : Nat) : (s.extract (A + 4) (A + 8 + N)).extract 0 4 = s.extract (A + 4) (A + 8) := by
  rw [ByteArray.extract_extract]
  congr 1
  omega
theorem bx_bd (s : ByteArray) (A N M : Nat) (hM : M = N + 4) : (s.extract (A + 4) (A + 8 + N)).extract 4 M = s.extract (A + 8) (A + 8 + N) := by
  rw [ByteArray.extract_extract]
  congr 1
  omega
theorem bx_cat (s : ByteArray) (A N : Nat) : s.extract (A + 4) (A + 8) ++ s.extract (A + 8) (A + 8 + N) = s.extract (A + 4) (A + 8 + N) := by
  rw [ByteArray.extract_append_extract]
  congr 1 <;> omega
theorem beqS_no {t u : ByteArray} (h : ¬ t = u) : (t.toList == u.toList) = false := by
  rw [beq_eq_false_iff_ne, ByteArray.toList_eq, ByteArray.toList_eq]
  exact fun e => h (ByteArray.ext (Array.toList_inj.1 e))

set_option maxHeartbeats 400000 in
theorem l1Field_past (s : ByteArray) (A : Nat) (w : World) (h : s.size < A + 4) (hA : A ≤ 9000) :
    Calls Try.prog 35 #[.string s, .int .i64 (A : Int), .int .i64 4, .bool true] w fun e w' => e = .returned (.int .i64 0) ∧ w' = w := by
  have hd : decide ((s.size : Int) < (A : Int) + 4) = true := by simp; omega
  have hi : (s.size : Int) < (A : Int) + 4 := by omega
  go_enter Try.func35, Try.ntmps35
  go_wp2_with fail
  go_ret
  exact ⟨rfl, rfl⟩

/-- how the pieces are read -/
def SpEnd (w : World) (s : ByteArray) (e : Ending) (w' : World) : Prop :=
  Below w.heap.size w w' ∧ ((Cg.ans s = none ∧ ∃ v, e = .returned (.tuple #[v, .bool false])) ∨ ∃ l, Cg.ans s = some l ∧ ∃ ao cap, e = .returned (.tuple #[.slice ao l.length cap, .bool true]) ∧ Chs2 w' ao l)
theorem spEnd_no {w w' : World} {s : ByteArray} {e : Ending} (v : Value) (h : Cg.ans s = none) (h1 : e = .returned (.tuple #[v, .bool false])) (h2 : Below w.heap.size w w') : SpEnd w s e w' := ⟨h2, .inl ⟨h, v, h1⟩⟩

set_option maxHeartbeats 4000000 in
set_option maxRecDepth 20000 in
theorem l9Split_any (s : ByteArray) (w : World) (hs : s.size ≤ 9000) :
    Calls Try.prog 23 #[.string s] w (SpEnd w s) := by
  have HE : Hid (OwnC (w.alloc (.cells #[] 46)) w.heap.size (.slice (some ⟨w.heap.size, 0, none⟩) 0 0) 0 []) := ch_own_none w
  by_cases h8 : (s.size : Int) < 8
  · have d8 : decide ((s.size : Int) < 8) = true := decide_eq_true h8
    have HF : Hid (Cg.ans s = none) := Cg.ans_no fun h => by have := h.2.1; omega
    go_enter Try.func23, Try.ntmps23
    go_wp2_with fail
    go_region
    all_goals go_wp2_with fail
    all_goals exact bodyPost_ret (v := .tuple #[.slice (some ⟨w.heap.size, 0, none⟩) 0 0, .bool false]) (by simp [results, Try.results23, go_sem]) rfl (spEnd_no _ HF.out rfl (below_drewN ((Below.refl _ _).alloc (Nat.le_refl _) _) 1))
  have d8 : decide ((s.size : Int) < 8) = false := decide_eq_false h8
  have h8n : 8 ≤ s.size := by omega
  have HSG : Hid (∀ w, Calls Try.prog 34 #[] w fun e w' => e = .returned (.string Cg.signB) ∧ Below w.heap.size w w') := fun w => l9Sign_any w
  obtain ⟨t, ht⟩ : ∃ t, t = s.extract 0 8 := ⟨_, rfl⟩
  have HT : Hid (s.extract 0 8 = t) := ht.symm
  have ht' : s.extract 0 8 = t := ht.symm
  clear ht
  by_cases hsg : t = Cg.signB
  rotate_left
  · have HF : Hid (Cg.ans s = none) := Cg.ans_no fun h => hsg (by rw [← HT.out]; exact h.2.2)
    have HSGH : Hid (∀ w, Calls Try.prog 34 #[] w fun e w' => e = .returned (.string Cg.signB) ∧ Below w.heap.size w w') := HSG
    have hbq := beqS_no hsg
    generalize Cg.signB = S0 at *
    clear hsg
    go_enter Try.func23, Try.ntmps23
    go_wp2_with fail
    go_region_held3 (fun _ => True) (trivial) ((go_at_call 34; refine (HSGH.out _).mono ?_; rintro e w2 ⟨rfl, b2⟩))
    have hb : Below w.heap.size w w2 := ((Below.refl _ _).alloc (Nat.le_refl _) _).drew.trans (b2.mono (by simp))
    have HFF : Hid (SpEnd w s (.returned (.tuple #[.slice (some ⟨w.heap.size, 0, none⟩) 0 0, .bool false])) w2) := spEnd_no _ HF.out rfl hb
    clear hb b2 HSG HSGH HE
    go_wp2_with fail
    exact bodyPost_ret (v := .tuple #[.slice (some ⟨w.heap.size, 0, none⟩) 0 0, .bool false]) (by simp [results, Try.results23, go_sem]) rfl HFF.out
  have HV : Hid (Cg.ans s = Cg.get s 8 []) := Cg.ans_ok ⟨hs, h8n, by rw [HT.out]; exact hsg⟩
  clear HT
  rw [hsg] at ht'
  clear hsg
  have hbq : (Cg.signB.toList == Cg.signB.toList) = true := beq_self_eq_true _
  generalize Cg.signB = S0 at *
  obtain ⟨i0, hi0, hz0, hz1, hz2⟩ := info_parts info_chunk
  go_enter Try.func23, Try.ntmps23
  go_wp2_with fail
  go_region_held3 (fun _ => True) (trivial) ((go_at_call 34; refine (HSG.out _).mono ?_; rintro e w2 ⟨rfl, b2⟩))
  have hb : Below w.heap.size w w2 := ((Below.refl _ _).alloc (Nat.le_refl _) _).drew.trans (b2.mono (by simp))
  have hO2 : OwnC w2 w.heap.size (.slice (some ⟨w.heap.size, 0, none⟩) 0 0) 0 [] := HE.out.same (fun k hk _ => b2.block k (by simpa using hk))
  have HI : Hid (OwnC w2 w.heap.size (.slice (some ⟨w.heap.size, 0, none⟩) 0 0) 0 [] ∧ Below w.heap.size w w2) := ⟨hO2, hb⟩
  clear hO2 hb b2 HSG HE hbq ht'
  go_wp2_with fail
  go_loopw [4, 5] (fun o i wr => ∃ (A : Nat) (l : List (ByteArray × ByteArray)) (ao : Option Addr) (cap : Nat), A ≤ s.size ∧ l.length ≤ A ∧ i = .int .i64 (A : Int) ∧ o = .slice ao l.length cap ∧ Hid (Cg.ans s = Cg.get s A l) ∧ Hid (OwnC wr w.heap.size (.slice ao l.length cap) l.length l ∧ Below w.heap.size w wr)) (fun _ i _ => s.size - (intOf i).toNat)
  case atStart => exact ⟨8, [], _, _, h8n, Nat.zero_le _, rfl, rfl, HV.out, HI.out⟩
  case round =>
    obtain ⟨A, l, ao, cap, hA, hlA, rfl, rfl, HG, HS⟩ := hrel
    clear HI HV
    have hbs : w.heap.size ≤ wr.heap.size := HS.out.2.size
    by_cases hlt : A < s.size
    rotate_left
    · have hlti : ¬ (A : Int) < (s.size : Int) := by omega
      have HF : Hid (SpEnd w s (.returned (.tuple #[.slice ao l.length cap, .bool true])) wr) := by
        obtain ⟨ao', c', e, hc⟩ := HS.out.1.chs
        cases e
        exact ⟨HS.out.2, .inr ⟨l, by rw [HG.out]; exact Cg.get_end hlt, _, _, rfl, hc⟩⟩
      clear HG HS
      go_wp2_with fail
      exact bodyPost_ret (v := .tuple #[.slice ao l.length cap, .bool true]) (by simp [results, Try.results23, go_sem]) rfl HF.out
    have hlti : (A : Int) < (s.size : Int) := by omega
    have HNO : Hid (¬ Cg.Ok s A → ∀ q, SpEnd w s (.returned (.tuple #[.slice ao l.length cap, .bool false])) (wr.drewN q)) := fun h q => spEnd_no _ (by rw [HG.out]; exact Cg.get_no hlt h) rfl (below_drewN HS.out.2 q)
    by_cases h12 : A + 12 ≤ s.size
    rotate_left
    · have d12 : decide ((A : Int) + 12 > (s.size : Int)) = true := decide_eq_true (by omega)
      have h12i : (s.size : Int) < (A : Int) + 12 := by omega
      have HF := HNO.out (fun h => by have := h.1; omega) 0
      have HFF : Hid (SpEnd w s (.returned (.tuple #[.slice ao l.length cap, .bool false])) wr) := HF
      have HFI : Hid (∃ z : Int, Calls Try.prog 35 #[.string s, .int .i64 (A : Int), .int .i64 4, .bool true] wr fun e w' => e = .returned (.int .i64 z) ∧ w' = wr) := by
        by_cases h4 : A + 4 ≤ s.size
        · exact ⟨_, l1Field_big s A 4 wr h4 hs (by omega)⟩
        · exact ⟨_, l1Field_past s A wr (by omega) (by omega)⟩
      obtain ⟨z, hz⟩ := HFI.out
      have HZ : Hid (Calls Try.prog 35 #[.string s, .int .i64 (A : Int), .int .i64 4, .bool true] wr fun e w' => e = .returned (.int .i64 z) ∧ w' = wr) := hz
      clear HG HS HF HNO hz HFI
      go_wp2_with fail
      refine HZ.out.mono ?_
      rintro e w3 ⟨rfl, hw3⟩
      replace hw3 := hw3.symm
      subst hw3
      clear HZ
      go_wp2_with fail
      exact bodyPost_ret (v := .tuple #[.slice ao l.length cap, .bool false]) (by simp [results, Try.results23, go_sem]) rfl HFF.out
    have d12 : decide ((A : Int) + 12 > (s.size : Int)) = false := decide_eq_false (by omega)
    have h12i : ¬ (s.size : Int) < (A : Int) + 12 := by omega
    obtain ⟨N, hN⟩ : ∃ N, N = Cg.n4 s A := ⟨_, rfl⟩
    have hNl := Cg.n4_lt s A
    have HN : Hid (N = Cg.n4 s A) := hN
    have HFI : Hid (Calls Try.prog 35 #[.string s, .int .i64 (A : Int), .int .i64 4, .bool true] wr fun e w' => e = .returned (.int .i64 (N : Int)) ∧ w' = wr) := by
      rw [hN]; exact l1Field_big s A 4 wr (by omega) hs (by omega)
    rw [← hN] at hNl
    clear hN
    by_cases hn : A + 12 + N ≤ s.size
    rotate_left
    · have hni : (s.size : Int) - (A : Int) - 12 < (N : Int) := by omega
      have dn : decide ((N : Int) > (s.size : Int) - (A : Int) - 12) = true := decide_eq_true (by omega)
      have HF := HNO.out (fun h => by have := h.1; rw [← HN.out] at this; omega) 0
      have HFF : Hid (SpEnd w s (.returned (.tuple #[.slice ao l.length cap, .bool false])) wr) := HF
      clear HG HS HF HNO
      go_wp2_with fail
      refine HFI.out.mono ?_
      rintro e w3 ⟨rfl, hw3⟩
      replace hw3 := hw3.symm
      subst hw3
      clear HFI
      go_wp2_with fail
      exact bodyPost_ret (v := .tuple #[.slice ao l.length cap, .bool false]) (by simp [results, Try.results23, go_sem]) rfl HFF.out
    have hni : ¬ (s.size : Int) - (A : Int) - 12 < (N : Int) := by omega
    have dn : decide ((N : Int) > (s.size : Int) - (A : Int) - 12) = false := decide_eq_false (by omega)
    obtain ⟨nm, hnm⟩ : ∃ nm, nm = s.extract (A + 4) (A + 8) := ⟨_, rfl⟩
    have HNM : Hid (nm = Cg.nm s A) := hnm
    have hnm' : s.extract (A + 4) (A + 8) = nm := hnm.symm
    have hnms : nm.size ≤ 1048576 := by rw [hnm, ByteArray.size_extract]; omega
    have HNA : Hid (∀ w, Calls Try.prog 28 #[.string nm] w fun e w' => e = .returned (.bool (Ch.name nm)) ∧ w' = w) := fun w => l9Name_any nm w hnms
    clear hnms hnm
    go_wp2_with fail
    refine HFI.out.mono ?_
    rintro e w3 ⟨rfl, hw3⟩
    replace hw3 := hw3.symm
    subst hw3
    clear HFI
    go_wp2_with fail
    refine (HNA.out _).mono ?_
    rintro e w3 ⟨rfl, hw3⟩
    replace hw3 := hw3.symm
    subst hw3
    clear HNA hnm'
    by_cases hname : Ch.name nm = true
    rotate_left
    · have hname' : Ch.name nm = false := by simpa using hname
      have HF := HNO.out (fun h => by have := h.2.1; rw [← HNM.out] at this; exact hname this) 0
      have HFF : Hid (SpEnd w s (.returned (.tuple #[.slice ao l.length cap, .bool false])) wr) := HF
      rw [hname']
      clear HG HS HF HNO hname hname'
      go_wp2_with fail
      exact bodyPost_ret (v := .tuple #[.slice ao l.length cap, .bool false]) (by simp [results, Try.results23, go_sem]) rfl HFF.out
    have HNY : Hid (Ch.name nm = true) := hname
    rw [hname]
    clear hname
    obtain ⟨b, hb⟩ : ∃ b, b = s.extract (A + 4) (A + 8 + N) := ⟨_, rfl⟩
    have hb' : s.extract (A + 4) (A + 8 + N) = b := hb.symm
    have hbz : b.size = N + 4 := by rw [hb, ByteArray.size_extract]; omega
    obtain ⟨bd, hbd⟩ : ∃ bd, bd = s.extract (A + 8) (A + 8 + N) := ⟨_, rfl⟩
    have HBD : Hid (bd = Cg.bd s A) := by show _ = _; rw [hbd, HN.out]; rfl
    have hx1 : b.extract 0 4 = nm := by rw [hb, bx_nm]; exact HNM.out.symm
    have hx2 : b.extract 4 b.size = bd := by rw [hbz, hb, bx_bd s A N _ rfl, hbd]
    have HCT : Hid (nm ++ bd = b) := by show _ = _; rw [HNM.out, hbd, hb]; exact bx_cat s A N
    have HCR : Hid (∀ w, Calls Try.prog 36 #[.string b] w fun e w' => e = .returned (.int .i64 ((Ch.crc (nm, bd) : Nat) : Int)) ∧ w' = w) := fun w => by
      have h1 := spec_crc32 b w (by unfold maxLen; omega)
      have hz : (nm ++ bd).size ≤ 9000 := by rw [HCT.out]; omega
      rw [← HCT.out, Ch.crc_ans (p := (nm, bd)) hz] at h1
      rw [← HCT.out]
      exact h1
    obtain ⟨C, hC⟩ : ∃ C, C = Ch.crc (nm, bd) := ⟨_, rfl⟩
    have HCE : Hid (C = Ch.crc (nm, bd)) := hC
    rw [← hC] at HCR
    obtain ⟨K, hK⟩ : ∃ K, K = Cg.n4 s (A + 8 + N) := ⟨_, rfl⟩
    have HK : Hid (K = Cg.n4 s (A + 8 + N)) := hK
    have HKI : Hid (Calls Try.prog 35 #[.string s, .int .i64 ((A : Int) + 8 + (N : Int)), .int .i64 4, .bool true] wr fun e w' => e = .returned (.int .i64 (K : Int)) ∧ w' = wr) := by
      have h1 := l1Field_big s (A + 8 + N) 4 wr (by omega) hs (by omega)
      rw [hK]
      rw [show ((A + 8 + N : Nat) : Int) = (A : Int) + 8 + (N : Int) by omega] at h1
      exact h1
    have hb4i : (4 : Int) ≤ (b.size : Int) := by omega
    have hb4n : 4 ≤ b.size := by omega
    clear hb hbd hC hK HCT hbz
    go_wp2_with fail
    refine (HCR.out _).mono ?_
    rintro e w3 ⟨rfl, hw3⟩
    replace hw3 := hw3.symm
    subst hw3
    clear HCR
    go_wp2_with fail
    refine HKI.out.mono ?_
    rintro e w3 ⟨rfl, hw3⟩
    replace hw3 := hw3.symm
    subst hw3
    clear HKI
    by_cases hq : C = K
    rotate_left
    · have hqi : ((C : Int) != (K : Int)) = true := by rw [bne_iff_ne]; omega
      have HF := HNO.out (fun h => by
        have h3 := h.2.2
        rw [← HN.out, ← HNM.out, ← HBD.out, ← HK.out, ← HCE.out] at h3
        exact hq h3.symm) 0
      have HFF : Hid (SpEnd w s (.returned (.tuple #[.slice ao l.length cap, .bool false])) wr) := HF
      have hqn : ¬ (C : Int) = (K : Int) := by omega
      clear HG HS HF HNO hx1 hx2
      go_wp2_with fail
      exact bodyPost_ret (v := .tuple #[.slice ao l.length cap, .bool false]) (by simp [results, Try.results23, go_sem]) rfl HFF.out
    have hok : Cg.Ok s A := ⟨by rw [← HN.out]; omega, by rw [← HNM.out]; exact HNY.out, by rw [← HN.out, ← HNM.out, ← HBD.out, ← HK.out, ← HCE.out]; exact hq.symm⟩
    have HGN : Hid (Cg.ans s = Cg.get s (A + 12 + N) (l ++ [(nm, bd)])) := by
      show _ = _
      rw [HG.out, Cg.get_more hlt hok, HNM.out, HBD.out, ← HN.out]
    subst hq
    clear HG HNO hok HK HCE HNY HNM HBD HN
    have hown := HS.out.1
    have hbel := HS.out.2
    have hm63 : l.length + 1 ≤ maxLen := by unfold maxLen; omega
    have hlen : (l.length + 1) * 32 ≤ 140737488355328 := by omega
    have hone : ∀ u ∈ [Value.string nm, Value.string bd], u.oneCell' = true := by intro u hu; simp at hu; rcases hu with rfl | rfl <;> rfl
    have hlt0 := World.ownsRow.lt (show World.ownsRow _ _ _ _ _ _ _ from hown)
    clear HS
    go_wp2_with fail
    go_region_held3 (fun _ => True) (trivial) ((refine step_append_lies _ (by rfl) _ _ _ (by rfl) w.heap.size 46 i0 (.agg #[.string ⟨#[]⟩, .string ⟨#[]⟩]) 2 32 Try.underlying24 hi0 hz0 hz1 hz2 rfl (by decide) _ l.length (chCells l) (by rfl) (World.ownsRow.alloc (show World.ownsRow _ _ _ _ _ _ _ from hown) _) ⟨wr.heap.size, 0, none⟩ 1 1 [.string nm, .string bd] (by rfl) rfl (World.news_of_block (heap_alloc_new _ _)) hone (by decide) hm63 hlen (by simp; omega) (wr.heap.size + 1) (by simp) ?_; intro g cap2 w4 hown4 hgrow hat hlt4))
    all_goals
      have hb4 : Below w.heap.size w w4 := (hbel.drew.alloc hbs _).grown hgrow (by simp; omega) (fun k hk => (hlt0 k hk).1)
      have HF4 : Hid (OwnC w4 w.heap.size (.slice (some ⟨g, 0, none⟩) (l.length + 1) cap2) (l.length + 1) (l ++ [(nm, bd)]) ∧ Below w.heap.size w w4) := ⟨OwnC.more hown4, hb4⟩
      clear hown4 hgrow hat hlt0 hown hbel hone hm63 hlen hlt4 hb4 hx1 hx2 hb'
      go_wp2_with fail
      go_roundw
      case rel => exact ⟨A + 12 + N, l ++ [(nm, bd)], some ⟨g, 0, none⟩, cap2, by omega, by rw [List.length_append]; show l.length + 1 ≤ _; omega, by go_num, by rw [List.length_append]; rfl, HGN.out, by rw [List.length_append]; exact HF4.out⟩
      case measure => simp [intOf]; omega

/-- how ChunksGet of the specification ends -/
def SgAns (w : World) (s : ByteArray) (e : Ending) (w' : World) : Prop :=
  ∃ ao cap, e = .returned (.tuple #[.slice ao (Cg.ansL s).length cap, .bool (Cg.ansB s)]) ∧ Chs2 w' ao (Cg.ansL s) ∧ Below w.heap.size w w'
theorem sgAns_no {w w' : World} {s : ByteArray} {e : Ending} {ao : Option Addr} {cap : Nat} (h : Cg.ans s = none) (h1 : e = .returned (.tuple #[.slice ao 0 cap, .bool false])) (h2 : Below w.heap.size w w') : SgAns w s e w' := by
  have h3 : Cg.ansL s = [] := by unfold Cg.ansL; rw [h]; rfl
  have h4 : Cg.ansB s = false := by unfold Cg.ansB; rw [h]; rfl
  unfold SgAns
  rw [h3, h4]
  exact ⟨ao, cap, h1, .inl rfl, h2⟩
theorem sgAns_yes {w w' : World} {s : ByteArray} {e : Ending} {ao : Option Addr} {cap : Nat} (l : List (ByteArray × ByteArray)) (h : Cg.ans s = some l) (h1 : e = .returned (.tuple #[.slice ao l.length cap, .bool true])) (h3 : Chs2 w' ao l) (h2 : Below w.heap.size w w') : SgAns w s e w' := by
  have h4 : Cg.ansL s = l := by unfold Cg.ansL; rw [h]; rfl
  have h5 : Cg.ansB s = true := by unfold Cg.ansB; rw [h]; rfl
  unfold SgAns
  rw [h4, h5]
  exact ⟨ao, cap, h1, h3, h2⟩

set_option maxHeartbeats 1000000 in
theorem spec_chunksGet (s : ByteArray) (w : World) (hs : s.size ≤ 3000000) :
    Calls Try.prog 7 #[.string s] w (SgAns w s) := by
  by_cases h0 : (s.size : Int) > 9000
  · have d0 : decide ((s.size : Int) > 9000) = true := decide_eq_true h0
    have HF : Hid (Cg.ans s = none) := Cg.ans_no fun h => by have := h.1; omega
    go_enter Try.func7, Try.ntmps7
    go_wp2_with fail
    exact bodyPost_ret (v := .tuple #[.slice (some ⟨w.heap.size, 0, none⟩) 0 0, .bool false]) (by simp [results, Try.results7, go_sem]) rfl (sgAns_no HF.out rfl ((Below.refl _ _).alloc (Nat.le_refl _) _))
  · have d0 : decide ((s.size : Int) > 9000) = false := decide_eq_false h0
    have HSP : Hid (Calls Try.prog 23 #[.string s] w (SpEnd w s)) := l9Split_any s w (by omega)
    go_enter Try.func7, Try.ntmps7
    go_wp2_with fail
    refine HSP.out.mono ?_
    rintro e w1 ⟨b1, (⟨hn, v, rfl⟩ | ⟨l, hl, ao, cap, rfl, hc⟩)⟩
    · have HF : Hid (SgAns w s (.returned (.tuple #[.slice (some ⟨w1.heap.size, 0, none⟩) 0 0, .bool false])) (w1.alloc (.cells #[] 46))) := sgAns_no hn rfl (b1.alloc b1.size _)
      clear HSP hn b1
      go_wp2_with fail
      exact bodyPost_ret (v := .tuple #[.slice (some ⟨w1.heap.size, 0, none⟩) 0 0, .bool false]) (by simp [results, Try.results7, go_sem]) rfl HF.out
    · have HF : Hid (SgAns w s (.returned (.tuple #[.slice ao l.length cap, .bool true])) w1) := sgAns_yes l hl rfl hc b1
      clear HSP hl b1 hc
      go_wp2_with fail
      exact bodyPost_ret (v := .tuple #[.slice ao l.length cap, .bool true]) (by simp [results, Try.results7, go_sem]) rfl HF.out
end Go.Proofs.Ytgbcjkpmiceddaa
