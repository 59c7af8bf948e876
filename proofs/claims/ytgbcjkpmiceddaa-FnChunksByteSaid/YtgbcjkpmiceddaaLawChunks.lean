/- The law of pieces, walked. -/
import Derived.Test.YtgbcjkpmiceddaaDrawChunks2
import Derived.Test.YtgbcjkpmiceddaaCgImpl
import Derived.Test.YtgbcjkpmiceddaaCgSpec
import Derived.Test.YtgbcjkpmiceddaaChImpl
import Derived.Test.YtgbcjkpmiceddaaCgBack
namespace Go.Proofs.Ytgbcjkpmiceddaa
open Go.RowKit

theorem Cg.ansL_of {s : ByteArray} {l : List (ByteArray × ByteArray)} (h : Cg.ans s = some l) : Cg.ansL s = l ∧ Cg.ansB s = true := ⟨by unfold Cg.ansL; rw [h]; rfl, by unfold Cg.ansB; rw [h]; rfl⟩
theorem Cg.ansL_no {s : ByteArray} (h : Cg.ans s = none) : Cg.ansL s = [] ∧ Cg.ansB s = false := ⟨by unfold Cg.ansL; rw [h]; rfl, by unfold Cg.ansB; rw [h]; rfl⟩
theorem Cg.ans_sizes {s : ByteArray} {l : List (ByteArray × ByteArray)} (h : Cg.ans s = some l) : ∀ p ∈ l, p.1.size ≤ 9000 ∧ p.2.size ≤ 9000 := by
  have hok : Ch.ok 8 l = true := by
    by_cases hv : Cg.Valid s
    · rw [Cg.ans_ok hv] at h
      have h0 : Ch.out [] = s.data.toList.take 8 := by
        have := hv.2.2
        have e := Cg.ext_list s 0 8
        rw [this] at e
        show Ch.sign ++ [] = _
        rw [List.append_nil]
        exact e
      exact (Cg.forth s hv.1 _ 8 [] l (Nat.le_refl _) hv.2.1 h0 rfl h).1
    · rw [Cg.ans_no hv] at h; cases h
  have aux : ∀ (l : List (ByteArray × ByteArray)) (n : Nat), Ch.ok n l = true → ∀ p ∈ l, p.1.size ≤ 9000 ∧ p.2.size ≤ 9000 := by
    intro l
    induction l with
    | nil => intro n _ p hp; cases hp
    | cons q l ih =>
      intro n ho p hp
      have ho' : (Ch.name q.1 && (decide (n + 12 + q.2.size ≤ 9000) && Ch.ok (n + 12 + q.2.size) l)) = true := ho
      simp only [Bool.and_eq_true, decide_eq_true_eq] at ho'
      obtain ⟨hn, hz, hr⟩ := ho'
      rw [List.mem_cons] at hp
      rcases hp with rfl | hp
      · have := Ch.name_size hn; omega
      · exact ih _ hr p hp
  exact aux l 8 hok
theorem txt_empty : (ByteArray.mk ([] : List UInt8).toArray).toList.isEmpty = true := by decide +kernel
theorem txt_full (l : List UInt8) : (ByteArray.mk (137 :: l).toArray).toList.isEmpty = false := by rw [ByteArray.toList_eq]; rfl
theorem below_drew_up (w : World) (m : Nat) : Below w.heap.size w (w.drewN m) := below_drewN (Below.refl _ _) _

set_option maxHeartbeats 4000000 in
set_option maxRecDepth 20000 in
theorem lawChunks (a : Option Addr) (len cap : Nat) (b : Option Addr) (len2 cap2 : Nat) (w : World) (h : Code8 w a len cap) (h' : Code8 w b len2 cap2) :
    Calls Try.prog 3 #[.slice a len cap, .slice b len2 cap2] w fun e w' => e = .returned (.bool true) ∧ Below w.heap.size w w' := by
  by_cases hbig : 1048576 < len
  · have d0 : decide ((len : Int) > 1048576) = true := by simp; omega
    clear h h'
    go_enter Try.func3, Try.ntmps3
    go_wp2_with fail
    go_ret
    exact ⟨rfl, Below.refl _ _⟩
  have d0 : decide ((len : Int) > 1048576) = false := by simp; omega
  by_cases hbig2 : 1048576 < len2
  · have d1 : decide ((len2 : Int) > 1048576) = true := by simp; omega
    clear h h'
    go_enter Try.func3, Try.ntmps3
    go_wp2_with fail
    go_ret
    exact ⟨rfl, Below.refl _ _⟩
  have d1 : decide ((len2 : Int) > 1048576) = false := by simp; omega
  have HD : Hid (Calls Try.prog 5 #[.slice a len cap] w (TxDrawn w)) := drawChunksGet_any a len cap w h
  have HD2 : Hid (∀ w' : World, Below w.heap.size w w' → Calls Try.prog 10 #[.slice b len2 cap2] w' (PutDrawn w')) := fun w' bb => drawChunksPut_any b len2 cap2 w' (h'.kept bb)
  clear h h'
  go_enter Try.func3, Try.ntmps3
  go_wp2_with fail
  refine HD.out.mono ?_
  rintro e w1 ⟨⟨t, rfl, htz⟩, b1⟩
  have HB1 : Hid (Below w.heap.size w w1) := b1
  clear HD b1 d0 d1 hbig hbig2
  obtain ⟨M, hM⟩ : ∃ M, M = (Cg.ansL t).length := ⟨_, rfl⟩
  have hM3 : M ≤ 9000 := by rw [hM]; exact Cg.ansL_len t
  have HSP : Hid (∀ w : World, Calls Try.prog 7 #[.string t] w fun e w' => ∃ ao cap, e = .returned (.tuple #[.slice ao M cap, .bool (Cg.ansB t)]) ∧ Chs2 w' ao (Cg.ansL t) ∧ Below w.heap.size w w') := fun w => by rw [hM]; exact spec_chunksGet t w (by omega)
  have HIM : Hid (∀ w : World, Calls Try.prog 6 #[.string t] w fun e w' => ∃ ao cap, e = .returned (.tuple #[.slice ao M cap, .bool (Cg.ansB t)]) ∧ Chs2 w' ao (Cg.ansL t) ∧ Below w.heap.size w w') := fun w => by
    rw [hM]
    refine (impl_chunksGet t w (by omega)).mono ?_
    rintro e w' ⟨ao, cp, h1, h2, h3⟩
    obtain ⟨ao', c', e', hc⟩ := h2.chs
    cases e'
    exact ⟨ao, cp, h1, hc, h3⟩
  have HM : Hid ((Cg.ansL t).length = M) := hM.symm
  clear hM
  rcases ha : Cg.ans t with _ | l0
  · obtain ⟨e1, e2⟩ := Cg.ansL_no ha
    rw [e1, e2] at HSP HIM
    rw [e1] at HM
    clear ha e1 e2
    go_wp2_with fail
    refine (HIM.out _).mono ?_
    rintro e w2 ⟨x, c2, rfl, V2, b2⟩
    have HV2 : Hid (Chs2 w2 x []) := V2
    have HB2 : Hid (Below w.heap.size w w2) := HB1.out.trans (b2.mono HB1.out.size)
    clear V2 b2
    go_wp2_with fail
    refine (HSP.out _).mono ?_
    rintro e w3 ⟨y, c3, rfl, W3, b3⟩
    have HWI : Hid (Calls Try.prog 8 #[.slice x M c2, .slice y M c3] w3 fun e w' => e = .returned (.bool true) ∧ ∃ m, w' = w3.drewN m) := wiChunks_same x c2 y c3 M [] w3 (HV2.out.kept b3) W3 HM.out (by omega)
    have HB3 : Hid (Below w.heap.size w w3) := HB2.out.trans (b3.mono HB2.out.size)
    clear W3 b3 HV2 HSP HIM HB1 HB2
    go_wp2_with fail
    refine HWI.out.mono ?_
    rintro e w5 ⟨rfl, m, hm⟩
    have HB5 : Hid (Below w.heap.size w w5) := by rw [hm]; exact below_drewN HB3.out m
    clear hm HB3 HWI HM hM3
    go_wp2_with fail
    refine (HD2.out _ HB5.out).mono ?_
    rintro e w6 ⟨d, ao, cp, rfl, hdl, hds, hc, b6⟩
    have HC6 : Hid (Chs2 w6 ao d) := hc
    have HDS : Hid (∀ p ∈ d, p.1.size ≤ 1048576 ∧ p.2.size ≤ 1048576) := fun p hp => by have := hds p hp; omega
    have HB6 : Hid (Below w.heap.size w w6) := HB5.out.trans (b6.mono HB5.out.size)
    clear hc hds b6 HB5 HD2
    obtain ⟨S, hS⟩ : ∃ S, S = (⟨(Ch.ans d).toArray⟩ : ByteArray) := ⟨_, rfl⟩
    have hSz : S.size ≤ 9000 := by rw [hS]; exact chAns_size d
    have HIP : Hid (∀ w : World, Chs2 w ao d → Calls Try.prog 9 #[.slice ao d.length cp] w fun e w' => e = .returned (.string S) ∧ Below w.heap.size w w') := fun w hw => by rw [hS]; exact impl_chunksPut ao d.length cp d w hw rfl (by omega) HDS.out
    have HSPT : Hid (∀ w : World, Chs2 w ao d → Calls Try.prog 11 #[.slice ao d.length cp] w fun e w' => e = .returned (.string S) ∧ Below w.heap.size w w') := fun w hw => by rw [hS]; exact spec_chunksPut ao d.length cp d w hw rfl (by omega) HDS.out
    have HIG : Hid (∀ w : World, Calls Try.prog 6 #[.string S] w fun e w' => ∃ ao cap, e = .returned (.tuple #[.slice ao (Cg.ansL S).length cap, .bool (Cg.ansB S)]) ∧ Chs2 w' ao (Cg.ansL S) ∧ Below w.heap.size w w') := fun w => by
      refine (impl_chunksGet S w (by omega)).mono ?_
      rintro e w' ⟨ao, cp, h1, h2, h3⟩
      obtain ⟨ao', c', e', hc⟩ := h2.chs
      cases e'
      exact ⟨ao, cp, h1, hc, h3⟩
    by_cases hok : Ch.ok 8 d = true
    · obtain ⟨e1, e2⟩ := Cg.ansL_of (Cg.back hok)
      rw [← hS] at e1 e2
      rw [e1, e2] at HIG
      have he : S.toList.isEmpty = false := by
        rw [hS]
        unfold Ch.ans
        rw [if_pos hok]
        exact txt_full _
      clear e1 e2 hS hok HDS
      go_wp2_with fail
      refine (HIP.out _ HC6.out).mono ?_
      rintro e w7 ⟨rfl, b7⟩
      have HC7 : Hid (Chs2 w7 ao d) := HC6.out.kept b7
      have HB7 : Hid (Below w.heap.size w w7) := HB6.out.trans (b7.mono HB6.out.size)
      clear b7 HC6 HB6 HIP
      go_wp2_with fail
      refine (HIG.out _).mono ?_
      rintro e w8 ⟨bk, c8, rfl, V8, b8⟩
      have HV8 : Hid (Chs2 w8 bk d) := V8
      have HC8 : Hid (Chs2 w8 ao d) := HC7.out.kept b8
      have HB8 : Hid (Below w.heap.size w w8) := HB7.out.trans (b8.mono HB7.out.size)
      clear V8 b8 HC7 HB7 HIG
      go_wp2_with fail
      refine (HSPT.out _ HC8.out).mono ?_
      rintro e w9 ⟨rfl, b9⟩
      have HW9 : Hid (Calls Try.prog 8 #[.slice bk d.length c8, .slice ao d.length cp] w9 fun e w' => e = .returned (.bool true) ∧ ∃ m, w' = w9.drewN m) := wiChunks_same bk c8 ao cp d.length d w9 (HV8.out.kept b9) (HC8.out.kept b9) rfl (by omega)
      have HB9 : Hid (Below w.heap.size w w9) := HB8.out.trans (b9.mono HB8.out.size)
      clear b9 HC8 HV8 HB8 HSPT
      go_wp2_with fail
      refine HW9.out.mono ?_
      rintro e w10 ⟨rfl, m, hm⟩
      have HB10 : Hid (Below w.heap.size w w10) := by rw [hm]; exact below_drewN HB9.out m
      clear hm HW9 HB9
      go_wp2_with fail
      go_ret
      exact ⟨rfl, HB10.out⟩
    · obtain ⟨e1, e2⟩ := Cg.ansL_no (Cg.back_no hok)
      rw [← hS] at e1 e2
      rw [e1, e2] at HIG
      have he : S.toList.isEmpty = true := by
        rw [hS, Cg.put_no hok]
        exact txt_empty
      clear e1 e2 hS hok HDS
      go_wp2_with fail
      refine (HIP.out _ HC6.out).mono ?_
      rintro e w7 ⟨rfl, b7⟩
      have HC7 : Hid (Chs2 w7 ao d) := HC6.out.kept b7
      have HB7 : Hid (Below w.heap.size w w7) := HB6.out.trans (b7.mono HB6.out.size)
      clear b7 HC6 HB6 HIP
      go_wp2_with fail
      refine (HIG.out _).mono ?_
      rintro e w8 ⟨bk, c8, rfl, V8, b8⟩
      have HC8 : Hid (Chs2 w8 ao d) := HC7.out.kept b8
      have HB8 : Hid (Below w.heap.size w w8) := HB7.out.trans (b8.mono HB7.out.size)
      clear V8 b8 HC7 HB7 HIG
      go_wp2_with fail
      refine (HSPT.out _ HC8.out).mono ?_
      rintro e w9 ⟨rfl, b9⟩
      have HB9 : Hid (Below w.heap.size w w9) := HB8.out.trans (b9.mono HB8.out.size)
      clear b9 HC8 HB8 HSPT
      go_wp2_with fail
      go_ret
      exact ⟨rfl, HB9.out⟩
  · obtain ⟨e1, e2⟩ := Cg.ansL_of ha
    rw [e1, e2] at HSP HIM
    rw [e1] at HM
    have HFT : Hid ((⟨(Ch.ans l0).toArray⟩ : ByteArray) = t) := Cg.forth_ans ha
    have HSZ : Hid (∀ p ∈ l0, p.1.size ≤ 1048576 ∧ p.2.size ≤ 1048576) := fun p hp => by have := Cg.ans_sizes ha p hp; omega
    have HPB : Hid (∀ (w : World) (x : Option Addr) (c : Nat), Chs2 w x l0 → Calls Try.prog 9 #[.slice x M c] w fun e w' => e = .returned (.string t) ∧ Below w.heap.size w w') := fun w x c hw => by
      have h1 := impl_chunksPut x M c l0 w hw HM.out (by omega) HSZ.out
      rw [HFT.out] at h1
      exact h1
    clear ha e1 e2 HFT HSZ
    go_wp2_with fail
    refine (HIM.out _).mono ?_
    rintro e w2 ⟨x, c2, rfl, V2, b2⟩
    have HV2 : Hid (Chs2 w2 x l0) := V2
    have HB2 : Hid (Below w.heap.size w w2) := HB1.out.trans (b2.mono HB1.out.size)
    clear V2 b2
    go_wp2_with fail
    refine (HSP.out _).mono ?_
    rintro e w3 ⟨y, c3, rfl, W3, b3⟩
    have HV3 : Hid (Chs2 w3 x l0) := HV2.out.kept b3
    have HWI : Hid (Calls Try.prog 8 #[.slice x M c2, .slice y M c3] w3 fun e w' => e = .returned (.bool true) ∧ ∃ m, w' = w3.drewN m) := wiChunks_same x c2 y c3 M l0 w3 HV3.out W3 HM.out (by omega)
    have HB3 : Hid (Below w.heap.size w w3) := HB2.out.trans (b3.mono HB2.out.size)
    clear W3 b3 HV2 HSP HIM HB1 HB2
    go_wp2_with fail
    refine HWI.out.mono ?_
    rintro e w4 ⟨rfl, m, hm⟩
    have HB4 : Hid (Below w.heap.size w w4) := by rw [hm]; exact below_drewN HB3.out m
    have HV4 : Hid (Chs2 w4 x l0) := by rw [hm]; exact HV3.out.kept (below_drew_up w3 m)
    clear hm HB3 HWI HV3
    go_wp2_with fail
    refine (HPB.out _ _ _ HV4.out).mono ?_
    rintro e w5 ⟨rfl, b5⟩
    have HB5 : Hid (Below w.heap.size w w5) := HB4.out.trans (b5.mono HB4.out.size)
    clear b5 HV4 HB4 HPB HM hM3
    go_wp2_with fail
    refine (HD2.out _ HB5.out).mono ?_
    rintro e w6 ⟨d, ao, cp, rfl, hdl, hds, hc, b6⟩
    have HC6 : Hid (Chs2 w6 ao d) := hc
    have HDS : Hid (∀ p ∈ d, p.1.size ≤ 1048576 ∧ p.2.size ≤ 1048576) := fun p hp => by have := hds p hp; omega
    have HB6 : Hid (Below w.heap.size w w6) := HB5.out.trans (b6.mono HB5.out.size)
    clear hc hds b6 HB5 HD2
    obtain ⟨S, hS⟩ : ∃ S, S = (⟨(Ch.ans d).toArray⟩ : ByteArray) := ⟨_, rfl⟩
    have hSz : S.size ≤ 9000 := by rw [hS]; exact chAns_size d
    have HIP : Hid (∀ w : World, Chs2 w ao d → Calls Try.prog 9 #[.slice ao d.length cp] w fun e w' => e = .returned (.string S) ∧ Below w.heap.size w w') := fun w hw => by rw [hS]; exact impl_chunksPut ao d.length cp d w hw rfl (by omega) HDS.out
    have HSPT : Hid (∀ w : World, Chs2 w ao d → Calls Try.prog 11 #[.slice ao d.length cp] w fun e w' => e = .returned (.string S) ∧ Below w.heap.size w w') := fun w hw => by rw [hS]; exact spec_chunksPut ao d.length cp d w hw rfl (by omega) HDS.out
    have HIG : Hid (∀ w : World, Calls Try.prog 6 #[.string S] w fun e w' => ∃ ao cap, e = .returned (.tuple #[.slice ao (Cg.ansL S).length cap, .bool (Cg.ansB S)]) ∧ Chs2 w' ao (Cg.ansL S) ∧ Below w.heap.size w w') := fun w => by
      refine (impl_chunksGet S w (by omega)).mono ?_
      rintro e w' ⟨ao, cp, h1, h2, h3⟩
      obtain ⟨ao', c', e', hc⟩ := h2.chs
      cases e'
      exact ⟨ao, cp, h1, hc, h3⟩
    by_cases hok : Ch.ok 8 d = true
    · obtain ⟨e1, e2⟩ := Cg.ansL_of (Cg.back hok)
      rw [← hS] at e1 e2
      rw [e1, e2] at HIG
      have he : S.toList.isEmpty = false := by
        rw [hS]
        unfold Ch.ans
        rw [if_pos hok]
        exact txt_full _
      clear e1 e2 hS hok HDS
      go_wp2_with fail
      refine (HIP.out _ HC6.out).mono ?_
      rintro e w7 ⟨rfl, b7⟩
      have HC7 : Hid (Chs2 w7 ao d) := HC6.out.kept b7
      have HB7 : Hid (Below w.heap.size w w7) := HB6.out.trans (b7.mono HB6.out.size)
      clear b7 HC6 HB6 HIP
      go_wp2_with fail
      refine (HIG.out _).mono ?_
      rintro e w8 ⟨bk, c8, rfl, V8, b8⟩
      have HV8 : Hid (Chs2 w8 bk d) := V8
      have HC8 : Hid (Chs2 w8 ao d) := HC7.out.kept b8
      have HB8 : Hid (Below w.heap.size w w8) := HB7.out.trans (b8.mono HB7.out.size)
      clear V8 b8 HC7 HB7 HIG
      go_wp2_with fail
      refine (HSPT.out _ HC8.out).mono ?_
      rintro e w9 ⟨rfl, b9⟩
      have HW9 : Hid (Calls Try.prog 8 #[.slice bk d.length c8, .slice ao d.length cp] w9 fun e w' => e = .returned (.bool true) ∧ ∃ m, w' = w9.drewN m) := wiChunks_same bk c8 ao cp d.length d w9 (HV8.out.kept b9) (HC8.out.kept b9) rfl (by omega)
      have HB9 : Hid (Below w.heap.size w w9) := HB8.out.trans (b9.mono HB8.out.size)
      clear b9 HC8 HV8 HB8 HSPT
      go_wp2_with fail
      refine HW9.out.mono ?_
      rintro e w10 ⟨rfl, m, hm⟩
      have HB10 : Hid (Below w.heap.size w w10) := by rw [hm]; exact below_drewN HB9.out m
      clear hm HW9 HB9
      go_wp2_with fail
      go_ret
      exact ⟨rfl, HB10.out⟩
    · obtain ⟨e1, e2⟩ := Cg.ansL_no (Cg.back_no hok)
      rw [← hS] at e1 e2
      rw [e1, e2] at HIG
      have he : S.toList.isEmpty = true := by
        rw [hS, Cg.put_no hok]
        exact txt_empty
      clear e1 e2 hS hok HDS
      go_wp2_with fail
      refine (HIP.out _ HC6.out).mono ?_
      rintro e w7 ⟨rfl, b7⟩
      have HC7 : Hid (Chs2 w7 ao d) := HC6.out.kept b7
      have HB7 : Hid (Below w.heap.size w w7) := HB6.out.trans (b7.mono HB6.out.size)
      clear b7 HC6 HB6 HIP
      go_wp2_with fail
      refine (HIG.out _).mono ?_
      rintro e w8 ⟨bk, c8, rfl, V8, b8⟩
      have HC8 : Hid (Chs2 w8 ao d) := HC7.out.kept b8
      have HB8 : Hid (Below w.heap.size w w8) := HB7.out.trans (b8.mono HB7.out.size)
      clear V8 b8 HC7 HB7 HIG
      go_wp2_with fail
      refine (HSPT.out _ HC8.out).mono ?_
      rintro e w9 ⟨rfl, b9⟩
      have HB9 : Hid (Below w.heap.size w w9) := HB8.out.trans (b9.mono HB8.out.size)
      clear b9 HC8 HB8 HSPT
      go_wp2_with fail
      go_ret
      exact ⟨rfl, HB9.out⟩
end Go.Proofs.Ytgbcjkpmiceddaa
