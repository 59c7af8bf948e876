/- Texts laid together: ZpSpec, DrawZg, LawZg. -/
import Derived.Test.YtejebodgfoihkabGreatVFZlibGetDfTopS
import Derived.Test.YtejebodgfoihkabGreatKFZlibGetx4
import Derived.Test.YtejebodgfoihkabGreatKFZlibGetx0
import Derived.Test.YtejebodgfoihkabGreatVFZlibGetPutWalks
import Derived.Test.YtejebodgfoihkabGreatKFZlibGetx3
/- ZlibPut of the specification. -/
namespace Go.Proofs.YtejebodgfoihkabGreat
open Go.RowKit

theorem bytes_size (T : List Nat) : (Df.bytes T).size = T.length := by simp [Df.bytes, ByteArray.size]
def zpText (T : ByteArray) (A : Nat) : ByteArray := (⟨#[120, 1]⟩ ++ T) ++ ⟨(Pt.num A 4 true).toArray⟩
def ZpTop (s : ByteArray) (k : Int) (w : World) (e : Ending) (w' : World) : Prop :=
  (if s.size ≤ 5000 ∧ 0 ≤ k ∧ k ≤ 2 then ∃ T, e = .returned (.string (zpText (Df.bytes T) (Ad.more 1 s.data.toList).toNat)) ∧ Df.Packed s k.toNat T else e = .returned (.string ⟨#[]⟩)) ∧ Below w.heap.size w w'
theorem zz_two : (⟨((Pt.low 30721 2).reverse).toArray⟩ : ByteArray) = ⟨#[120, 1]⟩ := by decide +kernel
set_option maxHeartbeats 2000000 in
set_option maxRecDepth 20000 in
theorem spec_zlibPut (s : ByteArray) (k : Int) (w : World) (hsm : s.size ≤ maxLen) : Calls Tryz.prog 19 #[.string s, .int .i64 k] w (ZpTop s k w) := by
  have HL : Hid (∀ w : World, Calls Tryz.prog 27 #[.int .i64 k, .int .i64 0, .int .i64 2] w fun e w' => e = .returned (.bool (decide (0 ≤ k ∧ k ≤ 2))) ∧ w' = w) := fun w => by
    by_cases h : 0 ≤ k ∧ k ≤ 2
    · rw [decide_eq_true h]; exact l1In_yes k 0 2 w h.1 h.2
    · rw [decide_eq_false h]; exact l1In_no k 0 2 w h
  have HAD : Hid (∀ w, Calls Tryz.prog 30 #[.string s] w fun e w' => e = .returned (.int .i64 (Ad.more 1 s.data.toList)) ∧ w' = w) := fun w => spec_adler32 s w hsm
  have hab := Ad.more_bounds 1 s.data.toList
  obtain ⟨A, hA⟩ := Int.eq_ofNat_of_zero_le hab.1
  have HAA : Hid ((Ad.more 1 s.data.toList).toNat = A) := by show _ = _; rw [hA]; rfl
  rw [hA] at HAD hab
  have HNM : Hid (∀ w, Calls Tryz.prog 46 #[.int .i64 (A : Int), .int .i64 4, .bool true] w fun e w' => e = .returned (.string ⟨(Pt.num A 4 true).toArray⟩) ∧ Below w.heap.size w w') := fun w => l1Num_big A 4 w (by omega) (by omega)
  have HZZ : Hid (∀ w, Calls Tryz.prog 46 #[.int .i64 30721, .int .i64 2, .bool true] w fun e w' => e = .returned (.string ⟨#[120, 1]⟩) ∧ Below w.heap.size w w') := fun w => by
    have h := l1Num_big 30721 2 w (by omega) (by omega)
    rw [zz_two] at h
    exact h
  have hn4 : (ByteArray.mk (Pt.num A 4 true).toArray).size = 4 := by simp [ByteArray.size, Pt.num_len]
  clear hab hA
  by_cases hs : s.size ≤ 5000
  · have hsi : ¬ (5000 : Int) < (s.size : Int) := by omega
    by_cases hk : 0 ≤ k ∧ k ≤ 2
    · have HC : Hid (s.size ≤ 5000 ∧ 0 ≤ k ∧ k ≤ 2) := ⟨hs, hk⟩
      have HDF : Hid (∀ w : World, Calls Tryz.prog 44 #[.string s, .int .i64 k] w (DefTop s k w)) := fun w => by
        rcases (by omega : k = 0 ∨ k = 1 ∨ k = 2) with rfl | rfl | rfl
        · refine (l5Deflate_0 s w hs).mono (fun e w' h => ⟨?_, h.2⟩); rw [if_pos ⟨hs, by decide⟩]; exact h.1
        · refine (l5Deflate_1 s w hs).mono (fun e w' h => ⟨?_, h.2⟩); rw [if_pos ⟨hs, by decide⟩]; exact h.1
        · refine (l5Deflate_2 s w hs).mono (fun e w' h => ⟨?_, h.2⟩); rw [if_pos ⟨hs, by decide⟩]; exact h.1
      rw [decide_eq_true hk] at HL
      have hs5 := hs
      clear hk hs
      go_enter Tryz.func19, Tryz.ntmps19
      go_wp2_with fail
      refine (HL.out _).mono ?_
      rintro e w1 ⟨rfl, hw1⟩
      replace hw1 := hw1.symm
      subst hw1
      go_wp2_with fail
      refine (HZZ.out _).mono ?_
      rintro e w1 ⟨rfl, b1⟩
      have HB1 : Hid (Below w.heap.size w w1) := b1
      clear b1
      go_wp2_with fail
      refine (HDF.out _).mono ?_
      rintro e w2 ⟨h1, b2⟩
      rw [if_pos HC.out] at h1
      obtain ⟨T, rfl, hp⟩ := h1
      have HP : Hid (Df.Packed s k.toNat T ∧ Below w.heap.size w w2) := ⟨hp, HB1.out.trans (b2.mono HB1.out.size)⟩
      obtain ⟨l1, l2⟩ := packed_len hs5 hp
      rw [← bytes_size] at l1 l2
      obtain ⟨X, hX⟩ : ∃ X, X = Df.bytes T := ⟨_, rfl⟩
      have HX : Hid (X = Df.bytes T) := hX
      rw [← hX] at l1 l2 ⊢
      have z0 : (⟨#[120, 1]⟩ : ByteArray).size = 2 := rfl
      have z1 : ((⟨#[120, 1]⟩ : ByteArray) ++ X).size = X.size + 2 := by rw [ByteArray.size_append]; show 2 + _ = _; omega
      clear hX hp b2 HB1
      go_wp2_with fail
      refine (HAD.out _).mono ?_
      rintro e w3 ⟨rfl, hw3⟩
      replace hw3 := hw3.symm
      subst hw3
      go_wp2_with fail
      refine (HNM.out _).mono ?_
      rintro e w3 ⟨rfl, b3⟩
      have HE : Hid (ZpTop s k w (.returned (.string ((⟨#[120, 1]⟩ ++ X) ++ ⟨(Pt.num A 4 true).toArray⟩))) w3) := by
        refine ⟨?_, HP.out.2.trans (b3.mono HP.out.2.size)⟩
        rw [if_pos HC.out]
        exact ⟨T, by rw [HX.out, HAA.out]; rfl, HP.out.1⟩
      clear b3
      go_wp2_with fail
      go_ret
      exact HE.out
    · have HE : Hid (∀ e, e = .returned (.string ⟨#[]⟩) → ZpTop s k w e w) := fun e he => ⟨by rw [if_neg (fun h => hk h.2)]; exact he, Below.refl _ _⟩
      rw [decide_eq_false hk] at HL
      clear hk hs
      go_enter Tryz.func19, Tryz.ntmps19
      go_wp2_with fail
      refine (HL.out _).mono ?_
      rintro e w1 ⟨rfl, hw1⟩
      replace hw1 := hw1.symm
      subst hw1
      go_wp2_with fail
      go_ret
      exact HE.out _ rfl
  · have hsi : (5000 : Int) < (s.size : Int) := by omega
    have HE : Hid (∀ e, e = .returned (.string ⟨#[]⟩) → ZpTop s k w e w) := fun e he => ⟨by rw [if_neg (fun h => hs h.1)]; exact he, Below.refl _ _⟩
    clear hs HL
    go_enter Tryz.func19, Tryz.ntmps19
    go_wp2_with fail
    go_ret
    exact HE.out _ rfl
end Go.Proofs.YtejebodgfoihkabGreat

/- A text of RFC 1950 and a limit, drawn of a code. -/
namespace Go.Proofs.YtejebodgfoihkabGreat
open Go.RowKit

/-- how DrawZlibGet ends -/
def ZgDrawn (w : World) (e : Ending) (w' : World) : Prop := (∃ (t : ByteArray) (lm : Int), e = .returned (.tuple #[.string t, .int .i64 lm]) ∧ t.size ≤ 40000) ∧ Below w.heap.size w w'
theorem zpText_size (T : ByteArray) (A : Nat) : (zpText T A).size ≤ T.size + 10 := by
  unfold zpText
  rw [ByteArray.size_append, ByteArray.size_append]
  have h1 : (⟨#[120, 1]⟩ : ByteArray).size = 2 := rfl
  have h2 : (⟨(Pt.num A 4 true).toArray⟩ : ByteArray).size ≤ 4 := by
    simp only [ByteArray.size, List.size_toArray]
    unfold Pt.num
    rw [if_pos rfl, List.length_reverse, Pt.low_len]
    exact Nat.le_refl _
  omega
theorem zp_size {s : ByteArray} {k : Int} {w w' : World} {e : Ending} (h : ZpTop s k w e w') : (∃ t : ByteArray, e = .returned (.string t) ∧ t.size ≤ 20010) ∧ Below w.heap.size w w' := by
  refine ⟨?_, h.2⟩
  have h1 := h.1
  split at h1
  · rename_i hk
    obtain ⟨T, h2, h3⟩ := h1
    refine ⟨_, h2, ?_⟩
    have a1 := zpText_size (Df.bytes T) (Ad.more 1 s.data.toList).toNat
    have a2 := (packed_len hk.1 h3).2
    rw [bytes_size] at a1
    omega
  · exact ⟨_, h1, by decide⟩
/-- the draw so far -/
def ZgAt (w w' : World) (B q : Nat) : Prop := RdAt w' B q ∧ Below B w w' ∧ B = w.heap.size

set_option linter.unusedSimpArgs false in
set_option maxHeartbeats 4000000 in
set_option maxRecDepth 20000 in
theorem drawZlibGet_any (a : Option Addr) (len cap : Nat) (w : World) (h : Code8 w a len cap) :
    Calls Tryz.prog 6 #[.slice a len cap] w (ZgDrawn w) := by
  have HOP : Hid (Calls Tryz.prog 20 #[.slice a len cap] w fun e w' => e = .returned (.pointer (some ⟨w.heap.size, 0, none⟩)) ∧ RdAt w' w.heap.size 0 ∧ Below w.heap.size w w') := open_any a len cap w h
  have HZP : Hid (∀ (s : ByteArray) (k : Int) (w : World), s.size ≤ maxLen → Calls Tryz.prog 19 #[.string s, .int .i64 k] w fun e w' => (∃ t : ByteArray, e = .returned (.string t) ∧ t.size ≤ 20010) ∧ Below w.heap.size w w') := fun s k w hs => by
    refine (spec_zlibPut s k w hs).mono ?_
    intro e w' h
    exact zp_size h
  clear h
  go_enter Tryz.func6, Tryz.ntmps6
  go_wp2_with fail
  refine HOP.out.mono ?_
  rintro e w1 ⟨rfl, hR1, b1⟩
  obtain ⟨B, hB⟩ : ∃ B, B = w.heap.size := ⟨_, rfl⟩
  rw [← hB] at hR1 b1 ⊢
  have H1 : Hid (ZgAt w w1 B 0) := ⟨hR1, b1, hB⟩
  clear hR1 b1 HOP hB
  go_wp2_with fail
  refine (text_any B 0 w1 H1.out.1 (by omega)).mono ?_
  rintro e w2 ⟨⟨t1, rfl, ht1⟩, ⟨q2, hq2, hR2⟩, hO2⟩
  have H2 : Hid (ZgAt w w2 B q2) := ⟨hR2, H1.out.2.1.trans hO2.below, H1.out.2.2⟩
  clear hR2 hO2 H1
  go_wp2_with fail
  refine (pick_named B q2 _ _ H2.out.1 (by omega) (by omega) (by omega)).mono ?_
  rintro e w3 ⟨k, rfl, hk, hR3, hO3, -⟩
  have H3 : Hid (ZgAt w w3 B (q2 + 1)) := ⟨hR3, H2.out.2.1.trans hO3.below, H2.out.2.2⟩
  clear hR3 hO3 H2
  go_wp2_with fail
  refine (HZP.out t1 (k : Int) w3 (by unfold maxLen; omega)).mono ?_
  rintro e w4 ⟨⟨s, rfl, hs⟩, b4⟩
  have H4 : Hid (ZgAt w w4 B (q2 + 1)) := ⟨H3.out.1.kept (b4.mono H3.out.1.lt), H3.out.2.1.trans (b4.mono (Nat.le_of_lt H3.out.1.lt)), H3.out.2.2⟩
  clear b4 H3 HZP
  go_wp2_with fail
  refine (pick_named B (q2 + 1) _ _ H4.out.1 (by omega) (by omega) (by omega)).mono ?_
  rintro e w5 ⟨j, rfl, hj, hR5, hO5, -⟩
  have H5 : Hid (ZgAt w w5 B (q2 + 1 + 1)) := ⟨hR5, H4.out.2.1.trans hO5.below, H4.out.2.2⟩
  clear hR5 hO5 H4
  have hj6 : j = 0 ∨ j = 1 ∨ j = 2 ∨ 3 ≤ j := by omega
  rcases hj6 with rfl | rfl | rfl | hj3
  · have HBD : Hid (Calls Tryz.prog 23 #[.pointer (some ⟨B, 0, none⟩), .string s] w5 fun e w' => (∃ t : ByteArray, e = .returned (.string t) ∧ t.size = s.size) ∧ (∃ q, q ≤ q2 + 1 + 1 + 2 ∧ RdAt w' B q) ∧ Only B w5 w') := l14Bend_any B (q2 + 1 + 1) s w5 H5.out.1 (by omega) (by omega)
    go_wp2_with fail
    refine HBD.out.mono ?_
    rintro e w6 ⟨⟨t, rfl, ht⟩, ⟨q6, hq6, hR6⟩, hO6⟩
    have H6 : Hid (ZgAt w w6 B q6) := ⟨hR6, H5.out.2.1.trans hO6.below, H5.out.2.2⟩
    clear hR6 hO6 HBD H5
    go_wp2_with fail
    refine (l14Limit_any B q6 w6 H6.out.1 (by omega)).mono ?_
    rintro e w7 ⟨⟨lm, rfl⟩, hR7, hO7⟩
    have HF : Hid (ZgDrawn w (.returned (.tuple #[.string t, .int .i64 lm])) w7) := ⟨⟨t, lm, rfl, by omega⟩, by rw [← H6.out.2.2]; exact H6.out.2.1.trans hO7.below⟩
    clear hR7 hO7 H6
    go_wp2_with fail
    go_ret2
    exact HF.out
  · have hs1 : (1 : Int) ≤ (s.size : Int) + 1 := by omega
    go_wp2_with fail
    refine (pick_named B (q2 + 1 + 1) _ _ H5.out.1 (by omega) (by omega) (by omega)).mono ?_
    rintro e w6 ⟨c, rfl, hc, hR6, hO6, -⟩
    have hcs : c ≤ s.size := by omega
    have hcsi : (c : Int) ≤ (s.size : Int) := by omega
    have H6 : Hid (ZgAt w w6 B (q2 + 1 + 1 + 1)) := ⟨hR6, H5.out.2.1.trans hO6.below, H5.out.2.2⟩
    clear hR6 hO6 H5 hs1
    go_wp2_with fail
    refine (l14Limit_any B (q2 + 1 + 1 + 1) w6 H6.out.1 (by omega)).mono ?_
    rintro e w7 ⟨⟨lm, rfl⟩, hR7, hO7⟩
    have HF : Hid (∀ t : ByteArray, t.size ≤ 40000 → ZgDrawn w (.returned (.tuple #[.string t, .int .i64 lm])) w7) := fun t ht => ⟨⟨t, lm, rfl, ht⟩, by rw [← H6.out.2.2]; exact H6.out.2.1.trans hO7.below⟩
    clear hR7 hO7 H6
    go_wp2_with fail
    go_ret2
    exact HF.out _ (by rw [ByteArray.size_extract]; omega)
  · obtain ⟨L, hL⟩ : ∃ L, L = w5.heap.size := ⟨_, rfl⟩
    have hBL : B < L := by have := H5.out.1.lt; omega
    have HOF : Hid (Calls Tryz.prog 24 #[.pointer (some ⟨B, 0, none⟩), .slice (some ⟨L, 0, none⟩) 2 2] (w5.alloc (.cells #[.string ⟨#[]⟩, .string ⟨#[120]⟩] 9)) fun e w' => (∃ t : ByteArray, e = .returned (.string t) ∧ t.size ≤ 10) ∧ RdAt w' B (q2 + 1 + 1 + 1) ∧ Only B (w5.alloc (.cells #[.string ⟨#[]⟩, .string ⟨#[120]⟩] 9)) w') :=
      of_list B (q2 + 1 + 1) L 2 [⟨#[]⟩, ⟨#[120]⟩] _ (H5.out.1.alloc _) (by omega) hBL rfl (by omega) (by omega) (fun i hi => by
        have hh : (w5.alloc (.cells #[.string ⟨#[]⟩, .string ⟨#[120]⟩] 9)).heap[L]? = some (.cells #[.string ⟨#[]⟩, .string ⟨#[120]⟩] 9 (0, 0)) := by rw [hL]; exact heap_alloc_new _ _
        simp only [World.cell?, hh]
        match i, hi with
        | 0, _ => rfl
        | 1, _ => rfl) (fun t ht => by
        rcases List.mem_cons.1 ht with e | e
        · rw [e]; decide
        · rw [List.mem_singleton.1 e]; decide)
    have HL : Hid (L = w5.heap.size) := hL
    have HA5 : Hid (Below B w (w5.alloc (.cells #[.string ⟨#[]⟩, .string ⟨#[120]⟩] 9)) ∧ B = w.heap.size) := ⟨H5.out.2.1.alloc (Nat.le_of_lt H5.out.1.lt) _, H5.out.2.2⟩
    go_wp2_with fail
    rw [← hL]
    clear hL
    refine HOF.out.mono ?_
    rintro e w6 ⟨⟨t, rfl, ht⟩, hR6, hO6⟩
    have H6 : Hid (ZgAt w w6 B (q2 + 1 + 1 + 1)) := ⟨hR6, HA5.out.1.trans hO6.below, HA5.out.2⟩
    have hlen : ¬ 9223372036854775807 < s.size + t.size := by omega
    clear hR6 hO6 H5 HOF HA5
    go_wp2_with fail
    refine (l14Limit_any B (q2 + 1 + 1 + 1) w6 H6.out.1 (by omega)).mono ?_
    rintro e w7 ⟨⟨lm, rfl⟩, hR7, hO7⟩
    have HF : Hid (∀ t : ByteArray, t.size ≤ 40000 → ZgDrawn w (.returned (.tuple #[.string t, .int .i64 lm])) w7) := fun t ht => ⟨⟨t, lm, rfl, ht⟩, by rw [← H6.out.2.2]; exact H6.out.2.1.trans hO7.below⟩
    clear hR7 hO7 H6
    go_wp2_with fail
    go_ret2
    exact HF.out _ (by rw [ByteArray.size_append]; omega)
  · have n0 : ((j : Int) == 0) = false := by simp; omega
    have n1 : ((j : Int) == 1) = false := by simp; omega
    have n2 : ((j : Int) == 2) = false := by simp; omega
    go_wp2_with fail
    refine (l14Limit_any B (q2 + 1 + 1) w5 H5.out.1 (by omega)).mono ?_
    rintro e w7 ⟨⟨lm, rfl⟩, hR7, hO7⟩
    have HF : Hid (ZgDrawn w (.returned (.tuple #[.string s, .int .i64 lm])) w7) := ⟨⟨s, lm, rfl, by omega⟩, by rw [← H5.out.2.2]; exact H5.out.2.1.trans hO7.below⟩
    clear hR7 hO7 H5
    go_wp2_with fail
    go_ret2
    exact HF.out
end Go.Proofs.YtejebodgfoihkabGreat

/- The law on ZlibGet, walked. -/
namespace Go.Proofs.YtejebodgfoihkabGreat
open Go.RowKit

theorem zget_ok {s : ByteArray} {lim : Int} {L : List UInt8} (h : Nf.zget s lim = .ok L) : ∃ (M q : Nat) (ks : List Int), lim = (M : Int) ∧ M ≤ 5000 ∧ s.size ≤ 9000 ∧ Nf.inflate (s.extract 2 s.size) M = .ok ((L, q), ks) ∧ s.size = 2 + (q + 7) / 8 + 4 ∧ ((Nf.sumAt s ((q + 7) / 8) : Nat) : Int) = Ad.more 1 L := by
  unfold Nf.zget at h
  split at h
  · rename_i hv
    split at h
    · cases h
    · split at h
      · unfold Nf.ztail at h
        split at h
        · cases h
        · rename_i L2 q ks hi
          split at h
          · split at h
            · rename_i hh
              cases h
              exact ⟨lim.toNat, q, ks, by omega, by omega, hv.1, hi, hh.1, hh.2⟩
            · cases h
          · cases h
      · cases h
  · cases h
theorem zget_c0 {s : ByteArray} {lim : Int} {c : Nat} (h : Nf.zget s lim = .error c) : c ≠ 0 := by
  unfold Nf.zget at h
  split at h
  · split at h
    · cases h; decide
    · split at h
      · unfold Nf.ztail at h
        split at h
        · rename_i c' hc
          cases h
          exact inf_c0 hc
        · split at h
          · split at h
            · cases h
            · cases h; decide
          · cases h; decide
      · cases h; decide
  · cases h; decide
theorem empty_zg : (ByteArray.mk #[]).toList.isEmpty = true := by decide +kernel
theorem empty_zq : ((ByteArray.mk #[]).toList == (ByteArray.mk #[]).toList) = true := by decide +kernel

set_option linter.unusedSimpArgs false in
set_option maxHeartbeats 4000000 in
set_option maxRecDepth 20000 in
theorem lawZlibGet (a : Option Addr) (len cap : Nat) (w : World) (h : Code8 w a len cap) :
    Calls Tryz.prog 3 #[.slice a len cap] w fun e w' => e = .returned (.bool true) ∧ Below w.heap.size w w' := by
  by_cases hbig : 1048576 < len
  · have d0 : decide ((len : Int) > 1048576) = true := by simp; omega
    clear h
    go_enter Tryz.func3, Tryz.ntmps3
    go_wp2_with fail
    go_ret
    exact ⟨rfl, Below.refl _ _⟩
  have HDR : Hid (Calls Tryz.prog 6 #[.slice a len cap] w (ZgDrawn w)) := drawZlibGet_any a len cap w h
  have d0 : decide ((len : Int) > 1048576) = false := by simp; omega
  clear h
  go_enter Tryz.func3, Tryz.ntmps3
  go_wp2_with fail
  refine HDR.out.mono ?_
  rintro e w1 ⟨⟨s, lm, rfl, hs⟩, b1⟩
  have B1 : Hid (Below w.heap.size w w1) := b1
  clear b1 HDR
  have hem := empty_zg
  have heq := empty_zq
  cases hR : Nf.zget s lm with
  | error c =>
    have hc0 := zget_c0 hR
    have hcb : ((c : Int) != 0) = true := by simp; omega
    have HI : Hid (∀ w : World, Calls Tryz.prog 7 #[.string s, .int .i64 lm] w fun e w' => e = .returned (.tuple #[.string ⟨#[]⟩, .int .i64 (c : Int)]) ∧ Below w.heap.size w w') := fun w => by have := impl_zlibGet s lm w (by omega); rw [hR] at this; exact this
    have HS : Hid (∀ w : World, Calls Tryz.prog 8 #[.string s, .int .i64 lm] w fun e w' => e = .returned (.tuple #[.string ⟨#[]⟩, .int .i64 (c : Int)]) ∧ Below w.heap.size w w') := fun w => by have := spec_zlibGet s lm w (by omega); rw [hR] at this; exact this
    clear hR hc0
    generalize ByteArray.mk #[] = E at *
    go_wp2_with fail
    refine (HI.out _).mono ?_
    rintro e w2 ⟨rfl, b2⟩
    have B2 : Hid (Below w.heap.size w w2) := B1.out.trans (b2.mono B1.out.size)
    clear b2 B1
    go_wp2_with fail
    refine (HS.out _).mono ?_
    rintro e w3 ⟨rfl, b3⟩
    have B3 : Hid (Below w.heap.size w w3) := B2.out.trans (b3.mono B2.out.size)
    clear b3 B2
    go_wp2_with fail
    go_ret
    exact ⟨rfl, B3.out⟩
  | ok L =>
    obtain ⟨M, q, ks, rfl, hM, hs9, hin, hsz, hsum⟩ := zget_ok hR
    have hLM := (inf_le hin).2
    obtain ⟨O, hO⟩ : ∃ O : ByteArray, O = ⟨L.toArray⟩ := ⟨_, rfl⟩
    have hOs : O.size = L.length := by rw [hO]; simp [ByteArray.size]
    have hOl : O.data.toList = L := by rw [hO]
    have HI : Hid (∀ w : World, Calls Tryz.prog 7 #[.string s, .int .i64 (M : Int)] w fun e w' => e = .returned (.tuple #[.string O, .int .i64 0]) ∧ Below w.heap.size w w') := fun w => by have := impl_zlibGet s (M : Int) w (by omega); rw [hR] at this; rw [hO]; exact this
    have HS : Hid (∀ w : World, Calls Tryz.prog 8 #[.string s, .int .i64 (M : Int)] w fun e w' => e = .returned (.tuple #[.string O, .int .i64 0]) ∧ Below w.heap.size w w') := fun w => by have := spec_zlibGet s (M : Int) w (by omega); rw [hR] at this; rw [hO]; exact this
    obtain ⟨u, hu⟩ : ∃ u : Nat, u = (q + 7) / 8 := ⟨_, rfl⟩
    rw [← hu] at hsz hsum
    obtain ⟨t, ht⟩ : ∃ t, t = s.extract 2 s.size := ⟨_, rfl⟩
    have hts : t.size = s.size - 2 := by rw [ht, ByteArray.size_extract]; omega
    have hex : s.extract 2 s.size = t := ht.symm
    rw [← ht] at hin
    have HI2 : Hid (∀ w : World, Calls Tryz.prog 10 #[.string t, .int .i64 (M : Int)] w fun e w' => e = .returned (.tuple #[.string O, .int .i64 (u : Int), .int .i64 0]) ∧ Below w.heap.size w w') := fun w => by
      have h1 := impl_inflate t (M : Int) w (by omega)
      rw [infV_ok ((Nf.res_ok (by omega) hM).trans hin), ← hu, ← hO] at h1
      exact h1
    obtain ⟨A, hA⟩ : ∃ A : Nat, A = s.size - 4 := ⟨_, rfl⟩
    have hAi : (s.size : Int) - 4 = (A : Int) := by omega
    have hAw : IntKind.i64.wrap ((s.size : Int) - 4) = (A : Int) := by rw [hAi]; exact wrap_i64_nat A (by omega)
    have hui : (s.size : Int) - 6 = (u : Int) := by omega
    have huw : IntKind.i64.wrap ((s.size : Int) - 6) = (u : Int) := by rw [hui]; exact wrap_i64_nat u (by omega)
    obtain ⟨X, hX⟩ : ∃ X, X = Ad.more 1 L := ⟨_, rfl⟩
    have HNG : Hid (∀ w : World, Calls Tryz.prog 9 #[.string s, .int .i64 (A : Int), .int .i64 4, .bool true] w fun e w' => e = .returned (.tuple #[.int .i64 X, .bool true]) ∧ Below w.heap.size w w') := fun w => by
      have h1 := impl_numGet_high s A 4 w (by omega) (by omega) (by omega) (by omega)
      have e : Nm.big (fun i => byteAt s (A + i)) 4 = Nf.sumAt s u := by rw [show A = 2 + u by omega]; rfl
      rw [e, hsum, ← hX] at h1
      exact h1
    have HAD : Hid (∀ w : World, Calls Tryz.prog 11 #[.string O] w fun e w' => e = .returned (.int .i64 X) ∧ Below w.heap.size w w') := fun w => by
      have h1 := impl_adler32 O w (by rw [hOs]; unfold maxLen; omega)
      rw [hOl, ← hX] at h1
      exact h1
    have hoo : (O.toList == O.toList) = true := by simp
    have h2s : (2 : Int) ≤ (s.size : Int) := by omega
    have hub : u ≤ 9000 := by omega
    clear hA hR hin hsum hO hOs hOl ht hts hX hu hsz
    go_wp2_with fail
    refine (HI.out _).mono ?_
    rintro e w2 ⟨rfl, b2⟩
    have B2 : Hid (Below w.heap.size w w2) := B1.out.trans (b2.mono B1.out.size)
    clear b2 B1
    go_wp2_with fail
    refine (HS.out _).mono ?_
    rintro e w3 ⟨rfl, b3⟩
    have B3 : Hid (Below w.heap.size w w3) := B2.out.trans (b3.mono B2.out.size)
    clear b3 B2
    go_wp2_with fail
    refine (HNG.out _).mono ?_
    rintro e w4 ⟨rfl, b4⟩
    have B4 : Hid (Below w.heap.size w w4) := B3.out.trans (b4.mono B3.out.size)
    clear b4 B3
    go_wp2_with fail
    refine (HI2.out _).mono ?_
    rintro e w5 ⟨rfl, b5⟩
    have B5 : Hid (Below w.heap.size w w5) := B4.out.trans (b5.mono B4.out.size)
    clear b5 B4
    go_wp2_with fail
    refine (HAD.out _).mono ?_
    rintro e w6 ⟨rfl, b6⟩
    have B6 : Hid (Below w.heap.size w w6) := B5.out.trans (b6.mono B5.out.size)
    clear b6 B5
    go_wp2_with fail
    go_ret
    exact ⟨rfl, B6.out⟩
end Go.Proofs.YtejebodgfoihkabGreat
