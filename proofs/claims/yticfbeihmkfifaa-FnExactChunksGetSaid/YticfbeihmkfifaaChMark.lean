/- Marks laid into a list of pieces, and found again. -/
import Derived.Test.YticfbeihmkfifaaChMake
import Derived.Test.YticfbeihmkfifaaStrWalks
import Derived.Below
import Derived.Deep.RegionHeld3
namespace Go.Proofs.Yticfbeihmkfifaa
open Go.RowKit

/-- a number in figures -/
def mdig (k : Nat) : List UInt8 := if k = 0 then [] else mdig (k / 10) ++ [UInt8.ofNat (48 + k % 10)]
  termination_by k
  decreasing_by omega
theorem mdig_zero : mdig 0 = [] := by rw [mdig]; rfl
theorem mdig_step {k : Nat} (h : 0 < k) : mdig k = mdig (k / 10) ++ [UInt8.ofNat (48 + k % 10)] := by rw [mdig, if_neg (by omega)]
/-- the mark of a number -/
def mtx (k : Nat) : ByteArray := ⟨(109 :: mdig k).toArray⟩
theorem mdig_le (k : Nat) : ∀ n, k ≤ n → (mdig k).length ≤ k := fun n h => by
  induction n generalizing k with
  | zero => rw [show k = 0 by omega, mdig_zero]; simp
  | succ n ih =>
    by_cases h0 : k = 0
    · rw [h0, mdig_zero]; simp
    · rw [mdig_step (by omega), List.length_append]
      have := ih (k / 10) (by omega)
      simp
      omega
theorem cat_one (c : UInt8) (l : List UInt8) : (⟨#[c]⟩ : ByteArray) ++ ⟨l.toArray⟩ = ⟨(c :: l).toArray⟩ := by
  apply ByteArray.ext
  apply Array.toList_inj.1
  rw [ByteArray.toList_data_append]
  rfl

set_option maxHeartbeats 1000000 in
theorem markText_any (k : Nat) (w : World) (h1 : 0 < k) (hk : k ≤ 100000) :
    Calls Try.prog 69 #[.int .i64 (k : Int)] w fun e w' => e = .returned (.string (mtx k)) ∧ Below w.heap.size w w' := by
  have hki : ¬ (k : Int) ≤ 0 := by omega
  go_enter Try.func69, Try.ntmps69
  go_wp2_with fail
  go_loopw [0, 3] (fun j o wr => ∃ (m : Nat) (l : List UInt8), m ≤ k ∧ j = .int .i64 (m : Int) ∧ o = .string ⟨l.toArray⟩ ∧ Hid (mdig k = mdig m ++ l) ∧ Below w.heap.size w wr) (fun j _ _ => (intOf j).toNat)
  case atStart => exact ⟨k, [], Nat.le_refl _, rfl, rfl, by show _ = _; simp, Below.refl _ _⟩
  case round =>
    obtain ⟨m, l, hm, rfl, rfl, HD, hbel⟩ := hrel
    have hll : l.length ≤ 100000 := by
      have e := congrArg List.length HD.out
      have := mdig_le k k (Nat.le_refl _)
      rw [List.length_append] at e
      omega
    by_cases h0 : 0 < m
    · have h0i : (0 : Int) < (m : Int) := by omega
      obtain ⟨c, hc⟩ : ∃ c : Nat, c = 48 + m % 10 := ⟨_, rfl⟩
      have hci : 48 + (m : Int) % 10 = (c : Int) := by omega
      have hcb : c < 256 := by omega
      have HD2 : Hid (mdig k = mdig (m / 10) ++ (UInt8.ofNat c :: l)) := by
        show _ = _
        rw [HD.out, mdig_step h0, List.append_assoc, hc]; rfl
      have htx := run_text1 wr c wr.heap.size rfl
      clear hc HD
      go_wp2_with fail
      go_roundw
      case rel => exact ⟨m / 10, UInt8.ofNat c :: l, by omega, by go_num, by rw [cat_one], HD2.out, hbel.alloc hbel.size _⟩
      case measure => simp [intOf]; omega
    · have h0i : ¬ (0 : Int) < (m : Int) := by omega
      have HL : Hid (mdig k = l) := by
        show _ = _
        rw [HD.out, show m = 0 by omega, mdig_zero]; rfl
      clear HD
      go_wp2_with fail
      go_ret
      refine ⟨?_, hbel⟩
      unfold mtx
      rw [HL.out]
      first | rfl | (rw [cat_one])

/-- what a list of pieces has behind marks from a number on -/
def mkAt (k : Nat) (n : Nat) : List (ByteArray × ByteArray) := (List.range n).map fun i => (mtx (k + i * 2), mtx (k + i * 2 + 1))
theorem mkAt_len (k n : Nat) : (mkAt k n).length = n := by simp [mkAt]
theorem mkAt_get (k n i : Nat) (h : i < (mkAt k n).length) : (mkAt k n)[i] = (mtx (k + i * 2), mtx (k + i * 2 + 1)) := by simp [mkAt]
/-- the first so many are marked -/
def mkMix (l : List (ByteArray × ByteArray)) (k : Nat) : List (ByteArray × ByteArray) := mkAt 1 k ++ l.drop k
theorem mkMix_len (l : List (ByteArray × ByteArray)) (k : Nat) (h : k ≤ l.length) : (mkMix l k).length = l.length := by
  unfold mkMix; rw [List.length_append, mkAt_len, List.length_drop]; omega
theorem mkMix_set (l : List (ByteArray × ByteArray)) (k : Nat) (h : k < l.length) : (mkMix l k).set k (mtx (1 + k * 2), mtx (1 + k * 2 + 1)) = mkMix l (k + 1) := by
  unfold mkMix
  rw [List.drop_eq_getElem_cons h, List.set_append_right _ _ (by rw [mkAt_len]; exact Nat.le_refl _), mkAt_len, Nat.sub_self, List.set_cons_zero]
  unfold mkAt
  rw [List.range_succ, List.map_append, List.append_assoc]
  rfl

set_option maxHeartbeats 1000000 in
theorem markChunks_own (g n cap lo : Nat) (l : List (ByteArray × ByteArray)) (w : World) (h : OwnC w lo (.slice (some ⟨g, 0, none⟩) n cap) n l) (hlo : lo ≤ w.heap.size) (hg : lo ≤ g) (hn : n ≤ 10000) :
    Calls Try.prog 35 #[.slice (some ⟨g, 0, none⟩) n cap, .int .i64 1] w fun e w' => e = .returned (.int .i64 ((n : Int) * 2 + 1)) ∧ OwnC w' lo (.slice (some ⟨g, 0, none⟩) n cap) n (mkAt 1 n) ∧ Below lo w w' := by
  have hl := h.len
  have HO : Hid (OwnC w lo (.slice (some ⟨g, 0, none⟩) n cap) n l) := h
  have HL : Hid (l.length = n) := hl
  clear h hl
  go_enter Try.func35, Try.ntmps35
  go_wp2_with fail
  go_loopw [1, 5] (fun x i wr => ∃ k : Nat, k ≤ n ∧ i = .int .i64 (k : Int) ∧ x = .int .i64 ((k : Int) * 2 + 1) ∧ Hid (OwnC wr lo (.slice (some ⟨g, 0, none⟩) n cap) n (mkMix l k) ∧ Below lo w wr)) (fun _ i _ => n - (intOf i).toNat)
  case atStart => exact ⟨0, Nat.zero_le _, rfl, rfl, HO.out, Below.refl _ _⟩
  case round =>
    obtain ⟨k, hk, rfl, rfl, HS⟩ := hrel
    clear HO
    by_cases hlt : k < n
    · have hki : (k : Int) < (n : Int) := by omega
      have hkl : k < l.length := by rw [HL.out]; exact hlt
      obtain ⟨K, hK⟩ : ∃ K, K = k * 2 + 1 := ⟨_, rfl⟩
      have eK : (k : Int) * 2 + 1 = (K : Int) := by omega
      have eK1 : (K : Int) + 1 = ((K + 1 : Nat) : Int) := by omega
      have hK0 : 0 < K := by omega
      have hK9 : K ≤ 50000 := by omega
      have HM1 : Hid (∀ w, Calls Try.prog 69 #[.int .i64 (K : Int)] w fun e w' => e = .returned (.string (mtx K)) ∧ Below w.heap.size w w') := fun w => markText_any K w hK0 (by omega)
      have HM2 : Hid (∀ w, Calls Try.prog 69 #[.int .i64 ((K : Int) + 1)] w fun e w' => e = .returned (.string (mtx (K + 1))) ∧ Below w.heap.size w w') := fun w => by rw [eK1]; exact markText_any (K + 1) w (by omega) (by omega)
      have HST : Hid ((mkMix l k).set k (mtx K, mtx (K + 1)) = mkMix l (k + 1)) := by
        have := mkMix_set l k hkl
        rw [show 1 + k * 2 = K by omega] at this
        exact this
      have HKK : Hid (K = k * 2 + 1) := hK
      rw [eK]
      generalize mtx K = t1 at *
      generalize mtx (K + 1) = t2 at *
      clear eK eK1 hK
      go_wp2_with fail
      refine (HM1.out _).mono ?_
      rintro e w2 ⟨rfl, b2⟩
      have hs2 : lo ≤ wr.heap.size := Nat.le_trans hlo HS.out.2.size
      have hO2 : OwnC w2 lo (.slice (some ⟨g, 0, none⟩) n cap) n (mkMix l k) := HS.out.1.same (fun j hj _ => b2.block j hj)
      have hB2 : Below lo w w2 := HS.out.2.trans (b2.mono hs2)
      have hml : (mkMix l k).length = n := by rw [mkMix_len _ _ (by omega)]; exact HL.out
      obtain ⟨y1, y2, hx1, hx2⟩ : ∃ y1 y2, (chCells (mkMix l k))[k * 2]? = some (.string y1) ∧ (chCells (mkMix l k))[k * 2 + 1]? = some (.string y2) := ⟨_, _, chCells_get (mkMix l k) k (by omega)⟩
      have HX2 : Hid ((chCells (mkMix l k))[k * 2 + 1]? = some (.string y2)) := hx2
      have g1 := (World.ownsRow.cellAt (show World.ownsRow _ _ _ _ _ _ _ from hO2) (k * 2) (by omega)).trans hx1
      have z1 := World.ownsRow.frozenAt (show World.ownsRow _ _ _ _ _ _ _ from hO2) (k * 2)
      have h1 := (World.ownsRow.stored (show World.ownsRow _ _ _ _ _ _ _ from hO2) (k * 2) (.string t1)).1
      have HO3 : Hid ((w2.setCell ⟨g, k * 2, none⟩ (.string t1)).ownsRow lo 91 2 (.slice (some ⟨g, 0, none⟩) n cap) n ((chCells (mkMix l k)).set (k * 2) (.string t1))) := h1
      have HB3 : Hid (Below lo w (w2.setCell ⟨g, k * 2, none⟩ (.string t1))) := hB2.setCell (p := ⟨g, k * 2, none⟩) hg _
      have HML : Hid ((mkMix l k).length = n) := hml
      clear h1 hO2 hB2 b2 HM1 HS hx1 hx2 hml
      go_wp2_with fail
      refine (HM2.out _).mono ?_
      rintro e w4 ⟨rfl, b4⟩
      have hs4 : lo ≤ (w2.setCell ⟨g, k * 2, none⟩ (.string t1)).heap.size := Nat.le_trans hlo HB3.out.size
      have hO4 : w4.ownsRow lo 91 2 (.slice (some ⟨g, 0, none⟩) n cap) n ((chCells (mkMix l k)).set (k * 2) (.string t1)) := by
        refine ⟨HO3.out.1, ?_⟩
        rcases HO3.out.2 with h2 | ⟨g', cp, cur, hv, hg', hh, r⟩
        · exact .inl h2
        · exact .inr ⟨g', cp, cur, hv, hg', by rw [b4.block g' (Array.getElem?_eq_some_iff.1 hh).1]; exact hh, r⟩
      have hB4 : Below lo w w4 := HB3.out.trans (b4.mono hs4)
      have hx : ((chCells (mkMix l k)).set (k * 2) (.string t1))[k * 2 + 1]? = some (.string y2) := by
        rw [List.getElem?_set_ne (by omega)]; exact HX2.out
      have g2 := (World.ownsRow.cellAt hO4 (k * 2 + 1) (by omega)).trans hx
      have z2 := World.ownsRow.frozenAt hO4 (k * 2 + 1)
      have h1 := (World.ownsRow.stored hO4 (k * 2 + 1) (.string t2)).1
      rw [chCells_set _ k _ _ (by have := HML.out; omega), HST.out] at h1
      have HF : Hid (OwnC (w4.setCell ⟨g, k * 2 + 1, none⟩ (.string t2)) lo (.slice (some ⟨g, 0, none⟩) n cap) n (mkMix l (k + 1)) ∧ Below lo w (w4.setCell ⟨g, k * 2 + 1, none⟩ (.string t2))) := ⟨h1, hB4.setCell (p := ⟨g, k * 2 + 1, none⟩) hg _⟩
      have hKf : (K : Int) + 1 + 1 = ((k + 1 : Nat) : Int) * 2 + 1 := by have := HKK.out; omega
      have HKF : Hid ((K : Int) + 1 + 1 = ((k + 1 : Nat) : Int) * 2 + 1) := hKf
      clear h1 hO4 hB4 b4 HM2 HO3 HB3 hx HX2 HML hKf g1 z1 hs2
      go_wp2_with fail
      go_roundw
      case rel => exact ⟨k + 1, by omega, by go_num, by rw [← HKF.out], HF.out⟩
      case measure => simp [intOf]; omega
    · have hki : ¬ (k : Int) < (n : Int) := by omega
      have hk' : k = n := by omega
      subst hk'
      have HF : Hid (OwnC wr lo (.slice (some ⟨g, 0, none⟩) k cap) k (mkAt 1 k) ∧ Below lo w wr) := by
        have h := HS.out
        unfold mkMix at h
        rw [List.drop_of_length_le (by rw [HL.out]; exact Nat.le_refl _), List.append_nil] at h
        exact h
      clear HS
      go_wp2_with fail
      go_ret
      exact ⟨rfl, HF.out⟩

set_option maxHeartbeats 400000 in
theorem markChunks_nil (a : Option Addr) (c : Nat) (w : World) :
    Calls Try.prog 35 #[.slice a 0 c, .int .i64 1] w fun e w' => e = .returned (.int .i64 1) ∧ w' = w := by
  go_enter Try.func35, Try.ntmps35
  go_wp2_with fail
  go_loop [1, 5] (fun x i => i = .int .i64 0 ∧ x = .int .i64 1) (fun _ _ => 0)
  case atStart => exact ⟨rfl, rfl⟩
  case round =>
    obtain ⟨rfl, rfl⟩ := hrel
    go_wp2_with fail
    go_ret
    exact ⟨rfl, rfl⟩

set_option maxHeartbeats 1000000 in
theorem heldChunks_any (a : Option Addr) (n cap : Nat) (w : World) (h : Chs2 w a (mkAt 1 n)) (hn : n ≤ 10000) :
    Calls Try.prog 36 #[.slice a n cap, .int .i64 1] w fun e w' => e = .returned (.int .i64 ((n : Int) * 2 + 1)) ∧ Below w.heap.size w w' := by
  have HI : Hid (Chs2 w a (mkAt 1 n)) := h
  clear h
  go_enter Try.func36, Try.ntmps36
  go_wp2_with fail
  go_loopw [1, 5] (fun x i wr => ∃ k : Nat, k ≤ n ∧ i = .int .i64 (k : Int) ∧ x = .int .i64 ((k : Int) * 2 + 1) ∧ Hid (Below w.heap.size w wr)) (fun _ i _ => n - (intOf i).toNat)
  case atStart => exact ⟨0, Nat.zero_le _, rfl, rfl, Below.refl _ _⟩
  case round =>
    obtain ⟨k, hk, rfl, rfl, HB⟩ := hrel
    by_cases hlt : k < n
    · have hki : (k : Int) < (n : Int) := by omega
      have hkl : k < (mkAt 1 n).length := by rw [mkAt_len]; exact hlt
      obtain ⟨b, off, rfl, hbB, hc1, hc2⟩ := HI.out.at hkl
      rw [mkAt_get] at hc1 hc2
      obtain ⟨K, hK⟩ : ∃ K, K = k * 2 + 1 := ⟨_, rfl⟩
      have eK : (k : Int) * 2 + 1 = (K : Int) := by omega
      have eK1 : (K : Int) + 1 = ((K + 1 : Nat) : Int) := by omega
      have hK0 : 0 < K := by omega
      have hK9 : K ≤ 50000 := by omega
      have HM1 : Hid (∀ w, Calls Try.prog 69 #[.int .i64 (K : Int)] w fun e w' => e = .returned (.string (mtx K)) ∧ Below w.heap.size w w') := fun w => markText_any K w hK0 (by omega)
      have HM2 : Hid (∀ w, Calls Try.prog 69 #[.int .i64 ((K : Int) + 1)] w fun e w' => e = .returned (.string (mtx (K + 1))) ∧ Below w.heap.size w w') := fun w => by rw [eK1]; exact markText_any (K + 1) w (by omega) (by omega)
      rw [show 1 + k * 2 = K by omega] at hc1 hc2
      have e1 := (HB.out.cell (p := ⟨b, off + k * 2, none⟩) hbB).trans hc1
      have HC2 : Hid (w.cell? ⟨b, off + k * 2 + 1, none⟩ = some (.string (mtx (K + 1)))) := hc2
      have HKF : Hid ((K : Int) + 1 + 1 = ((k + 1 : Nat) : Int) * 2 + 1) := by show _ = _; omega
      rw [eK]
      simp only at e1
      generalize mtx K = t1 at *
      generalize mtx (K + 1) = t2 at *
      clear eK eK1 hK hc1 hc2 hkl
      go_wp2_with fail
      have hbr : b < wr.heap.size := Nat.lt_of_lt_of_le hbB HB.out.size
      go_region_held3 (fun w' => w'.cell? ⟨b, off + k * 2, none⟩ = some (.string t1)) (go_keep) ((go_at_call 69; refine (HM1.out _).mono ?_; rintro e w2 ⟨rfl, b2⟩; have q2 := (b2.cell (p := ⟨b, off + k * 2, none⟩) hbr).trans e1))
      all_goals have HB2 : Hid (Below w.heap.size w w2) := HB.out.drew.trans (b2.mono HB.out.size)
      all_goals have e2 := (HB2.out.cell (p := ⟨b, off + k * 2 + 1, none⟩) hbB).trans HC2.out
      all_goals clear b2 HB e1 HM1
      all_goals go_wp2_with fail
      all_goals have hbr2 : b < w2.heap.size := Nat.lt_of_lt_of_le hbB HB2.out.size
      all_goals go_region_held3 (fun w' => w'.cell? ⟨b, off + k * 2 + 1, none⟩ = some (.string t2)) (go_keep) ((go_at_call 69; refine (HM2.out _).mono ?_; rintro e w4 ⟨rfl, b4⟩; have q4 := (b4.cell (p := ⟨b, off + k * 2 + 1, none⟩) hbr2).trans e2))
      all_goals have HB4 : Hid (Below w.heap.size w w4) := HB2.out.drew.trans (b4.mono HB2.out.size)
      all_goals clear b4 HB2 e2 HM2 HC2
      all_goals go_wp2_with fail
      all_goals
        go_roundw
        case rel => exact ⟨k + 1, by omega, by go_num, by rw [← HKF.out], HB4.out⟩
        case measure => simp [intOf]; omega
    · have hki : ¬ (k : Int) < (n : Int) := by omega
      have hk' : k = n := by omega
      subst hk'
      go_wp2_with fail
      go_ret
      exact ⟨rfl, HB.out⟩

theorem markChunks_any (v : Option Addr) (n c lo : Nat) (l : List (ByteArray × ByteArray)) (w : World) (h : OwnC w lo (.slice v n c) n l) (hlo : lo ≤ w.heap.size) (hn : n ≤ 10000) :
    Calls Try.prog 35 #[.slice v n c, .int .i64 1] w fun e w' => e = .returned (.int .i64 ((n : Int) * 2 + 1)) ∧ OwnC w' lo (.slice v n c) n (mkAt 1 n) ∧ Below lo w w' := by
  rcases h.2 with ⟨hv, h0⟩ | ⟨g, cap, cur, hv, hg, _⟩
  · subst h0
    refine (markChunks_nil v c w).mono ?_
    rintro e w' ⟨rfl, rfl⟩
    refine ⟨rfl, ?_, Below.refl _ _⟩
    rw [hv]
    exact World.ownsRow_nil _ _ _ _
  · cases hv
    exact markChunks_own g n c lo l w h hlo hg hn
end Go.Proofs.Yticfbeihmkfifaa
