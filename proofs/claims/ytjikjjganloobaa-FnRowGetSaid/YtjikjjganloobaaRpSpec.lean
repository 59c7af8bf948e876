/- RowPut of the specification: the list of bits. -/
import Derived.Test.YtjikjjganloobaaRpMath
import Derived.Test.YtjikjjganloobaaBitOwn
import Derived.Test.YtjikjjganloobaaBpPutH
import Derived.Test.YtjikjjganloobaaIntsWalks
import Derived.StillTailTactics
namespace Go.Proofs.Ytjikjjganloobaa
open Go.RowKit

theorem OwnP.more2 {w : World} {B n g cap : Nat} {l : List (Int × Int)} {v s v' s' : Int} (h : w.ownsRow B 76 2 (.slice (some ⟨g, 0, none⟩) (n + 2) cap) (n + 2) (cellsOf l ++ [.int .i64 v, .int .i64 s, .int .i64 v', .int .i64 s'])) :
    OwnP w B (.slice (some ⟨g, 0, none⟩) (n + 2) cap) (n + 2) (l ++ [(v, s), (v', s')]) := by
  have e : cellsOf l ++ [.int .i64 v, .int .i64 s, .int .i64 v', .int .i64 s'] = cellsOf (l ++ [(v, s), (v', s')]) := by
    rw [show l ++ [(v, s), (v', s')] = (l ++ [(v, s)]) ++ [(v', s')] by simp, ← cellsOf_snoc, ← cellsOf_snoc]; simp
  rw [e] at h; exact h

theorem take_snoc_int (zs : List Int) (k : Nat) (h : k < zs.length) : zs.take (k + 1) = zs.take k ++ [zs[k]] := by
  rw [List.take_succ_eq_append_getElem h]

set_option maxHeartbeats 1000000 in
set_option maxRecDepth 20000 in
theorem l8Row_small (a : Option Addr) (n cap D : Nat) (zs : List Int) (w : World) (h : Ints w a zs) (hn : zs.length = n) (hl : n ≤ 1000) (hD : D ≤ 24) (hR : Rp.Row D zs) :
    Calls Try.prog 39 #[.slice a n cap, .int .i64 D] w fun e w' => e = .returned (.string ⟨((Bp.text true (Rp.bl D zs)).map UInt8.ofNat).toArray⟩) ∧ Below w.heap.size w w' := by
  obtain ⟨i0, hi0, hz0, hz1, hz2⟩ := info_parts info_bit
  have HI : Hid (Ints w a zs) := h
  have HE := own_none w
  have HR : Hid (Rp.Row D zs) := hR
  have HN : Hid (zs.length = n) := hn
  have hzg : n ≤ zs.length := by omega
  have hDi : ¬ (24 : Int) < (D : Int) := by omega
  have HD : Hid (D ≤ 24) := hD
  clear h hR hn hD
  go_enter Try.func39, Try.ntmps39
  go_wp2_with fail
  go_loopw [5, 6] (fun v i wr => ∃ k : Nat, k ≤ n ∧ i = .int .i64 k ∧ OwnP wr w.heap.size v k (Rp.bl D (zs.take k)) ∧ Below w.heap.size w wr) (fun _ i _ => n - (intOf i).toNat)
  case atStart => exact ⟨0, Nat.zero_le _, rfl, by rw [show Rp.bl D (zs.take 0) = [] by unfold Rp.bl; split <;> simp]; exact HE, (Below.refl _ _).alloc (Nat.le_refl _) _⟩
  case round =>
    obtain ⟨k, hk, rfl, hown, hbel⟩ := hrel
    clear HE
    by_cases hlt : k < n
    · have hkz : k < zs.length := by omega
      rcases HI.out with h | ⟨b, off, rfl, hbB, hc⟩
      · rw [h] at hkz; simp at hkz
      · have hck := (hbel.cell (p := ⟨b, off + k, none⟩) hbB).trans (hc k hkz)
        have hki : (k : Int) < (n : Int) := by omega
        have HB : Hid (Rp.bl D (zs.take (k + 1)) = Rp.bl D (zs.take k) ++ [(zs[k], (D : Int))]) := by
          show _ = _; rw [take_snoc_int zs k hkz, Rp.bl_snoc, if_neg (by have := HD.out; omega)]
        clear hc
        generalize zs[k] = z at *
        generalize Rp.bl D (zs.take k) = l at *
        have hbs : w.heap.size ≤ wr.heap.size := hbel.size
        have hm63 : k + 1 ≤ maxLen := by unfold maxLen; omega
        have hlen : (k + 1) * 16 ≤ 140737488355328 := by omega
        have hone : ∀ u ∈ [Value.int .i64 z, Value.int .i64 (D : Int)], u.oneCell' = true := by intro u hu; simp at hu; rcases hu with rfl | rfl <;> rfl
        go_wp2_with (at_builtin; refine wpList_append_lies _ (by rfl) _ _ _ (by rfl) w.heap.size 76 i0 (.agg #[.int .i64 0, .int .i64 0]) 2 16 Try.underlying74 hi0 hz0 hz1 hz2 rfl (by decide) _ k (cellsOf l) (by rfl) (World.ownsRow.alloc (show World.ownsRow _ _ _ _ _ _ _ from hown) _) ⟨wr.heap.size, 0, none⟩ 1 1 [.int .i64 z, .int .i64 (D : Int)] (by rfl) rfl (World.news_of_block (heap_alloc_new _ _)) hone (by decide) hm63 hlen (by simp; omega) _ rfl ?_)
        intro g cap2 w4 hown4 hgrow hat hlt4
        have hlt0 := World.ownsRow.lt hown
        have hb4 : Below w.heap.size w w4 := (hbel.alloc hbs _).grown hgrow (by simp; omega) (fun k hk => (hlt0 k hk).1)
        have H4 : Hid (OwnP w4 w.heap.size (.slice (some ⟨g, 0, none⟩) (k + 1) cap2) (k + 1) (Rp.bl D (zs.take (k + 1)))) := by
          show OwnP _ _ _ _ _
          rw [HB.out]; exact OwnP.more hown4
        clear hown4 hgrow hat hlt0 hown hbel hone hm63 hlen hlt4 hck
        go_wp2_with fail
        go_roundw
        case rel => exact ⟨k + 1, by omega, by go_num, H4.out, hb4⟩
        case measure => simp [intOf]; omega
    · have hk' : k = zs.length := by have := HN.out; omega
      rw [hk', List.take_length] at hown
      have hkk : zs.length = k := hk'.symm
      rw [hkk] at hown
      obtain ⟨ao, cap', rfl, hB⟩ := hown.bits
      have HP : Hid (∀ w', Bits2 w' ao (Rp.bl D zs) → Calls Try.prog 52 #[.slice ao k cap', .bool true] w' fun e w'' => e = .returned (.string ⟨((Bp.text true (Rp.bl D zs)).map UInt8.ofNat).toArray⟩) ∧ Below w'.heap.size w' w'') := by
        intro w' hB'
        exact l1Put_high ao k cap' _ w' hB' (by rw [Rp.bl_len D zs HD.out]; exact hkk) (by omega) HR.out.fits
      have HB : Hid (Bits2 _ ao (Rp.bl D zs)) := hB
      have hlt' : ¬ (k : Int) < (n : Int) := by omega
      clear hown hB hkk hk'
      go_wp2_with fail
      refine (HP.out _ HB.out).mono ?_
      rintro e w5 ⟨rfl, b5⟩
      go_wp2_with fail
      go_ret
      exact ⟨rfl, hbel.trans (b5.mono hbel.size)⟩

set_option maxHeartbeats 2000000 in
set_option maxRecDepth 20000 in
theorem l8Row_32 (a : Option Addr) (n cap : Nat) (zs : List Int) (w : World) (h : Ints w a zs) (hn : zs.length = n) (hl : n ≤ 1000) (hsm : Rp.Small 32 zs) (hR : Rp.Row 32 zs) :
    Calls Try.prog 39 #[.slice a n cap, .int .i64 32] w fun e w' => e = .returned (.string ⟨((Bp.text true (Rp.bl 32 zs)).map UInt8.ofNat).toArray⟩) ∧ Below w.heap.size w w' := by
  obtain ⟨i0, hi0, hz0, hz1, hz2⟩ := info_parts info_bit
  have HI : Hid (Ints w a zs) := h
  have HE := own_none w
  have HR : Hid (Rp.Row 32 zs) := hR
  have HS : Hid (Rp.Small 32 zs) := hsm
  have HN : Hid (zs.length = n) := hn
  have hzg : n ≤ zs.length := by omega
  clear h hR hn hsm
  go_enter Try.func39, Try.ntmps39
  go_wp2_with fail
  go_loopw [5, 6] (fun v i wr => ∃ (k L : Nat) (vv : Value), k ≤ n ∧ i = .int .i64 k ∧ L ≤ 2000 ∧ L = k * 2 ∧ vv = v ∧ OwnP wr w.heap.size vv L (Rp.bl 32 (zs.take k)) ∧ Below w.heap.size w wr) (fun _ i _ => n - (intOf i).toNat)
  case atStart => exact ⟨0, 0, _, Nat.zero_le _, rfl, by omega, rfl, rfl, by rw [show Rp.bl 32 (zs.take 0) = [] by simp [Rp.bl]]; exact HE, (Below.refl _ _).alloc (Nat.le_refl _) _⟩
  case round =>
    obtain ⟨k, L, vv, hk, rfl, hL2, hL, rfl, hown, hbel⟩ := hrel
    clear HE
    have HL : Hid (L = k * 2) := hL
    clear hL
    by_cases hlt : k < n
    · have hkz : k < zs.length := by omega
      have hL8 : L + 2 ≤ 2000 := by have := HL.out; omega
      rcases HI.out with h | ⟨b, off, rfl, hbB, hc⟩
      · rw [h] at hkz; simp at hkz
      · have hck := (hbel.cell (p := ⟨b, off + k, none⟩) hbB).trans (hc k hkz)
        have hki : (k : Int) < (n : Int) := by omega
        have HB : Hid (Rp.bl 32 (zs.take (k + 1)) = Rp.bl 32 (zs.take k) ++ [(zs[k] / 65536, 16), (zs[k] % 65536, 16)]) := by
          show _ = _; rw [take_snoc_int zs k hkz, Rp.bl_snoc, if_pos rfl]
        have hsk := HS.out zs[k] (List.getElem_mem hkz)
        clear hc
        generalize zs[k] = z at *
        generalize Rp.bl 32 (zs.take k) = l at *
        obtain ⟨v, rfl⟩ := Int.eq_ofNat_of_zero_le hsk.1
        have hv : v < 4294967296 := hsk.2
        clear hsk
        obtain ⟨x, hx⟩ : ∃ x : Nat, (v : Int) / 65536 = (x : Int) := ⟨v / 65536, by simp⟩
        obtain ⟨y, hy⟩ : ∃ y : Nat, (v : Int) % 65536 = (y : Int) := ⟨v % 65536, by simp⟩
        have hxb : x < 65536 := by omega
        have hyb : y < 65536 := by omega
        have hx' : (v : Int).tdiv 65536 = (x : Int) := by rw [Int.tdiv_eq_ediv_of_nonneg (by omega)]; exact hx
        have hy' : (v : Int).tmod 65536 = (y : Int) := by rw [Int.tmod_eq_emod_of_nonneg (by omega)]; exact hy
        rw [hx, hy] at HB
        have hwx := wrap_i64_nat x (by omega)
        have hbs : w.heap.size ≤ wr.heap.size := hbel.size
        have hm63 : L + 2 ≤ maxLen := by unfold maxLen; omega
        have hlen : (L + 2) * 16 ≤ 140737488355328 := by omega
        have hone : ∀ u ∈ [Value.int .i64 (x : Int), Value.int .i64 16, Value.int .i64 (y : Int), Value.int .i64 16], u.oneCell' = true := by intro u hu; simp at hu; rcases hu with rfl | rfl | rfl | rfl <;> rfl
        have hlt0 := World.ownsRow.lt hown
        have hfar : some b ≠ vv.ownBlock := fun e => absurd (hlt0 b e.symm).1 (by omega)
        have hbr : b < wr.heap.size := by omega
        go_wp2_with fail
        go_region_held3 (fun w' => w'.cell? ⟨b, off + k, none⟩ = some (.int .i64 (v : Int))) (first | go_keep | (rw [hgrow.cell_far _ (by simp; omega) hfar]; go_keep)) ((refine step_append_lies _ (by rfl) _ _ _ (by rfl) w.heap.size 76 i0 (.agg #[.int .i64 0, .int .i64 0]) 2 16 Try.underlying74 hi0 hz0 hz1 hz2 rfl (by decide) _ L (cellsOf l) (by rfl) (World.ownsRow.alloc (show World.ownsRow _ _ _ _ _ _ _ from hown) _) ⟨wr.heap.size, 0, none⟩ 2 2 [.int .i64 (x : Int), .int .i64 16, .int .i64 (y : Int), .int .i64 16] (by rfl) rfl (World.news_of_block (heap_alloc_new _ _)) hone (by decide) hm63 hlen (by simp; omega) (wr.heap.size + 1) (by simp) ?_; intro g cap2 w4 hown4 hgrow hat hlt4))
        all_goals
          have hb4 : Below w.heap.size w w4 := (hbel.drew.alloc hbs _).grown hgrow (by simp; omega) (fun k hk => (hlt0 k hk).1)
          have H4 : Hid (OwnP w4 w.heap.size (.slice (some ⟨g, 0, none⟩) (L + 2) cap2) (L + 2) (Rp.bl 32 (zs.take (k + 1)))) := by
            show OwnP _ _ _ _ _
            rw [HB.out]; exact OwnP.more2 hown4
          clear hown4 hgrow hat hlt0 hown hbel hone hm63 hlen hlt4 hck hfar
          go_wp2_with fail
          go_roundw
          case rel => exact ⟨k + 1, L + 2, _, by omega, by go_num, hL8, by have := HL.out; omega, rfl, H4.out, hb4⟩
          case measure => simp [intOf]; omega
    · have hk' : k = zs.length := by have := HN.out; omega
      have hkk : zs.length = k := hk'.symm
      rw [hk', List.take_length] at hown
      have HLL : Hid ((Rp.bl 32 zs).length = L) := by show _ = _; rw [Rp.bl_len_32, hkk]; exact HL.out.symm
      obtain ⟨ao, cap', rfl, hB⟩ := hown.bits
      have HP : Hid (∀ w', Bits2 w' ao (Rp.bl 32 zs) → Calls Try.prog 52 #[.slice ao L cap', .bool true] w' fun e w'' => e = .returned (.string ⟨((Bp.text true (Rp.bl 32 zs)).map UInt8.ofNat).toArray⟩) ∧ Below w'.heap.size w' w'') := by
        intro w' hB'
        exact l1Put_high ao L cap' _ w' hB' HLL.out (by omega) HR.out.fits
      have HB : Hid (Bits2 _ ao (Rp.bl 32 zs)) := hB
      have hlt' : ¬ (k : Int) < (n : Int) := by omega
      clear hown hB hkk hk'
      go_wp2_with fail
      refine (HP.out _ HB.out).mono ?_
      rintro e w5 ⟨rfl, b5⟩
      go_wp2_with fail
      go_ret
      exact ⟨rfl, hbel.trans (b5.mono hbel.size)⟩
end Go.Proofs.Ytjikjjganloobaa
