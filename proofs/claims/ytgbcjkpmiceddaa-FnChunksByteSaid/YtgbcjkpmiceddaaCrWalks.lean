/- What the functions of the CRC sum return, for every sum and every text. -/
import Derived.Test.YtgbcjkpmiceddaaAdWalks
import Derived.Test.YtgbcjkpmiceddaaCrMath
import Derived.Test.YtgbcjkpmiceddaaInWalks
namespace Go.Proofs.Ytgbcjkpmiceddaa
open Go.RowKit

set_option maxHeartbeats 400000 in
theorem l2Xor_any (a b : Int) (w : World) (h1 : 0 ≤ a) (h2 : a ≤ 4294967295) (h3 : 0 ≤ b) (h4 : b ≤ 4294967295) :
    Calls Try.prog 49 #[.int .i64 a, .int .i64 b] w fun e w' => e = .returned (.int .i64 ((a.toNat ^^^ b.toNat : Nat) : Int)) ∧ w' = w := by
  obtain ⟨A, rfl⟩ := Int.eq_ofNat_of_zero_le h1
  obtain ⟨B, rfl⟩ := Int.eq_ofNat_of_zero_le h3
  rw [Int.toNat_natCast, Int.toNat_natCast]
  have hx := i64_xor_nat A B (by omega) (by omega)
  go_enter Try.func49, Try.ntmps49
  go_wp2
  go_ret
  exact ⟨rfl, rfl⟩

set_option maxHeartbeats 1000000 in
theorem l2Crc_any (c : Nat) (s : ByteArray) (w : World) (hc : c < 4294967296) (hs : s.size ≤ maxLen) :
    Calls Try.prog 50 #[.int .i64 c, .string s] w fun e w' => e = .returned (.int .i64 (Cr.run c s.data.toList : Nat)) ∧ w' = w := by
  unfold maxLen at hs
  go_enter Try.func50, Try.ntmps50
  go_wp2
  go_loop [0, 5] (fun x i => ∃ k : Nat, k ≤ s.size ∧ i = .int .i64 k ∧ x = .int .i64 (Cr.run c (s.data.toList.take k) : Nat)) (fun _ i => s.size - (intOf i).toNat)
  case atStart => exact ⟨0, Nat.zero_le _, rfl, rfl⟩
  case round =>
    obtain ⟨k, hk, rfl, rfl⟩ := hrel
    have hb := Cr.run_lt (s.data.toList.take k) hc
    by_cases hlt : k < s.size
    · have hsn := Cr.run_snoc c (s.data.toList.take k) s[k]
      rw [← take_snoc s k hlt] at hsn
      have HS : Hid (Cr.run c (s.data.toList.take (k + 1)) = _) := hsn
      clear hsn
      have hcb : ((s[k]).toNat : Int) ≤ 255 := by have := UInt8.toNat_lt s[k]; omega
      generalize hx : Cr.run c (List.take k s.data.toList) = x at *
      clear hx
      go_wp2_with fail
      refine (l2Xor_any _ _ _ (by omega) (by omega) (by omega) (by omega)).mono ?_
      rintro e w1 ⟨rfl, rfl⟩
      rw [Int.toNat_natCast, Int.toNat_natCast]
      have hxl : x ^^^ s[k].toNat < 4294967296 := Cr.xor_lt hb (by omega)
      have HB : Hid (Cr.byte x s[k] = Cr.bits 8 (x ^^^ s[k].toNat)) := rfl
      generalize x ^^^ s[k].toNat = y at *
      go_wp2_with fail
      go_loop [0, 6] (fun z j => ∃ m : Nat, m ≤ 8 ∧ j = .int .i64 m ∧ z = .int .i64 (Cr.bits m y : Nat)) (fun _ j => 8 - (intOf j).toNat)
      case atStart => exact ⟨0, by omega, rfl, rfl⟩
      case round =>
        obtain ⟨m, hm, rfl, rfl⟩ := hrel
        have hz := Cr.bits_lt m hxl
        by_cases hm8 : m < 8
        · have HN : Hid (Cr.bits (m + 1) y = Cr.bit (Cr.bits m y)) := Cr.bits_succ m y
          generalize Cr.bits m y = z at *
          by_cases hodd : z % 2 = 1
          · have hb1 : ((z : Int) % 2 == 1) = true := by simp; omega
            have HO : Hid (Cr.bit z = z / 2 ^^^ 3988292384) := if_pos hodd
            go_wp2_with fail
            refine (l2Xor_any _ _ _ (by omega) (by omega) (by omega) (by omega)).mono ?_
            rintro e w1 ⟨rfl, rfl⟩
            go_wp2_with fail
            go_round
            case rel => exact ⟨m + 1, by omega, by go_num, by rw [HN.out, HO.out]; rfl⟩
            case measure => simp [intOf]; omega
          · have hb1 : ((z : Int) % 2 == 1) = false := by simp; omega
            have HO : Hid (Cr.bit z = z / 2) := if_neg hodd
            go_wp2_with fail
            go_round
            case rel => exact ⟨m + 1, by omega, by go_num, by rw [HN.out, HO.out]; rfl⟩
            case measure => simp [intOf]; omega
        · have hm' : m = 8 := by omega
          subst hm'
          go_wp2_with fail
          go_round
          case rel => exact ⟨k + 1, by omega, by go_num, by rw [HS.out, HB.out]⟩
          case measure => simp [intOf]; omega
    · go_wp2_with fail
      go_ret
      exact ⟨ret_int (by rw [List.take_of_length_le (by simp; omega)]), rfl⟩

set_option maxHeartbeats 400000 in
theorem spec_crc_yes (sum : Int) (s : ByteArray) (w : World) (h : Cr.okB sum s.size = true) :
    Calls Try.prog 43 #[.int .i64 sum, .string s] w fun e w' => e = .returned (.int .i64 (Cr.ans sum s.data.toList)) ∧ w' = w := by
  rw [Cr.ans_yes (by rw [bytes_len]; exact h)]
  obtain ⟨h0, h1, h2⟩ := (Cr.okB_iff _ _).1 h
  clear h
  obtain ⟨S, rfl⟩ := Int.eq_ofNat_of_zero_le h0
  rw [Int.toNat_natCast]
  have hS : S < 4294967296 := by omega
  have HM : Hid (Cr.more S s.data.toList = Cr.run (Cr.turn S) s.data.toList ^^^ 4294967295) := by
    unfold Hid; rw [Cr.xor_turn (Cr.run_lt _ (Cr.turn_lt _))]; rfl
  have HT : Hid (S ^^^ 4294967295 = Cr.turn S) := Cr.xor_turn hS
  have hr := Cr.run_lt s.data.toList (Cr.turn_lt S)
  have ht := Cr.turn_lt S
  go_enter Try.func43, Try.ntmps43
  go_wp2_with fail
  refine (l1In_yes _ _ _ _ (by omega) (by omega)).mono ?_
  rintro e w1 ⟨rfl, rfl⟩
  go_wp2_with fail
  refine (l2Xor_any _ _ _ (by omega) (by omega) (by omega) (by omega)).mono ?_
  rintro e w1 ⟨rfl, rfl⟩
  rw [Int.toNat_natCast, show ((4294967295 : Int)).toNat = 4294967295 from rfl, HT.out]
  go_wp2_with fail
  refine (l2Crc_any _ s _ ht (by unfold maxLen; omega)).mono ?_
  rintro e w1 ⟨rfl, rfl⟩
  go_wp2_with fail
  refine (l2Xor_any _ _ _ (by omega) (by omega) (by omega) (by omega)).mono ?_
  rintro e w1 ⟨rfl, rfl⟩
  rw [Int.toNat_natCast, show ((4294967295 : Int)).toNat = 4294967295 from rfl, ← HM.out]
  go_wp2_with fail
  go_ret
  exact ⟨rfl, rfl⟩

set_option maxHeartbeats 400000 in
theorem spec_crc_no (sum : Int) (s : ByteArray) (w : World) (hs : s.size ≤ maxLen) (h : Cr.okB sum s.size = false) :
    Calls Try.prog 43 #[.int .i64 sum, .string s] w fun e w' => e = .returned (.int .i64 0) ∧ w' = w := by
  unfold maxLen at hs
  have h' : ¬ (0 ≤ sum ∧ sum ≤ 4294967295 ∧ s.size ≤ 9000) := by
    intro g; rw [(Cr.okB_iff _ _).2 g] at h; cases h
  clear h
  by_cases hin : 0 ≤ sum ∧ sum ≤ 4294967295
  · have h9 : 9000 < s.size := by omega
    clear h'
    go_enter Try.func43, Try.ntmps43
    go_wp2_with fail
    refine (l1In_yes _ _ _ _ hin.1 hin.2).mono ?_
    rintro e w1 ⟨rfl, rfl⟩
    clear hin
    go_wp2_with fail
    go_ret
    exact ⟨rfl, rfl⟩
  · clear h'
    go_enter Try.func43, Try.ntmps43
    go_wp2_with fail
    refine (l1In_no _ _ _ _ (by omega)).mono ?_
    rintro e w1 ⟨rfl, rfl⟩
    clear hin
    go_wp2_with fail
    go_ret
    exact ⟨rfl, rfl⟩

theorem spec_crc (sum : Int) (s : ByteArray) (w : World) (hs : s.size ≤ maxLen) :
    Calls Try.prog 43 #[.int .i64 sum, .string s] w fun e w' => e = .returned (.int .i64 (Cr.ans sum s.data.toList)) ∧ w' = w := by
  cases h : Cr.okB sum s.size
  · rw [Cr.ans_no (by rw [bytes_len]; exact h)]; exact spec_crc_no sum s w hs h
  · exact spec_crc_yes sum s w h

set_option maxHeartbeats 400000 in
theorem spec_crc32 (s : ByteArray) (w : World) (hs : s.size ≤ maxLen) :
    Calls Try.prog 36 #[.string s] w fun e w' => e = .returned (.int .i64 (Cr.ans 0 s.data.toList)) ∧ w' = w := by
  go_enter Try.func36, Try.ntmps36
  go_wp2_with fail
  refine (spec_crc 0 s _ hs).mono ?_
  rintro e w1 ⟨rfl, rfl⟩
  go_wp2_with fail
  go_ret
  exact ⟨rfl, rfl⟩

theorem u32_one (z : Nat) (h : z < 4294967296) : bits .and .u32 (z : Int) 1 = (z : Int) % 2 := by
  have := u32_and_nat z 1 h (by omega)
  rw [show ((1 : Nat) : Int) = 1 from rfl] at this
  rw [this, nat_mask1]; omega

theorem u32_poly (z : Nat) (h : z < 4294967296) : bits .xor .u32 ((z : Int) / 2) 3988292384 = ((z / 2 ^^^ 3988292384 : Nat) : Int) := by
  have := u32_xor_nat (z / 2) 3988292384 (by omega) (by omega)
  rw [show ((3988292384 : Nat) : Int) = 3988292384 from rfl, show ((z / 2 : Nat) : Int) = (z : Int) / 2 from by omega] at this
  exact this

/-- the table, its first k cells made -/
def tab (k : Nat) : Array Value := ((List.range 256).map fun j => Value.int .u32 (if j < k then (Cr.bits 8 j : Nat) else 0)).toArray

theorem tab_size (k : Nat) : (tab k).size = 256 := by simp [tab]

theorem tab_get (k j : Nat) (h : j < 256) : (tab k)[j]? = some (Value.int .u32 (if j < k then (Cr.bits 8 j : Nat) else 0)) := by
  simp [tab, h]

theorem tab_set (k : Nat) (h : k < 256) : (tab k).setIfInBounds k (.int .u32 (Cr.bits 8 k : Nat)) = tab (k + 1) := by
  apply Array.ext_getElem?
  intro j
  rw [Array.getElem?_setIfInBounds, tab_size]
  by_cases hj : j < 256
  · rw [tab_get _ _ hj, tab_get _ _ hj]
    by_cases e : k = j
    · subst e; simp [h]
    · rw [if_neg e]
      by_cases l : j < k
      · rw [if_pos l, if_pos (by omega)]
      · rw [if_neg l, if_neg (by omega)]
  · rw [if_neg (by omega), Array.getElem?_eq_none (by rw [tab_size]; omega), Array.getElem?_eq_none (by rw [tab_size]; omega)]

theorem zeroTab (w : World) : Sem.run Try.prog (zeroValue 74) w = .ok (.agg (tab 0)) w := by kernel_rfl

set_option maxRecDepth 100000 in
set_option maxHeartbeats 400000 in
theorem crcTable_any (w : World) :
    Calls Try.prog 51 #[] w fun e w' => e = .returned (.agg (tab 256)) ∧ Below w.heap.size w w' := by
  have hz := fun w => zeroTab w
  go_enter Try.func51, Try.ntmps51
  go_wp2_with fail
  go_loopw [4] (fun i wr => ∃ k : Nat, k ≤ 256 ∧ i = .int .i64 k ∧ wr = (w.alloc (.cells (tab 0) 74)).alloc (.cells (tab k) 74)) (fun i _ => 256 - (intOf i).toNat)
  case atStart => exact ⟨0, by omega, rfl, rfl⟩
  case round =>
    obtain ⟨k, hk, rfl, rfl⟩ := hrel
    by_cases hlt : k < 256
    · have HT : Hid ((tab k).setIfInBounds k (.int .u32 (Cr.bits 8 k : Nat)) = tab (k + 1)) := tab_set k hlt
      have hg : (tab k)[k]? = some (.int .u32 0) := by rw [tab_get k k hlt]; simp
      have hb5 : decide ((k : Int) < 256) = true := by simp; omega
      clear hz
      go_wp2_with fail
      go_loopw [3, 9] (fun z j wr => ∃ m : Nat, m ≤ 8 ∧ j = .int .i64 m ∧ z = .int .u32 (Cr.bits m k : Nat) ∧ wr = (w.alloc (.cells (tab 0) 74)).alloc (.cells (tab k) 74)) (fun _ j _ => 8 - (intOf j).toNat)
      case atStart => exact ⟨0, by omega, rfl, rfl, rfl⟩
      case round =>
        obtain ⟨m, hm, rfl, rfl, rfl⟩ := hrel
        have hz := Cr.bits_lt m (show k < 4294967296 by omega)
        by_cases hm8 : m < 8
        · have HN : Hid (Cr.bits (m + 1) k = Cr.bit (Cr.bits m k)) := Cr.bits_succ m k
          generalize Cr.bits m k = z at *
          by_cases hodd : z % 2 = 1
          · have hand := u32_one z hz
            have hxor := u32_poly z hz
            have hb1 : ((z : Int) % 2 == 1) = true := by simp; omega
            have HO : Hid (Cr.bit z = z / 2 ^^^ 3988292384) := if_pos hodd
            go_wp2_with fail
            go_roundw
            case rel => exact ⟨m + 1, by omega, by go_num, by rw [HN.out, HO.out], trivial⟩
            case measure => simp [intOf]; omega
          · have hand := u32_one z hz
            have hb1 : ((z : Int) % 2 == 1) = false := by simp; omega
            have HO : Hid (Cr.bit z = z / 2) := if_neg hodd
            go_wp2_with fail
            go_roundw
            case rel => exact ⟨m + 1, by omega, by go_num, by rw [HN.out, HO.out]; rfl, trivial⟩
            case measure => simp [intOf]; omega
        · have hm' : m = 8 := by omega
          subst hm'
          go_wp2_with fail
          go_roundw
          case rel => exact ⟨k + 1, by omega, by go_num, by rw [← HT.out]⟩
          case measure => simp [intOf]; omega
    · have hk' : k = 256 := by omega
      subst hk'
      have hg1 : ((w.alloc (.cells (tab 0) 74)).alloc (.cells (tab 256) 74)).heap[w.heap.size + 1]? = some (.cells (tab 256) 74) := heap_alloc2_new _ _ _
      have hg0 : ((w.alloc (.cells (tab 0) 74)).alloc (.cells (tab 256) 74)).heap[w.heap.size]? = some (.cells (tab 0) 74) := heap_alloc2_old _ _ _
      clear hz
      go_wp2_with (first | refine wpList_load_row rfl 74 (.tmp 1) rfl (w.heap.size + 1) rfl 74 (tab 256) (0, 0) _ hg1 Try.underlying74 rfl (by kernel_rfl) ?_ | refine wpList_store_row rfl 74 (.tmp 0) (.tmp 24) rfl w.heap.size (tab 256) rfl rfl 74 (tab 0) hg0 (by kernel_rfl) (by rw [tab_size, tab_size]) (by kernel_rfl) ?_)
      have hs2 := setRow_heap _ _ _ (tab 256) _ _ hg0
      refine bodyPost_ret_by (results_cell_row (p := 0) (ty := 74) (by kernel_rfl) _ _ w.heap.size 74 (tab 256) (0, 0) _ rfl hs2 Try.underlying74 rfl (by kernel_rfl)) rfl ⟨rfl, ?_⟩
      exact below_setRow (((Below.refl _ _).alloc (Nat.le_refl _) _).alloc (by simp) _) (Nat.le_refl _) _

theorem u32_conv (S : Nat) (h : S < 4294967296) : IntKind.u32.wrap (S : Int) = (S : Int) := by rw [IntKind.wrap_u32']; omega

theorem u8_idx (x : Nat) (b : UInt8) : bits .xor .u8 ((x : Int) % 256) (b.toNat : Int) = ((x % 256 ^^^ b.toNat : Nat) : Int) := by
  have hb := UInt8.toNat_lt b
  have := u8_xor_nat (x % 256) b.toNat (by omega) (by omega)
  rw [← this]; rfl

theorem u32_last (x y : Nat) (hx : x < 4294967296) (hy : y < 4294967296) : bits .xor .u32 (y : Int) ((x : Int) / 256) = ((y ^^^ x / 256 : Nat) : Int) := by
  have := u32_xor_nat y (x / 256) hy (by omega)
  rw [← this]; rfl

theorem u32_not (c : Nat) (h : c < 4294967296) : bits .xor .u32 IntKind.u32.max (c : Int) = (Cr.turn c : Nat) := by
  have e : IntKind.u32.max = ((4294967295 : Nat) : Int) := by decide
  rw [e, u32_xor_nat 4294967295 c (by omega) h, Nat.xor_comm, Cr.xor_turn h]

set_option maxRecDepth 100000 in
set_option maxHeartbeats 400000 in
theorem crcRun_any (c : Nat) (s : ByteArray) (w : World) (hc : c < 4294967296) (hs : s.size ≤ maxLen) :
    Calls Try.prog 47 #[.int .u32 c, .string s] w fun e w' => e = .returned (.int .u32 (Cr.more c s.data.toList : Nat)) ∧ Below w.heap.size w w' := by
  unfold maxLen at hs
  have hz := fun w => zeroTab w
  have hnot : bits .xor .u32 IntKind.u32.max (c : Int) = (Cr.turn c : Nat) := u32_not c hc
  go_enter Try.func47, Try.ntmps47
  go_wp2_with fail
  refine (crcTable_any _).mono ?_
  rintro e w1 ⟨rfl, bel1⟩
  have hg : (w1.alloc (.cells (tab 0) 74)).heap[w1.heap.size]? = some (.cells (tab 0) 74) := heap_alloc_new _ _
  go_wp2_with (refine wpList_store_row rfl 74 (.tmp 5) (.tmp 7) rfl w1.heap.size (tab 256) rfl rfl 74 (tab 0) hg (by kernel_rfl) (by rw [tab_size, tab_size]) (by kernel_rfl) ?_)
  have hcl : ∀ j, j < 256 → ((w1.alloc (Obj.cells (tab 0) 74)).setRow w1.heap.size (tab 256)).cell? ⟨w1.heap.size, j, none⟩ = some (.int .u32 (Cr.bits 8 j : Nat)) := by
    intro j hj
    rw [cell_setRow_same _ _ _ _ _ _ _ hg, tab_get _ _ hj, if_pos hj]
  have bel2 : Below w.heap.size w ((w1.alloc (Obj.cells (tab 0) 74)).setRow w1.heap.size (tab 256)) := below_setRow (bel1.alloc bel1.size _) bel1.size _
  generalize (w1.alloc (Obj.cells (tab 0) 74)).setRow w1.heap.size (tab 256) = w2 at *
  generalize w1.heap.size = B at *
  clear hz hg bel1
  go_loop [0, 12] (fun x i => ∃ k : Nat, k ≤ s.size ∧ i = .int .i64 k ∧ x = .int .u32 (Cr.run (Cr.turn c) (s.data.toList.take k) : Nat)) (fun _ i => s.size - (intOf i).toNat)
  case atStart => exact ⟨0, Nat.zero_le _, rfl, rfl⟩
  case round =>
    obtain ⟨k, hk, rfl, rfl⟩ := hrel
    have hb := Cr.run_lt (s.data.toList.take k) (Cr.turn_lt c)
    by_cases hlt : k < s.size
    · have hsn := Cr.run_snoc (Cr.turn c) (s.data.toList.take k) s[k]
      rw [← take_snoc s k hlt, Cr.byte_table] at hsn
      have HS : Hid (Cr.run (Cr.turn c) (s.data.toList.take (k + 1)) = _) := hsn
      clear hsn
      have hcb : ((s[k]).toNat : Int) ≤ 255 := by have := UInt8.toNat_lt s[k]; omega
      generalize hx : Cr.run (Cr.turn c) (List.take k s.data.toList) = x at *
      clear hx
      have hil := Cr.idx_lt x s[k]
      have hc1 := hcl _ hil
      have hix := u8_idx x s[k]
      have hxr := u32_last x (Cr.bits 8 (x % 256 ^^^ s[k].toNat)) hb (Cr.bits_lt 8 (by omega))
      generalize x % 256 ^^^ s[k].toNat = y at *
      clear hcl
      go_wp2_with fail
      go_round
      case rel => exact ⟨k + 1, by omega, by go_num, by rw [HS.out]⟩
      case measure => simp [intOf]; omega
    · have hk' : s.data.toList.take k = s.data.toList := List.take_of_length_le (by simp; omega)
      rw [hk'] at hb ⊢
      have hn2 := u32_not _ hb
      clear hk'
      go_wp2_with fail
      go_ret
      exact ⟨rfl, bel2⟩

set_option maxHeartbeats 400000 in
theorem impl_crc (sum : Int) (s : ByteArray) (w : World) (hs : s.size ≤ maxLen) :
    Calls Try.prog 38 #[.int .i64 sum, .string s] w fun e w' => e = .returned (.int .i64 (Cr.ans sum s.data.toList)) ∧ Below w.heap.size w w' := by
  cases h : Cr.okB sum s.size
  · rw [Cr.ans_no (by rw [bytes_len]; exact h)]
    have h' : ¬ (0 ≤ sum ∧ sum ≤ 4294967295 ∧ s.size ≤ 9000) := by
      intro g; rw [(Cr.okB_iff _ _).2 g] at h; cases h
    clear h
    go_enter Try.func38, Try.ntmps38
    go_wp2_with fail
    refine (sumOk_no _ _ _ hs (by omega)).mono ?_
    rintro e w1 ⟨rfl, rfl⟩
    go_wp2_with fail
    go_ret
    exact ⟨rfl, Below.refl _ _⟩
  · rw [Cr.ans_yes (by rw [bytes_len]; exact h)]
    obtain ⟨h0, h1, h2⟩ := (Cr.okB_iff _ _).1 h
    clear h
    obtain ⟨S, rfl⟩ := Int.eq_ofNat_of_zero_le h0
    rw [Int.toNat_natCast]
    have hS : S < 4294967296 := by omega
    have hm := Cr.more_lt S s.data.toList
    go_enter Try.func38, Try.ntmps38
    go_wp2_with fail
    refine (sumOk_yes _ _ _ h0 h1 h2).mono ?_
    rintro e w1 ⟨rfl, rfl⟩
    go_wp2_with fail
    refine (crcRun_any S s _ hS hs).mono ?_
    rintro e w1 ⟨rfl, bel1⟩
    go_wp2_with fail
    go_ret
    exact ⟨rfl, bel1⟩

set_option maxHeartbeats 400000 in
theorem impl_crc32 (s : ByteArray) (w : World) (hs : s.size ≤ maxLen) :
    Calls Try.prog 26 #[.string s] w fun e w' => e = .returned (.int .i64 (Cr.ans 0 s.data.toList)) ∧ Below w.heap.size w w' := by
  go_enter Try.func26, Try.ntmps26
  go_wp2_with fail
  refine (impl_crc 0 s _ hs).mono ?_
  rintro e w1 ⟨rfl, bel1⟩
  go_wp2_with fail
  go_ret
  exact ⟨rfl, bel1⟩

end Go.Proofs.Ytgbcjkpmiceddaa
