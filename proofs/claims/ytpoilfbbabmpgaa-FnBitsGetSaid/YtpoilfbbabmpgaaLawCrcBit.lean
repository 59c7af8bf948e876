/- The law on one bit turned, walked. -/
import Derived.Test.YtpoilfbbabmpgaaLawSums
import Derived.Test.YtpoilfbbabmpgaaAdMath2
import Derived.Laws.IdiomStrings
namespace Go.Proofs.Ytpoilfbbabmpgaa
open Go.RowKit

set_option maxHeartbeats 400000 in
theorem wiPow_any (n : Nat) (w : World) (hn : n ≤ 50) :
    Calls Try.prog 15 #[.int .i64 n] w fun e w' => e = .returned (.int .i64 ((2 ^ n : Nat) : Int)) ∧ w' = w := by
  go_enter Try.func15, Try.ntmps15
  go_wp2_with fail
  go_loop [3, 4] (fun x i => ∃ k y : Nat, k ≤ n ∧ i = .int .i64 k ∧ y = 2 ^ k ∧ x = .int .i64 y) (fun _ i => n - (intOf i).toNat)
  case atStart => exact ⟨0, 1, Nat.zero_le _, rfl, rfl, rfl⟩
  case round =>
    obtain ⟨k, y, hk, rfl, hy, rfl⟩ := hrel
    have hp : 2 ^ k ≤ 2 ^ 60 := Nat.pow_le_pow_right (by omega) (by omega)
    have hyb : y ≤ 1152921504606846976 := by omega
    have HY : Hid (y = 2 ^ k) := hy
    clear hy hp
    by_cases hlt : k < n
    · have hd : decide ((k : Int) < 60) = true := by simp; omega
      go_wp2_with fail
      go_round
      case rel => exact ⟨k + 1, y * 2, by omega, by go_num, by rw [HY.out, Nat.pow_succ], by go_num⟩
      case measure => simp [intOf]; omega
    · have hk' : k = n := by omega
      subst hk'
      have hd : decide ((k : Int) < (k : Int)) = false := by simp
      go_wp2_with fail
      go_ret
      exact ⟨ret_int (by rw [HY.out]; simp), rfl⟩

/-- the bytes of a text, laid anew -/
theorem conv_bytes (s : ByteArray) (w : World) : ∃ (cap : Nat) (w2 : World), Sem.run Try.prog (convert 9 22 (.string s)) w = .ok (.slice (some ⟨w.heap.size, 0, none⟩) s.size cap) w2 ∧
    (∀ i (h : i < s.size), w2.cell? ⟨w.heap.size, i, none⟩ = some (.int .u8 ((s[i]).toNat : Int)) ∧ w2.frozen? ⟨w.heap.size, i, none⟩ = false) ∧ Below w.heap.size w w2 ∧ w2.heap.size = w.heap.size + 1 := by
  refine ⟨_, _, run_bytes_of_string w 9 22 5 s Try.underlying9 Try.underlying22 Try.underlying5, ?_, ?_, ?_⟩
  · intro i h
    generalize grownCap w s.size 0 5 = cap
    have hg : (w.drew.alloc (.cells (bytesRow s cap) 5 ((bytesRow s cap).size, (bytesRow s cap).size + 1))).heap[w.heap.size]? = some (.cells (bytesRow s cap) 5 ((bytesRow s cap).size, (bytesRow s cap).size + 1)) := heap_alloc_new w.drew _
    refine ⟨?_, ?_⟩
    · rw [cell_of_row _ _ _ _ _ _ hg, bytesRow_at s cap i h]; rfl
    · unfold World.frozen?
      simp only [hg]
      have hsz : s.size ≤ (bytesRow s cap).size := by unfold bytesRow; simp
      simp
      omega
  · exact (Below.refl _ _).drew.alloc (Nat.le_refl _) _
  · simp

theorem text_back (W : World) (L cap n : Nat) (l : List UInt8) (hn : l.length = n) (hc : ∀ j (hj : j < l.length), W.cell? ⟨L, j, none⟩ = some (.int .u8 ((l[j]).toNat : Int))) :
    Sem.run Try.prog (convert 22 9 (.slice (some ⟨L, 0, none⟩) n cap)) W = .ok (.string ⟨l.toArray⟩) W := by
  subst hn
  refine run_convert_bytes_back W 22 9 5 ⟨L, 0, none⟩ cap l Try.underlying22 Try.underlying5 Try.underlying9 ?_
  intro j hj
  rw [show (⟨L, 0, none⟩ : Addr).add j = ⟨L, j, none⟩ from by simp [Addr.add]; try omega]
  exact hc j hj

theorem turned (x E : Nat) (hx : x < 256) (hE : E < 8) : x ^^^ 2 ^ E < 256 ∧ x ^^^ 2 ^ E ≠ x := by
  have h2 : 2 ^ E ≤ 2 ^ 7 := Nat.pow_le_pow_right (by omega) (by omega)
  have h1 : 0 < 2 ^ E := Nat.pow_pos (by omega)
  refine ⟨Nat.xor_lt_two_pow (n := 8) (by omega) (by omega), fun h => ?_⟩
  have := congrArg (fun t => t ^^^ x) h
  rw [Nat.xor_comm x] at this
  simp [Nat.xor_assoc, Nat.xor_self, Nat.xor_zero] at this

theorem split_at (l : List UInt8) (k : Nat) (h : k < l.length) (d : UInt8) : l = l.take k ++ l[k] :: l.drop (k + 1) ∧ l.set k d = l.take k ++ d :: l.drop (k + 1) := by
  refine ⟨?_, List.set_eq_take_append_cons_drop.trans (if_pos h)⟩
  rw [List.getElem_cons_drop, List.take_append_drop]

theorem bent (s : ByteArray) (w2 : World) (L K v : Nat) (hK : K < s.size) (hv : v < 256)
    (hcl : ∀ i (h : i < s.size), w2.cell? ⟨L, i, none⟩ = some (.int .u8 ((s[i]).toNat : Int)) ∧ w2.frozen? ⟨L, i, none⟩ = false) :
    ∀ j (hj : j < (s.data.toList.set K (UInt8.ofNat v)).length), (w2.setCell ⟨L, K, none⟩ (.int .u8 (v : Int))).drew.cell? ⟨L, j, none⟩ = some (.int .u8 (((s.data.toList.set K (UInt8.ofNat v))[j]).toNat : Int)) := by
  intro j hj
  have hj' : j < s.size := by simpa using hj
  rw [World.cell?_drew, List.getElem_set]
  by_cases e : K = j
  · subst e
    rw [if_pos rfl, World.cell?_setCell_same _ _ _ (hcl K hK).1, UInt8.toNat_ofNat_of_lt' (by simpa using hv)]
  · rw [if_neg e, World.cell?_setCell_other _ _ _ _ (fun h => e (congrArg Addr.off h)), (hcl j hj').1]
    rfl

set_option maxHeartbeats 1000000 in
theorem lawCrcBit (a0 : Option Addr) (len0 cap0 : Nat) (a1 : Option Addr) (len1 cap1 : Nat) (w : World) (h0 : Code8 w a0 len0 cap0) (h1 : Code8 w a1 len1 cap1) :
    Calls Try.prog 8 #[.slice a0 len0 cap0, .slice a1 len1 cap1] w fun e w' => e = .returned (.bool true) ∧ Below w.heap.size w w' := by
  have hl0 : len0 ≤ 9223372036854775807 := Nat.le_trans h0.1 h0.2.1
  have hl1 : len1 ≤ 9223372036854775807 := Nat.le_trans h1.1 h1.2.1
  by_cases b0 : 1048576 < len0
  · clear h0 h1
    go_enter Try.func8, Try.ntmps8
    go_wp2_with fail
    go_ret
    exact ⟨rfl, Below.refl _ _⟩
  · have d0 : decide ((1048576 : Int) < (len0 : Int)) = false := by simp; omega
    by_cases b1 : 1048576 < len1
    · clear h0 h1
      go_enter Try.func8, Try.ntmps8
      go_wp2_with fail
      go_ret
      exact ⟨rfl, Below.refl _ _⟩
    · have d1 : decide ((1048576 : Int) < (len1 : Int)) = false := by simp; omega
      go_enter Try.func8, Try.ntmps8
      go_wp2_with fail
      refine (drawCrc32_any a0 len0 cap0 w h0).mono ?_
      rintro e w1 ⟨⟨s, rfl, hs⟩, bel⟩
      clear h0 h1
      have hs' : s.size ≤ maxLen := by unfold maxLen; omega
      go_wp2_with fail
      refine (impl_crc32 s w1 hs').mono ?_
      rintro e w3 ⟨rfl, bel3⟩
      have bel' := bel.trans (bel3.mono bel.size)
      clear bel bel3
      go_wp2_with fail
      refine (spec_crc32 s w3 hs').mono ?_
      rintro e w4 ⟨rfl, rfl⟩
      go_wp2_with fail
      refine (impl_adler32 s _ hs').mono ?_
      rintro e w5 ⟨rfl, bel5⟩
      have bel := bel'.trans (bel5.mono bel'.size)
      clear bel' bel5
      go_wp2_with fail
      refine (spec_adler32 s _ hs').mono ?_
      rintro e w6 ⟨rfl, rfl⟩
      by_cases hout : s.toList.isEmpty = true ∨ 9000 < s.size
      · have hcase : s.toList.isEmpty = true ∨ (s.toList.isEmpty = false ∧ 9000 < s.size) := by
          cases he : s.toList.isEmpty
          · rcases hout with h | h
            · rw [he] at h; cases h
            · exact .inr ⟨rfl, h⟩
          · exact .inl rfl
        clear hout
        rcases hcase with he | ⟨he, h9⟩
        all_goals
          go_wp2_with fail
          refine (impl_crc32 s _ hs').mono ?_
          rintro e w7 ⟨rfl, bel7⟩
          have bel' := bel.trans (bel7.mono bel.size)
          clear bel bel7
          go_wp2_with fail
          refine (spec_crc32 s _ hs').mono ?_
          rintro e w8 ⟨rfl, rfl⟩
          go_wp2_with fail
          refine (impl_adler32 s _ hs').mono ?_
          rintro e w9 ⟨rfl, bel9⟩
          have bel := bel'.trans (bel9.mono bel'.size)
          clear bel' bel9
          go_wp2_with fail
          refine (spec_adler32 s _ hs').mono ?_
          rintro e w10 ⟨rfl, rfl⟩
          go_wp2_with fail
          go_ret
          exact ⟨rfl, bel⟩
      · have he : s.toList.isEmpty = false := by
          cases he : s.toList.isEmpty
          · rfl
          · exact absurd (.inl he) hout
        have h9 : s.size ≤ 9000 := by
          apply Decidable.byContradiction; intro h; exact hout (.inr (by omega))
        have h9d : decide ((9000 : Int) < (s.size : Int)) = false := by simp; omega
        have hpos : 0 < s.size := by
          cases hz : s.size with
          | succ n => omega
          | zero =>
            have : s.toList = [] := by
              rw [ByteArray.toList_eq]; exact List.eq_nil_of_length_eq_zero (by rw [bytes_len]; exact hz)
            rw [this] at he; cases he
        clear hout
        obtain ⟨cap, w2, hcv, hcl, belc, hsz2⟩ := conv_bytes s w6
        obtain ⟨K, hK⟩ : ∃ K, K = len1 % s.size := ⟨_, rfl⟩
        have hKs : K < s.size := by rw [hK]; exact Nat.mod_lt _ hpos
        have hKi : (len1 : Int) % (s.size : Int) = (K : Int) := by rw [hK]; rfl
        obtain ⟨E, hE⟩ : ∃ E, E = len0 % 8 := ⟨_, rfl⟩
        have hEi : (len0 : Int) % 8 = (E : Int) := by omega
        have hE8 : E < 8 := by omega
        have HPW : Hid (∀ w, Calls Try.prog 15 #[.int .i64 E] w fun e w' => e = .returned (.int .i64 ((2 ^ E : Nat) : Int)) ∧ w' = w) := fun w => wiPow_any E w (by omega)
        have hbyte := UInt8.toNat_lt s[K]
        obtain ⟨ht1, ht2⟩ := turned (s[K]).toNat E hbyte hE8
        have hpw : 2 ^ E ≤ 2 ^ 7 := Nat.pow_le_pow_right (by omega) (by omega)
        obtain ⟨Pw, hPw⟩ : ∃ Pw, Pw = 2 ^ E := ⟨_, rfl⟩
        rw [← hPw] at HPW ht1 ht2 hpw
        obtain ⟨v, hv⟩ : ∃ v, v = (s[K]).toNat ^^^ Pw := ⟨_, rfl⟩
        have HX : Hid (bits .xor .u8 ((s[K]).toNat : Int) (IntKind.u8.wrap (Pw : Int)) = (v : Int)) := by
          show _ = _
          rw [IntKind.wrap_u8', show (Pw : Int) % 256 = (Pw : Int) from by omega, u8_xor_nat _ _ hbyte (by omega), hv]
        rw [← hv] at ht1 ht2
        have HEt : Hid (((len0 : Int)).tmod 8 = (E : Int)) := by show _ = _; rw [Int.tmod_eq_emod_of_nonneg (by omega)]; exact hEi
        clear hK hE hPw hv
        obtain ⟨hck, hfk⟩ := hcl K hKs
        have HSZ : Hid (w2.heap.size = w6.heap.size + 1) := hsz2
        have HCL : Hid (∀ i (h : i < s.size), w2.cell? ⟨w6.heap.size, i, none⟩ = some (.int .u8 ((s[i]).toNat : Int)) ∧ w2.frozen? ⟨w6.heap.size, i, none⟩ = false) := hcl
        clear hsz2 hcl
        go_wp2_with fail
        rw [hKi]
        have hKi2 : (K : Int) < (s.size : Int) := by omega
        clear hcv
        go_region_with (go_at_call 15; rw [HEt.out]; refine (HPW.out _).mono ?_; rintro e w7 ⟨rfl, rfl⟩)
        all_goals rw [HX.out]
        all_goals
          have hcell8 := bent s w2 w6.heap.size K v hKs ht1 HCL.out
          have bel8 : Below w.heap.size w (w2.setCell ⟨w6.heap.size, K, none⟩ (.int .u8 (v : Int))).drew := ((bel.trans (belc.mono bel.size)).setCell (p := ⟨w6.heap.size, K, none⟩) bel.size _).drew
          have hL8 : w6.heap.size < (w2.setCell ⟨w6.heap.size, K, none⟩ (.int .u8 (v : Int))).drew.heap.size := by
            show w6.heap.size < (w2.setCell ⟨w6.heap.size, K, none⟩ (.int .u8 (v : Int))).heap.size
            rw [World.size_setCell, HSZ.out]; omega
          generalize (w2.setCell ⟨w6.heap.size, K, none⟩ (.int .u8 (v : Int))).drew = W8 at *
          obtain ⟨l, hl⟩ : ∃ l, l = s.data.toList.set K (UInt8.ofNat v) := ⟨_, rfl⟩
          have hlen : l.length = s.size := by rw [hl]; simp
          have hdiff : Cr.ans 0 l ≠ Cr.ans 0 s.data.toList ∧ Ad.more 1 l ≠ Ad.more 1 s.data.toList := by
            have hKl : K < s.data.toList.length := by rw [bytes_len]; exact hKs
            obtain ⟨p1, p2⟩ := split_at s.data.toList K hKl (UInt8.ofNat v)
            have hne : (UInt8.ofNat v).toNat ≠ (s.data.toList[K]).toNat := by
              rw [UInt8.toNat_ofNat_of_lt' (by simpa using ht1)]; exact ht2
            have hl9 : (s.data.toList.take K ++ UInt8.ofNat v :: s.data.toList.drop (K + 1)).length ≤ 9000 := by rw [← p2, ← hl, hlen]; exact h9
            have q1 := Cr.ans_other (s.data.toList.take K) (s.data.toList.drop (K + 1)) _ _ hne hl9
            have q2 := Ad.more_other (s.data.toList.take K) (s.data.toList.drop (K + 1)) _ _ hne hl9
            rw [← p2, ← p1, ← hl] at q1 q2
            exact ⟨q1, q2⟩
          have hd1 : (Cr.ans 0 l != Cr.ans 0 s.data.toList) = true := by rw [bne_iff_ne]; exact hdiff.1
          have hd2 : (Ad.more 1 l != Ad.more 1 s.data.toList) = true := by rw [bne_iff_ne]; exact hdiff.2
          rw [← hl] at hcell8
          have HC8 : Hid (∀ j (hj : j < l.length), W8.cell? ⟨w6.heap.size, j, none⟩ = some (.int .u8 ((l[j]).toNat : Int))) := hcell8
          have htx := text_back W8 w6.heap.size cap s.size l hlen hcell8
          have HL : Hid (l.length = s.size) := hlen
          have hll : (ByteArray.mk l.toArray).size = s.size := by show l.toArray.size = _; simp [hlen]
          have HLL : Hid ((ByteArray.mk l.toArray).size = s.size) := hll
          clear hcell8 hl hlen hdiff bel belc hck hfk HCL hll
          go_wp2_with fail
          refine (impl_crc32 ⟨l.toArray⟩ W8 (by rw [HLL.out]; exact hs')).mono ?_
          rintro e w9 ⟨rfl, bel9⟩
          clear htx
          have bel9' := bel8.trans (bel9.mono bel8.size)
          rw [show (ByteArray.mk l.toArray).data.toList = l from by simp]
          go_wp2_with fail
          refine (impl_crc32 s w9 hs').mono ?_
          rintro e w10 ⟨rfl, bel10⟩
          have bel10' := bel9'.trans (bel10.mono bel9'.size)
          have belW := bel9.trans (bel10.mono bel9.size)
          have htx := text_back w10 w6.heap.size cap s.size l HL.out (fun j hj => (belW.cell (p := ⟨w6.heap.size, j, none⟩) hL8).trans (HC8.out j hj))
          clear bel8 bel9 bel9' bel10 belW
          go_wp2_with fail
          refine (impl_adler32 ⟨l.toArray⟩ w10 (by rw [HLL.out]; exact hs')).mono ?_
          rintro e w11 ⟨rfl, bel11⟩
          have bel11' := bel10'.trans (bel11.mono bel10'.size)
          clear bel10' bel11 htx
          rw [show (ByteArray.mk l.toArray).data.toList = l from by simp]
          go_wp2_with fail
          refine (impl_adler32 s w11 hs').mono ?_
          rintro e w12 ⟨rfl, bel12⟩
          go_wp2_with fail
          go_ret
          exact ⟨rfl, bel11'.trans (bel12.mono bel11'.size)⟩
end Go.Proofs.Ytpoilfbbabmpgaa
