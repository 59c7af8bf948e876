/- The laws on sums, walked: whatever the codes, the law's call returns true and turns nothing that was there. -/
import Derived.Test.YtpoilfbbabmpgaaDrawSums
import Derived.Test.YtpoilfbbabmpgaaCrMath2
namespace Go.Proofs.Ytpoilfbbabmpgaa
open Go.RowKit

theorem bytes_append (a b : ByteArray) : (a ++ b).data.toList = a.data.toList ++ b.data.toList := by
  rw [ByteArray.data_append, Array.toList_append]

set_option maxHeartbeats 1000000 in
theorem lawAdlerMore (a0 : Option Addr) (len0 cap0 : Nat) (a1 : Option Addr) (len1 cap1 : Nat) (w : World) (h0 : Code8 w a0 len0 cap0) (h1 : Code8 w a1 len1 cap1) :
    Calls Try.prog 7 #[.slice a0 len0 cap0, .slice a1 len1 cap1] w fun e w' => e = .returned (.bool true) ∧ Below w.heap.size w w' := by
  have hl0 : len0 ≤ 9223372036854775807 := Nat.le_trans h0.1 h0.2.1
  have hl1 : len1 ≤ 9223372036854775807 := Nat.le_trans h1.1 h1.2.1
  by_cases b0 : 1048576 < len0
  · clear h0 h1
    go_enter Try.func7, Try.ntmps7
    go_wp2_with fail
    go_ret
    exact ⟨rfl, Below.refl _ _⟩
  · have d0 : decide ((1048576 : Int) < (len0 : Int)) = false := by simp; omega
    by_cases b1 : 1048576 < len1
    · clear h0 h1
      go_enter Try.func7, Try.ntmps7
      go_wp2_with fail
      go_ret
      exact ⟨rfl, Below.refl _ _⟩
    · have d1 : decide ((1048576 : Int) < (len1 : Int)) = false := by simp; omega
      go_enter Try.func7, Try.ntmps7
      go_wp2_with fail
      refine (drawAdler32_any a0 len0 cap0 w h0).mono ?_
      rintro e w1 ⟨⟨s, rfl, hs⟩, bel1⟩
      have h1' := h1.kept bel1
      clear h0 h1
      go_wp2_with fail
      refine (drawAdlerMore_any a1 len1 cap1 w1 h1').mono ?_
      rintro e w2 ⟨⟨sum, t, rfl, ht, hlo, hhi⟩, bel2⟩
      have bel := bel1.trans (bel2.mono bel1.size)
      clear h1' bel1 bel2
      have hs' : s.size ≤ maxLen := by unfold maxLen; omega
      have ht' : t.size ≤ maxLen := by unfold maxLen; omega
      go_wp2_with fail
      refine (impl_adler32 s w2 hs').mono ?_
      rintro e w3 ⟨rfl, bel3⟩
      have bel' := bel.trans (bel3.mono bel.size)
      clear bel bel3
      go_wp2_with fail
      refine (spec_adler32 s w3 hs').mono ?_
      rintro e w4 ⟨rfl, rfl⟩
      go_wp2_with fail
      refine (impl_adler sum t _ ht' (by omega) (by omega)).mono ?_
      rintro e w5 ⟨rfl, bel5⟩
      have bel := bel'.trans (bel5.mono bel'.size)
      clear bel' bel5
      go_wp2_with fail
      refine (spec_adler sum t _ ht' (by omega) (by omega)).mono ?_
      rintro e w6 ⟨rfl, rfl⟩
      by_cases hbig : 9000 < s.size + t.size
      · have hbi : (9000 : Int) < (s.size : Int) + (t.size : Int) := by omega
        go_wp2_with fail
        refine (impl_adler32 ⟨#[]⟩ _ (by decide)).mono ?_
        rintro e w7 ⟨rfl, bel7⟩
        have hn : Ad.more 1 (ByteArray.mk #[]).data.toList = 1 := Ad.more_none
        rw [hn]
        go_wp2_with fail
        go_ret
        exact ⟨rfl, bel.trans (bel7.mono bel.size)⟩
      · have hbi : decide ((9000 : Int) < (s.size : Int) + (t.size : Int)) = false := by simp; omega
        have hap := Ad.more_append s.data.toList t.data.toList (by rw [bytes_len, bytes_len]; omega)
        have hmb := Ad.more_bounds 1 s.data.toList
        go_wp2_with fail
        refine (impl_adler32 (s ++ t) _ (by unfold maxLen; rw [ByteArray.size_append]; omega)).mono ?_
        rintro e w7 ⟨rfl, bel7⟩
        have bel' := bel.trans (bel7.mono bel.size)
        clear bel bel7
        rw [bytes_append, hap]
        go_wp2_with fail
        refine (impl_adler32 s _ hs').mono ?_
        rintro e w8 ⟨rfl, bel8⟩
        have bel := bel'.trans (bel8.mono bel'.size)
        clear bel' bel8
        go_wp2_with fail
        refine (impl_adler _ t _ ht' (by omega) (by omega)).mono ?_
        rintro e w9 ⟨rfl, bel9⟩
        have bel' := bel.trans (bel9.mono bel.size)
        clear bel bel9
        go_wp2_with fail
        refine (impl_adler32 ⟨#[87, 105, 107, 105, 112, 101, 100, 105, 97]⟩ _ (by decide)).mono ?_
        rintro e w10 ⟨rfl, bel10⟩
        have bel := bel'.trans (bel10.mono bel'.size)
        clear bel' bel10
        have hwk : Ad.more 1 (ByteArray.mk #[87, 105, 107, 105, 112, 101, 100, 105, 97]).data.toList = 300286872 := Ad.more_wiki
        rw [hwk]
        go_wp2_with fail
        refine (impl_adler32 ⟨#[]⟩ _ (by decide)).mono ?_
        rintro e w11 ⟨rfl, bel11⟩
        have hn : Ad.more 1 (ByteArray.mk #[]).data.toList = 1 := Ad.more_none
        rw [hn]
        go_wp2_with fail
        go_ret
        exact ⟨rfl, bel.trans (bel11.mono bel.size)⟩
set_option maxHeartbeats 1000000 in
theorem lawCrcMore (a0 : Option Addr) (len0 cap0 : Nat) (a1 : Option Addr) (len1 cap1 : Nat) (w : World) (h0 : Code8 w a0 len0 cap0) (h1 : Code8 w a1 len1 cap1) :
    Calls Try.prog 6 #[.slice a0 len0 cap0, .slice a1 len1 cap1] w fun e w' => e = .returned (.bool true) ∧ Below w.heap.size w w' := by
  have hl0 : len0 ≤ 9223372036854775807 := Nat.le_trans h0.1 h0.2.1
  have hl1 : len1 ≤ 9223372036854775807 := Nat.le_trans h1.1 h1.2.1
  by_cases b0 : 1048576 < len0
  · clear h0 h1
    go_enter Try.func6, Try.ntmps6
    go_wp2_with fail
    go_ret
    exact ⟨rfl, Below.refl _ _⟩
  · have d0 : decide ((1048576 : Int) < (len0 : Int)) = false := by simp; omega
    by_cases b1 : 1048576 < len1
    · clear h0 h1
      go_enter Try.func6, Try.ntmps6
      go_wp2_with fail
      go_ret
      exact ⟨rfl, Below.refl _ _⟩
    · have d1 : decide ((1048576 : Int) < (len1 : Int)) = false := by simp; omega
      go_enter Try.func6, Try.ntmps6
      go_wp2_with fail
      refine (drawCrc32_any a0 len0 cap0 w h0).mono ?_
      rintro e w1 ⟨⟨s, rfl, hs⟩, bel1⟩
      have h1' := h1.kept bel1
      clear h0 h1
      go_wp2_with fail
      refine (drawCrcMore_any a1 len1 cap1 w1 h1').mono ?_
      rintro e w2 ⟨⟨sum, t, rfl, ht, hlo, hhi⟩, bel2⟩
      have bel := bel1.trans (bel2.mono bel1.size)
      clear h1' bel1 bel2
      have hs' : s.size ≤ maxLen := by unfold maxLen; omega
      have ht' : t.size ≤ maxLen := by unfold maxLen; omega
      go_wp2_with fail
      refine (impl_crc32 s w2 hs').mono ?_
      rintro e w3 ⟨rfl, bel3⟩
      have bel' := bel.trans (bel3.mono bel.size)
      clear bel bel3
      go_wp2_with fail
      refine (spec_crc32 s w3 hs').mono ?_
      rintro e w4 ⟨rfl, rfl⟩
      go_wp2_with fail
      refine (impl_crc sum t _ ht').mono ?_
      rintro e w5 ⟨rfl, bel5⟩
      have bel := bel'.trans (bel5.mono bel'.size)
      clear bel' bel5
      go_wp2_with fail
      refine (spec_crc sum t _ ht').mono ?_
      rintro e w6 ⟨rfl, rfl⟩
      by_cases hbig : 9000 < s.size + t.size
      · have hbi : (9000 : Int) < (s.size : Int) + (t.size : Int) := by omega
        go_wp2_with fail
        refine (impl_crc32 ⟨#[]⟩ _ (by decide)).mono ?_
        rintro e w7 ⟨rfl, bel7⟩
        have hn : Cr.ans 0 (ByteArray.mk #[]).data.toList = 0 := Cr.ans_none
        rw [hn]
        go_wp2_with fail
        go_ret
        exact ⟨rfl, bel.trans (bel7.mono bel.size)⟩
      · have hbi : decide ((9000 : Int) < (s.size : Int) + (t.size : Int)) = false := by simp; omega
        have hap := Cr.ans_append s.data.toList t.data.toList (by rw [bytes_len, bytes_len]; omega)
        have hmb := Cr.ans_bounds 0 s.data.toList
        go_wp2_with fail
        refine (impl_crc32 (s ++ t) _ (by unfold maxLen; rw [ByteArray.size_append]; omega)).mono ?_
        rintro e w7 ⟨rfl, bel7⟩
        have bel' := bel.trans (bel7.mono bel.size)
        clear bel bel7
        rw [bytes_append, hap]
        go_wp2_with fail
        refine (impl_crc32 s _ hs').mono ?_
        rintro e w8 ⟨rfl, bel8⟩
        have bel := bel'.trans (bel8.mono bel'.size)
        clear bel' bel8
        go_wp2_with fail
        refine (impl_crc _ t _ ht').mono ?_
        rintro e w9 ⟨rfl, bel9⟩
        have bel' := bel.trans (bel9.mono bel.size)
        clear bel bel9
        go_wp2_with fail
        refine (impl_crc32 ⟨#[49, 50, 51, 52, 53, 54, 55, 56, 57]⟩ _ (by decide)).mono ?_
        rintro e w10 ⟨rfl, bel10⟩
        have bel := bel'.trans (bel10.mono bel'.size)
        clear bel' bel10
        have hwk : Cr.ans 0 (ByteArray.mk #[49, 50, 51, 52, 53, 54, 55, 56, 57]).data.toList = 3421780262 := Cr.ans_nine
        rw [hwk]
        go_wp2_with fail
        refine (impl_crc32 ⟨#[]⟩ _ (by decide)).mono ?_
        rintro e w11 ⟨rfl, bel11⟩
        have hn : Cr.ans 0 (ByteArray.mk #[]).data.toList = 0 := Cr.ans_none
        rw [hn]
        go_wp2_with fail
        go_ret
        exact ⟨rfl, bel.trans (bel11.mono bel.size)⟩
end Go.Proofs.Ytpoilfbbabmpgaa
