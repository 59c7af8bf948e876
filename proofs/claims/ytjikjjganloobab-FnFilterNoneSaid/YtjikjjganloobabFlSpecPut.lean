/- Filters of the specification: a row is turned. -/
import Derived.Test.YtjikjjganloobabFlSpec
import Derived.Test.YtjikjjganloobabBpRow
namespace Go.Proofs.Ytjikjjganloobab
open Go.RowKit

theorem OwnB.more {w : World} {B L g cap x : Nat} {o : List Nat} (h : w.ownsRow B 5 1 (.slice (some ⟨g, 0, none⟩) (L + 1) cap) (L + 1) (bytesV o ++ [.int .u8 (x : Int)])) : OwnB w B (.slice (some ⟨g, 0, none⟩) (L + 1) cap) (L + 1) (o ++ [x]) := by
  unfold OwnB
  have e : bytesV (o ++ [x]) = bytesV o ++ [.int .u8 (x : Int)] := by simp [bytesV]
  rw [e]; exact h

set_option maxHeartbeats 2000000 in
set_option maxRecDepth 20000 in
theorem l9Put_any (K st : Nat) (s t : ByteArray) (w : World) (hK : K ≤ 4) (hst : st ≤ 4) (hs : s.size ≤ 1000) (ht : t.size ≤ 1000) :
    Calls Try.prog 35 #[.int .i64 K, .string s, .string t, .int .i64 st] w fun e w' => e = .returned (.string ⟨((Fl.put K st (byteAt s) (byteAt t) s.size).map UInt8.ofNat).toArray⟩) ∧ Below w.heap.size w w' := by
  obtain ⟨i0, hi0, hz0, hz1, hz2⟩ := info_parts info_u8
  have HE := own_empty w
  obtain ⟨n, hn⟩ : ∃ n, n = s.size := ⟨_, rfl⟩
  have HN : Hid (n = s.size) := hn
  have hni : (s.size : Int) = (n : Int) := by omega
  have hnb : n ≤ 1000 := by omega
  rw [← hn]
  clear hn
  go_enter Try.func35, Try.ntmps35
  go_wp2_with fail
  go_loopw [9, 10] (fun v i wr => ∃ k : Nat, k ≤ n ∧ i = .int .i64 k ∧ OwnB wr w.heap.size v k (Fl.put K st (byteAt s) (byteAt t) k) ∧ Below w.heap.size w wr) (fun _ i _ => n - (intOf i).toNat)
  case atStart => exact ⟨0, Nat.zero_le _, rfl, HE, (Below.refl _ _).alloc (Nat.le_refl _) _⟩
  case round =>
    obtain ⟨k, hk, rfl, hown, hbel⟩ := hrel
    clear HE
    by_cases hlt : k < n
    · have hks : k < s.size := by have := HN.out; omega
      have HSN : Hid (Fl.put K st (byteAt s) (byteAt t) (k + 1) = Fl.put K st (byteAt s) (byteAt t) k ++ [(byteAt s k + 512 - Fl.gs K st (byteAt s) (byteAt t) k) % 256]) := Fl.put_snoc _ _ _ _ _
      obtain ⟨z, hz⟩ : ∃ z : Int, z = (k : Int) - (st : Int) := ⟨_, rfl⟩
      obtain ⟨a, ha⟩ : ∃ a, a = Fl.by_ (byteAt s) z := ⟨_, rfl⟩
      obtain ⟨b, hb⟩ : ∃ b, b = byteAt t k := ⟨_, rfl⟩
      obtain ⟨c, hc⟩ : ∃ c, c = Fl.by_ (byteAt t) z := ⟨_, rfl⟩
      obtain ⟨g, hg⟩ : ∃ g, g = Fl.beside K a b c := ⟨_, rfl⟩
      obtain ⟨x, hx⟩ : ∃ x, x = byteAt s k := ⟨_, rfl⟩
      have hab : a < 256 := by rw [ha]; exact Fl.by_lt (byteAt_lt s) _
      have hbb : b < 256 := by rw [hb]; exact byteAt_lt _ _
      have hcb : c < 256 := by rw [hc]; exact Fl.by_lt (byteAt_lt t) _
      have hgb : g < 256 := by rw [hg]; exact Fl.beside_lt hab hbb hcb
      have hxb : x < 256 := by rw [hx]; exact byteAt_lt _ _
      have hbe : (s[k]).toNat = x := by rw [hx]; exact byteAt_eq s k hks
      have HC1 : Hid (∀ w : World, Calls Try.prog 69 #[.string s, .int .i64 z] w fun e w' => e = .returned (.int .i64 (a : Int)) ∧ w' = w) := fun w => by rw [ha]; exact l9Byte_any s z w (by omega) (by omega)
      have HC2 : Hid (∀ w : World, Calls Try.prog 69 #[.string t, .int .i64 (k : Int)] w fun e w' => e = .returned (.int .i64 (b : Int)) ∧ w' = w) := fun w => by
        have := l9Byte_any t (k : Int) w (by omega) (by omega)
        rw [Fl.by_nat, ← hb] at this; exact this
      have HC3 : Hid (∀ w : World, Calls Try.prog 69 #[.string t, .int .i64 z] w fun e w' => e = .returned (.int .i64 (c : Int)) ∧ w' = w) := fun w => by rw [hc]; exact l9Byte_any t z w (by omega) (by omega)
      have HB : Hid (∀ w : World, Calls Try.prog 68 #[.int .i64 (K : Int), .int .i64 (a : Int), .int .i64 (b : Int), .int .i64 (c : Int)] w fun e w' => e = .returned (.int .i64 (g : Int)) ∧ w' = w) := fun w => by rw [hg]; exact l9Beside_any K a b c w hK hab hbb hcb
      obtain ⟨y, hy⟩ : ∃ y, y = (x + 512 - g) % 256 := ⟨_, rfl⟩
      have HY : Hid (Fl.put K st (byteAt s) (byteAt t) (k + 1) = Fl.put K st (byteAt s) (byteAt t) k ++ [y]) := by
        show _ = _; rw [HSN.out, hy, hx, hg, ha, hb, hc, hz]; rfl
      obtain ⟨d, hd⟩ : ∃ d : Int, d = (x : Int) - (g : Int) := ⟨_, rfl⟩
      have hzw : IntKind.i64.wrap ((k : Int) - (st : Int)) = z := by rw [← hz]; simp [IntKind.wrap, IntKind.bits, IntKind.signed]; omega
      have hdw : IntKind.i64.wrap ((x : Int) - (g : Int)) = d := by rw [← hd]; simp [IntKind.wrap, IntKind.bits, IntKind.signed]; omega
      have hki : (k : Int) < (n : Int) := by omega
      have hdb : -256 < d ∧ d < 256 := by omega
      have hdy : (d + 512) % 256 = (y : Int) := by omega
      have hdt : (d + 512).tmod 256 = (y : Int) := by rw [Int.tmod_eq_emod_of_nonneg (by omega)]; exact hdy
      have hyb : y < 256 := by omega
      generalize Fl.put K st (byteAt s) (byteAt t) k = l at *
      clear HSN ha hb hc hg hx hy hz hd
      have hbs : w.heap.size ≤ wr.heap.size := hbel.size
      have hm63 : k + 1 ≤ maxLen := by unfold maxLen; omega
      have hlen : (k + 1) * 1 ≤ 140737488355328 := by omega
      have hone : ∀ u ∈ [Value.int .u8 (y : Int)], u.oneCell' = true := by intro u hu; simp at hu; subst hu; rfl
      go_wp2_with fail
      go_quiet (first | (go_at_call_of 69 (Value.string s); exact Calls.quiet_of_same (HC1.out _)) | (go_at_call_of 69 (Value.int .i64 (k : Int)); exact Calls.quiet_of_same (HC2.out _)) | (go_at_call 69; exact Calls.quiet_of_same (HC3.out _)) | (go_at_call 68; exact Calls.quiet_of_same (HB.out _)))
      clear HC1 HC2 HC3 HB hzw hdw
      go_wp2_with (at_builtin; refine wpList_append_lies _ (by rfl) _ _ _ (by rfl) w.heap.size 5 i0 (.int .u8 0) 1 1 Try.underlying22 hi0 hz0 hz1 hz2 rfl (by decide) _ k (bytesV l) (by rfl) (World.ownsRow.alloc (show World.ownsRow _ _ _ _ _ _ _ from hown) _) ⟨wr.heap.size, 0, none⟩ 1 1 [.int .u8 (y : Int)] (by rfl) rfl (World.news_of_block (heap_alloc_new _ _)) hone (by decide) hm63 hlen (by simp; omega) _ rfl ?_)
      intro g2 cap2 w4 hown4 hgrow hat hlt4
      have hlt0 := World.ownsRow.lt hown
      have hb4 : Below w.heap.size w w4 := ((below_drewN hbel _).alloc hbs _).grown hgrow (by simp; omega) (fun k hk => (hlt0 k hk).1)
      have H4 : Hid (OwnB w4 w.heap.size (.slice (some ⟨g2, 0, none⟩) (k + 1) cap2) (k + 1) (Fl.put K st (byteAt s) (byteAt t) (k + 1))) := by
        show OwnB _ _ _ _ _
        rw [HY.out]; exact OwnB.more hown4
      clear hown4 hgrow hat hlt0 hown hbel hone hm63 hlen hlt4
      go_wp2_with fail
      go_roundw
      case rel => exact ⟨k + 1, by omega, by go_num, H4.out, hb4⟩
      case measure => simp [intOf]; omega
    · have hk' : k = n := by omega
      subst hk'
      obtain ⟨cap, ao, rfl, htx⟩ := hown.text
      have hlt' : ¬ (k : Int) < (k : Int) := by omega
      clear hown
      go_wp2_with fail
      go_ret
      exact ⟨rfl, hbel⟩
end Go.Proofs.Ytjikjjganloobab
