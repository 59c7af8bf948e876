/- The law on packets that are read: no packet goes beyond what is asked for. -/
import Derived.Test.YtmcjdilmmabiaaaDrawRunGet
import Derived.Test.YtmcjdilmmabiaaaRgSpec
import Derived.Test.YtmcjdilmmabiaaaWiInts
namespace Go.Proofs.Ytmcjdilmmabiaaa
open Go.RowKit

namespace Rg
theorem get_end (s : ByteArray) (S : Nat) : ∀ (d A n : Nat) (l : List Int) (E : Nat), n ≤ d → get s S A n = some (l, E) → A ≤ E ∧ (A ≤ s.size → E ≤ s.size) ∧ l.length = n
  | d, A, 0, l, E, _, h => by rw [get_zero] at h; cases h; exact ⟨Nat.le_refl _, fun h => h, rfl⟩
  | 0, A, n + 1, l, E, hd, h => by omega
  | d + 1, A, n + 1, l, E, hd, h => by
    have hc := cnt_pos (byteAt s A)
    by_cases ht : There s S A (n + 1)
    · rw [get_yes (by omega) ht] at h
      rcases hg : get s S (A + 1 + need S (byteAt s A)) (n + 1 - cnt (byteAt s A)) with _ | ⟨l', E'⟩
      · rw [hg] at h; cases h
      · rw [hg] at h
        cases h
        obtain ⟨h1, h2, h3⟩ := get_end s S d _ _ l' E' (by omega) hg
        refine ⟨by omega, fun _ => h2 ht.2.2, ?_⟩
        rw [List.length_append, nums_len, h3]
        have := ht.2.1
        omega
    · rw [get_no (by omega) ht] at h; cases h
theorem get_pre (s : ByteArray) (S : Nat) : ∀ (d A N n : Nat) (l l' : List Int) (E E' : Nat), N ≤ d → n ≤ N → get s S A N = some (l, E) → get s S A n = some (l', E') → l' = l.take n ∧ E' ≤ E
  | d, A, N, 0, l, l', E, E', hd, hn, h, h' => by
    rw [get_zero] at h'
    cases h'
    exact ⟨by simp, (get_end s S N A N l E (Nat.le_refl _) h).1⟩
  | 0, A, N, n + 1, l, l', E, E', hd, hn, h, h' => by omega
  | d + 1, A, N, n + 1, l, l', E, E', hd, hn, h, h' => by
    have hc := cnt_pos (byteAt s A)
    by_cases ht : There s S A (n + 1)
    · have hT : There s S A N := ⟨ht.1, Nat.le_trans ht.2.1 hn, ht.2.2⟩
      rw [get_yes (by omega) ht] at h'
      rw [get_yes (by omega) hT] at h
      rcases hg : get s S (A + 1 + need S (byteAt s A)) (N - cnt (byteAt s A)) with _ | ⟨r, F⟩
      · rw [hg] at h; cases h
      · rcases hg' : get s S (A + 1 + need S (byteAt s A)) (n + 1 - cnt (byteAt s A)) with _ | ⟨r', F'⟩
        · rw [hg'] at h'; cases h'
        · rw [hg] at h
          rw [hg'] at h'
          cases h
          cases h'
          obtain ⟨h1, h2⟩ := get_pre s S d _ _ (n + 1 - cnt (byteAt s A)) r r' F F' (by omega) (by omega) hg hg'
          refine ⟨?_, h2⟩
          rw [List.take_append, nums_len, List.take_of_length_le (by rw [nums_len]; exact ht.2.1), h1]
    · rw [get_no (by omega) ht] at h'; cases h'
end Rg

theorem Ints.takes {w : World} {a : Option Addr} {l : List Int} (h : Ints w a l) (n : Nat) : Ints w a (l.take n) := by
  rcases h with rfl | ⟨b, off, rfl, h1, h2⟩
  · exact .inl (by simp)
  · exact .inr ⟨b, off, rfl, h1, fun i hi => by
      have hl : i < l.length := by rw [List.length_take] at hi; omega
      rw [List.getElem_take]; exact h2 i hl⟩

set_option maxHeartbeats 4000000 in
set_option maxRecDepth 20000 in
theorem lawRunGet (a : Option Addr) (len cap : Nat) (w : World) (h : Code8 w a len cap) :
    Calls Try.prog 6 #[.slice a len cap] w fun e w' => e = .returned (.bool true) ∧ Below w.heap.size w w' := by
  by_cases hbig : 1048576 < len
  · have hc := h.2.1
    have hc1 := h.1
    unfold maxLen at hc
    clear h
    go_enter Try.func6, Try.ntmps6
    go_wp2_with fail
    go_ret
    exact ⟨rfl, Below.refl _ _⟩
  · go_enter Try.func6, Try.ntmps6
    go_wp2_with fail
    refine (drawRunGet_any a len cap w h).mono ?_
    rintro e w1 ⟨⟨s, at_, sz, ct, rfl, hs, hct⟩, b1⟩
    clear h
    have HIM : Hid (∀ (w : World) (k : Int), Calls Try.prog 16 #[.string s, .int .i64 at_, .int .i64 sz, .int .i64 k] w fun e w' => (∃ ao cap, e = .returned (.tuple #[.slice ao (Rg.ansL s at_ sz k).length cap, .int .i64 (Rg.ansE s at_ sz k), .bool (Rg.ansB s at_ sz k)]) ∧ Owns w' w.heap.size ao (Rg.ansL s at_ sz k) ∧ (Rg.ansL s at_ sz k).length ≤ cap) ∧ Below w.heap.size w w') := fun w k => impl_runGet s at_ sz k w (by omega)
    have HSP : Hid (∀ w : World, Calls Try.prog 19 #[.string s, .int .i64 at_, .int .i64 sz, .int .i64 ct] w fun e w' => (∃ ao cap, e = .returned (.tuple #[.slice ao (Rg.ansL s at_ sz ct).length cap, .int .i64 (Rg.ansE s at_ sz ct), .bool (Rg.ansB s at_ sz ct)]) ∧ Ints w' ao (Rg.ansL s at_ sz ct)) ∧ Below w.heap.size w w') := fun w => spec_runGet s at_ sz ct w (by omega)
    rcases hres : Rg.res s at_ sz ct with _ | ⟨l, E⟩
    · obtain ⟨rL, rE, rB⟩ := Rg.ans_none hres
      have HI1 := HIM.out w1 ct
      rw [rL, rE, rB] at HI1
      rw [rL, rE, rB] at HSP
      have HI2 : Hid (Calls Try.prog 16 #[.string s, .int .i64 at_, .int .i64 sz, .int .i64 ct] w1 fun e w' => (∃ ao cap, e = .returned (.tuple #[.slice ao 0 cap, .int .i64 0, .bool false]) ∧ Owns w' w1.heap.size ao [] ∧ 0 ≤ cap) ∧ Below w1.heap.size w1 w') := HI1
      clear HI1 HIM hres rL rE rB
      go_wp2_with fail
      refine HI2.out.mono ?_
      rintro e w2 ⟨⟨x, c2, rfl, hO2, -⟩, b2⟩
      have bel2 := b1.trans (b2.mono b1.size)
      go_wp2_with fail
      refine (HSP.out _).mono ?_
      rintro e w3 ⟨⟨y, c3, rfl, hI3⟩, b3⟩
      have bel3 := bel2.trans (b3.mono bel2.size)
      have HE : Hid (Calls Try.prog 17 #[.slice x 0 c2, .slice y 0 c3] w3 fun e w' => e = .returned (.bool true) ∧ ∃ m, w' = w3.drewN m) := wiInts_same x c2 y c3 0 [] w3 (.inl rfl) (.inl rfl) rfl (by omega)
      clear hO2 hI3 b1 b2 b3 bel2 HI2 HSP
      go_wp2_with fail
      refine HE.out.mono ?_
      rintro e w4 ⟨rfl, m4, hw4⟩
      have b4 : Below w.heap.size w w4 := by rw [hw4]; exact below_drewN bel3 _
      clear hw4 bel3
      go_wp2_with fail
      go_ret
      exact ⟨rfl, b4⟩
    · obtain ⟨rL, rE, rB⟩ := Rg.ans_some hres
      have hval : Rg.Valid s at_ sz ct := by
        unfold Rg.res at hres
        split at hres
        · assumption
        · cases hres
      have hget := Rg.res_ok hval
      rw [hres] at hget
      obtain ⟨v1, v2, v3, v4, v5, v6, v7⟩ := hval
      obtain ⟨S, rfl⟩ := Int.eq_ofNat_of_zero_le (show 0 ≤ sz by omega)
      obtain ⟨N, rfl⟩ := Int.eq_ofNat_of_zero_le v3
      obtain ⟨A, rfl⟩ := Int.eq_ofNat_of_zero_le v5
      rw [Int.toNat_natCast, Int.toNat_natCast, Int.toNat_natCast] at hget
      obtain ⟨_, hEs, hlN⟩ := Rg.get_end s S N A N l E (Nat.le_refl _) hget.symm
      have hE9 : E ≤ s.size := hEs (by omega)
      have HK : Hid (∀ k : Nat, k ≤ N → (Rg.ansL s A S k = [] ∧ Rg.ansE s A S k = 0 ∧ Rg.ansB s A S k = false) ∨ (∃ F : Nat, F ≤ E ∧ Rg.ansL s A S k = l.take k ∧ Rg.ansE s A S k = (F : Int) ∧ Rg.ansB s A S k = true)) := fun k hk => by
        rcases hr : Rg.res s A S k with _ | ⟨l', F⟩
        · exact .inl (Rg.ans_none hr)
        · obtain ⟨q1, q2, q3⟩ := Rg.ans_some hr
          have hv : Rg.Valid s A S k := ⟨v1, v2, by omega, by omega, v5, v6, v7⟩
          have hg := Rg.res_ok hv
          rw [hr, Int.toNat_natCast, Int.toNat_natCast, Int.toNat_natCast] at hg
          obtain ⟨p1, p2⟩ := Rg.get_pre s S N A N k l l' E F (Nat.le_refl _) hk hget.symm hg.symm
          exact .inr ⟨F, p2, by rw [q1, p1], q2, q3⟩
      have HL : Hid (l.length = N) := hlN
      have HI1 := HIM.out w1 (N : Int)
      rw [rL, rE, rB, HL.out] at HI1
      rw [rL, rE, rB, HL.out] at HSP
      have HI2 : Hid (Calls Try.prog 16 #[.string s, .int .i64 (A : Int), .int .i64 (S : Int), .int .i64 (N : Int)] w1 fun e w' => (∃ ao cap, e = .returned (.tuple #[.slice ao N cap, .int .i64 (E : Int), .bool true]) ∧ Owns w' w1.heap.size ao l ∧ N ≤ cap) ∧ Below w1.heap.size w1 w') := HI1
      have hN1 : N ≤ 1000 := by omega
      have hEi : (E : Int) ≤ (s.size : Int) := by omega
      clear HI1 hres rL rE rB hget hEs hlN v1 v2 v3 v4 v5 v6 v7
      go_wp2_with fail
      refine HI2.out.mono ?_
      rintro e w2 ⟨⟨x, c2, rfl, hO2, hNc⟩, b2⟩
      have bel2 := b1.trans (b2.mono b1.size)
      go_wp2_with fail
      refine (HSP.out _).mono ?_
      rintro e w3 ⟨⟨y, c3, rfl, hI3⟩, b3⟩
      have bel3 := bel2.trans (b3.mono bel2.size)
      have hX3 := hO2.ints.kept b3
      have HE : Hid (Calls Try.prog 17 #[.slice x N c2, .slice y N c3] w3 fun e w' => e = .returned (.bool true) ∧ ∃ m, w' = w3.drewN m) := wiInts_same x c2 y c3 N l w3 hX3 hI3 HL.out (by omega)
      have HNC : Hid (N ≤ c2) := hNc
      clear hNc hO2 hI3 b1 b2 b3 bel2 HI2 HSP
      go_wp2_with fail
      refine HE.out.mono ?_
      rintro e w4 ⟨rfl, m4, hw4⟩
      have b4 : Below w.heap.size w w4 := by rw [hw4]; exact below_drewN bel3 _
      have hX4 : Ints w4 x l := by rw [hw4]; exact hX3
      clear hw4 bel3 hX3 HE
      go_wp2_with fail
      go_loopw [13] (fun i wr => ∃ k : Nat, k ≤ N + 1 ∧ i = .int .i64 (k : Int) ∧ Ints wr x l ∧ Below w.heap.size w wr) (fun i _ => N + 1 - (intOf i).toNat)
      case atStart => exact ⟨0, by omega, rfl, hX4, b4⟩
      case round =>
        obtain ⟨k, hk, rfl, hX, hb⟩ := hrel
        clear hX4 b4
        by_cases hkN : k ≤ N
        · have hki : (k : Int) ≤ (N : Int) := by omega
          have hkc : (k : Int) ≤ (c2 : Int) := by have := HNC.out; omega
          have HI3 := HIM.out wr (k : Int)
          rcases HK.out k hkN with ⟨q1, q2, q3⟩ | ⟨F, hF, q1, q2, q3⟩
          · rw [q1, q2, q3] at HI3
            have HI4 : Hid (Calls Try.prog 16 #[.string s, .int .i64 (A : Int), .int .i64 (S : Int), .int .i64 (k : Int)] wr fun e w' => (∃ ao cap, e = .returned (.tuple #[.slice ao 0 cap, .int .i64 0, .bool false]) ∧ Owns w' wr.heap.size ao [] ∧ 0 ≤ cap) ∧ Below wr.heap.size wr w') := HI3
            clear HI3 q1 q2 q3
            go_wp2_with fail
            refine HI4.out.mono ?_
            rintro e w5 ⟨⟨z, c5, rfl, hO5, -⟩, b5⟩
            have HF : Hid (Ints w5 x l ∧ Below w.heap.size w w5) := ⟨hX.kept b5, hb.trans (b5.mono hb.size)⟩
            clear hO5 b5 hX hb HI4
            go_wp2_with fail
            go_roundw
            case rel => exact ⟨k + 1, by omega, by go_num, HF.out⟩
            case measure => simp [intOf]; omega
          · rw [q1, q2, q3, List.length_take, Nat.min_eq_left (by rw [HL.out]; exact hkN)] at HI3
            have HI4 : Hid (Calls Try.prog 16 #[.string s, .int .i64 (A : Int), .int .i64 (S : Int), .int .i64 (k : Int)] wr fun e w' => (∃ ao cap, e = .returned (.tuple #[.slice ao k cap, .int .i64 (F : Int), .bool true]) ∧ Owns w' wr.heap.size ao (l.take k) ∧ k ≤ cap) ∧ Below wr.heap.size wr w') := HI3
            have hFi : (F : Int) ≤ (E : Int) := by omega
            clear HI3 q1 q2 q3
            go_wp2_with fail
            refine HI4.out.mono ?_
            rintro e w5 ⟨⟨z, c5, rfl, hO5, -⟩, b5⟩
            have HF : Hid (Ints w5 x l ∧ Below w.heap.size w w5) := ⟨hX.kept b5, hb.trans (b5.mono hb.size)⟩
            have HE : Hid (∀ cc, Calls Try.prog 17 #[.slice z k c5, .slice x k cc] w5 fun e w' => e = .returned (.bool true) ∧ ∃ m, w' = w5.drewN m) := fun cc => wiInts_same z c5 x cc k (l.take k) w5 hO5.ints (HF.out.1.takes k) (by rw [List.length_take, HL.out]; omega) (by omega)
            clear hO5 b5 hX hb HI4
            go_wp2_with fail
            refine (HE.out _).mono ?_
            rintro e w6 ⟨rfl, m6, hw6⟩
            have HF6 : Hid (Ints w6 x l ∧ Below w.heap.size w w6) := ⟨by rw [hw6]; exact HF.out.1, by rw [hw6]; exact below_drewN HF.out.2 _⟩
            clear hw6 HF HE
            go_wp2_with fail
            go_roundw
            case rel => exact ⟨k + 1, by omega, by go_num, HF6.out⟩
            case measure => simp [intOf]; omega
        · have hki : ¬ (k : Int) ≤ (N : Int) := by omega
          clear hX HIM HK
          go_wp2_with fail
          go_ret
          exact ⟨rfl, hb⟩
end Go.Proofs.Ytmcjdilmmabiaaa
