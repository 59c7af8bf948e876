/- How much a list of pieces holds. -/
import Derived.Test.YticfbeihmkfifaaChRow
import Derived.Below
namespace Go.Proofs.Yticfbeihmkfifaa
open Go.RowKit

theorem ch_wrap (z : Int) (h1 : -9223372036854775808 ≤ z) (h2 : z ≤ 9223372036854775807) : IntKind.i64.wrap z = z := by
  simp [IntKind.wrap, IntKind.bits, IntKind.signed]
  omega

set_option maxHeartbeats 1000000 in
theorem szChunk_yes (v s : ByteArray) (L M : Nat) (w : World) (hL : L ≤ 1048576) (h : v.size + s.size + M = L) :
    Calls Try.prog 57 #[.agg #[.string v, .string s], .int .i64 (L : Int)] w fun e w' => e = .returned (.int .i64 (M : Int)) ∧ Below w.heap.size w w' := by
  obtain ⟨K, hK⟩ : ∃ K, K + v.size = L := ⟨L - v.size, by omega⟩
  have e1 : (L : Int) - (v.size : Int) = (K : Int) := by omega
  have e2 : (K : Int) - (s.size : Int) = (M : Int) := by omega
  have g1 := wrap_i64_nat K (by omega)
  have g2 := wrap_i64_nat M (by omega)
  clear h hK
  go_enter Try.func57, Try.ntmps57
  go_wp2_with fail
  go_ret
  exact ⟨rfl, (Below.refl _ _).alloc (Nat.le_refl _) _⟩

set_option maxHeartbeats 1000000 in
theorem szChunk_no (v s : ByteArray) (L : Nat) (w : World) (hL : L ≤ 1048576) (hv : v.size ≤ maxLen) (hs : s.size ≤ maxLen) (h : L < v.size + s.size) :
    Calls Try.prog 57 #[.agg #[.string v, .string s], .int .i64 (L : Int)] w fun e w' => e = .returned (.int .i64 (-1)) ∧ Below w.heap.size w w' := by
  unfold maxLen at hv hs
  by_cases h1 : L < v.size
  · obtain ⟨z, hz⟩ : ∃ z : Int, z = (L : Int) - (v.size : Int) := ⟨_, rfl⟩
    have e1 : (L : Int) - (v.size : Int) = z := hz.symm
    have hz0 : z < 0 := by omega
    have hz1 : -9223372036854775808 ≤ z := by omega
    have g1 : IntKind.i64.wrap z = z := ch_wrap z (by omega) (by omega)
    clear hz h
    go_enter Try.func57, Try.ntmps57
    go_wp2_with fail
    go_ret
    exact ⟨rfl, (Below.refl _ _).alloc (Nat.le_refl _) _⟩
  · obtain ⟨K, hK⟩ : ∃ K, K + v.size = L := ⟨L - v.size, by omega⟩
    have e1 : (L : Int) - (v.size : Int) = (K : Int) := by omega
    have g1 := wrap_i64_nat K (by omega)
    obtain ⟨z, hz⟩ : ∃ z : Int, z = (K : Int) - (s.size : Int) := ⟨_, rfl⟩
    have e2 : (K : Int) - (s.size : Int) = z := hz.symm
    have hz0 : z < 0 := by omega
    have hz1 : -9223372036854775808 ≤ z := by omega
    have g2 : IntKind.i64.wrap z = z := ch_wrap z (by omega) (by omega)
    clear hz h hK h1
    go_enter Try.func57, Try.ntmps57
    go_wp2_with fail
    go_ret
    exact ⟨rfl, (Below.refl _ _).alloc (Nat.le_refl _) _⟩

/-- too much, or all of it small -/
def SzEnd (w : World) (l : List (ByteArray × ByteArray)) (e : Ending) (w' : World) : Prop :=
  (e = .returned (.int .i64 (-1)) ∨ (∃ L : Nat, e = .returned (.int .i64 (L : Int))) ∧ l.length ≤ 1048576 ∧ ∀ p ∈ l, p.1.size ≤ 1048576 ∧ p.2.size ≤ 1048576) ∧ Below w.heap.size w w'

set_option maxHeartbeats 2000000 in
theorem szChunks_any (a : Option Addr) (n cap : Nat) (l : List (ByteArray × ByteArray)) (w : World) (h : Chs2 w a l) (hn : l.length = n) (hm : n ≤ maxLen) (hz : ∀ p ∈ l, p.1.size ≤ maxLen ∧ p.2.size ≤ maxLen) :
    Calls Try.prog 28 #[.slice a n cap, .int .i64 1048576] w (SzEnd w l) := by
  unfold maxLen at hm
  by_cases hb : 1048576 < n
  · clear h hz hn
    go_enter Try.func28, Try.ntmps28
    go_wp2_with fail
    go_ret
    exact ⟨.inl rfl, Below.refl _ _⟩
  · obtain ⟨L0, hL0⟩ : ∃ L0, L0 + n = 1048576 := ⟨1048576 - n, by omega⟩
    have e0 : (1048576 : Int) - (n : Int) = (L0 : Int) := by omega
    have g0 := wrap_i64_nat L0 (by omega)
    have hL0b : L0 ≤ 1048576 := by omega
    have HI : Hid (Chs2 w a l) := h
    have HZ : Hid (∀ p ∈ l, p.1.size ≤ maxLen ∧ p.2.size ≤ maxLen) := hz
    have HN : Hid (l.length = n) := hn
    have hzg : n ≤ l.length := by omega
    clear h hz hn hL0 hm
    go_enter Try.func28, Try.ntmps28
    go_wp2_with fail
    go_loopw [1, 5] (fun lf i wr => ∃ k L : Nat, k ≤ n ∧ L ≤ 1048576 ∧ i = .int .i64 (k : Int) ∧ lf = .int .i64 (L : Int) ∧ Hid (∀ j (h : j < l.length), j < k → (l[j]).1.size ≤ 1048576 ∧ (l[j]).2.size ≤ 1048576) ∧ Below w.heap.size w wr) (fun _ i _ => n - (intOf i).toNat)
    case atStart => exact ⟨0, L0, Nat.zero_le _, hL0b, rfl, rfl, fun j _ h => absurd h (Nat.not_lt_zero _), Below.refl _ _⟩
    case round =>
      obtain ⟨k, L, hk, hL, rfl, rfl, HA, hbel⟩ := hrel
      by_cases hlt : k < n
      · have hkl : k < l.length := by omega
        obtain ⟨b, off, rfl, hbB, hc1, hc2⟩ := HI.out.at hkl
        have e1 := (hbel.cell (p := ⟨b, off + k * 2, none⟩) hbB).trans hc1
        have e2 := (hbel.cell (p := ⟨b, off + k * 2 + 1, none⟩) hbB).trans hc2
        have hki : (k : Int) < (n : Int) := by omega
        have hzz := HZ.out _ (List.getElem_mem hkl)
        have HA2 : Hid ((l[k]).1.size ≤ 1048576 ∧ (l[k]).2.size ≤ 1048576 → ∀ j (h : j < l.length), j < k + 1 → (l[j]).1.size ≤ 1048576 ∧ (l[j]).2.size ≤ 1048576) := fun hh j h hj => by
          by_cases e : j = k
          · subst e; exact hh
          · exact HA.out j h (by omega)
        clear hc1 hc2 HA
        generalize (l[k]).1 = v at *
        generalize (l[k]).2 = s at *
        by_cases hfit : v.size + s.size ≤ L
        · obtain ⟨M, hM⟩ : ∃ M, v.size + s.size + M = L := ⟨L - (v.size + s.size), by omega⟩
          have HC : Hid (∀ w : World, Calls Try.prog 57 #[.agg #[.string v, .string s], .int .i64 (L : Int)] w fun e w' => e = .returned (.int .i64 (M : Int)) ∧ Below w.heap.size w w') := fun w => szChunk_yes v s L M w hL hM
          have HA3 := HA2.out ⟨by omega, by omega⟩
          have hMb : M ≤ 1048576 := by omega
          clear HA2 hM hzz hfit
          go_wp2_with fail
          refine (HC.out _).mono ?_
          rintro e w2 ⟨rfl, bel2⟩
          have hb2 := hbel.trans (bel2.mono hbel.size)
          clear hbel bel2 HC e1 e2
          go_wp2_with fail
          go_roundw
          case rel => exact ⟨k + 1, M, by omega, hMb, by go_num, rfl, HA3, hb2⟩
          case measure => simp [intOf]; omega
        · have HC : Hid (∀ w : World, Calls Try.prog 57 #[.agg #[.string v, .string s], .int .i64 (L : Int)] w fun e w' => e = .returned (.int .i64 (-1)) ∧ Below w.heap.size w w') := fun w => szChunk_no v s L w hL hzz.1 hzz.2 (by omega)
          clear HA2 hzz hfit
          go_wp2_with fail
          refine (HC.out _).mono ?_
          rintro e w2 ⟨rfl, bel2⟩
          have hb2 := hbel.trans (bel2.mono hbel.size)
          clear hbel bel2 HC e1 e2
          go_wp2_with fail
          go_ret
          exact ⟨.inl rfl, hb2⟩
      · have hF : l.length ≤ 1048576 ∧ ∀ p ∈ l, p.1.size ≤ 1048576 ∧ p.2.size ≤ 1048576 := by
          refine ⟨by have := HN.out; omega, fun p hp => ?_⟩
          obtain ⟨j, hj, rfl⟩ := List.getElem_of_mem hp
          exact HA.out j hj (by have := HN.out; omega)
        have HF : Hid (l.length ≤ 1048576 ∧ ∀ p ∈ l, p.1.size ≤ 1048576 ∧ p.2.size ≤ 1048576) := hF
        clear hF HA
        go_wp2_with fail
        go_ret
        exact ⟨.inr ⟨⟨L, rfl⟩, HF.out⟩, hbel⟩
end Go.Proofs.Yticfbeihmkfifaa
