/- Rows packed by the specification. -/
import Derived.Test.YtlpfedhehfbfeaaReMath
import Derived.Test.YtlpfedhehfbfeaaRtSpec
namespace Go.Proofs.Ytlpfedhehfbfeaa
open Go.RowKit

theorem run_text2 (w : World) (c d : Nat) (b : Nat) (hb : b = w.heap.size) :
    Sem.run Try.prog (convert 22 9 (.slice (some ⟨b, 0, none⟩) 2 2)) (w.alloc (.cells #[.int .u8 (c : Int), .int .u8 (d : Int)] 5)) = .ok (.string ⟨#[UInt8.ofNat c, UInt8.ofNat d]⟩) (w.alloc (.cells #[.int .u8 (c : Int), .int .u8 (d : Int)] 5)) := by
  refine run_text _ ⟨b, 0, none⟩ 2 [c, d] ?_
  subst hb
  intro j v hj
  cases j with
  | zero => simp at hj; subst hj; simp [Addr.add]
  | succ j =>
    cases j with
    | zero => simp at hj; subst hj; simp [Addr.add]
    | succ j => simp at hj

set_option maxHeartbeats 4000000 in
set_option maxRecDepth 20000 in
theorem l7Row_any (a : Option Addr) (cap n : Nat) (l : List Int) (w : World) (hl : Ints w a l) (hn : l.length = n) (hnb : n ≤ 100) (hf : Rt.fit 1 l = true) :
    Calls Try.prog 26 #[.slice a n cap] w fun e w' => e = .returned (.string ⟨(Re.row l).toArray⟩) ∧ Below w.heap.size w w' := by
  have HL : Hid (Ints w a l) := hl
  have HN : Hid (l.length = n) := hn
  have HF : Hid (Rt.fit 1 l = true) := hf
  clear hl hn hf
  go_enter Try.func26, Try.ntmps26
  go_wp2_with fail
  go_loopw [3, 4] (fun o i wr => ∃ (A : Nat) (pre : List (Nat × Nat × Bool)) (q : List UInt8), A ≤ n ∧ i = .int .i64 (A : Int) ∧ o = .string ⟨q.toArray⟩ ∧ Hid (q = Re.flat l pre ∧ Rn.from_ 1 255 l 0 = pre ++ Rn.from_ 1 255 l A ∧ q.length ≤ 2 * A) ∧ Below w.heap.size w wr) (fun _ i _ => n - (intOf i).toNat)
  case atStart => exact ⟨0, [], [], Nat.zero_le _, rfl, rfl, ⟨rfl, rfl, Nat.le_refl _⟩, Below.refl _ _⟩
  case round =>
    obtain ⟨A, pre, q, hA, rfl, rfl, HQ, hbel⟩ := hrel
    have hbs := hbel.size
    by_cases hlt : A < n
    · have hAl : A < l.length := by rw [HN.out]; exact hlt
      obtain ⟨b, off, rfl, hbl, hcell⟩ : ∃ b off, a = some ⟨b, off, none⟩ ∧ b < w.heap.size ∧ ∀ i (h : i < l.length), w.cell? ⟨b, off + i, none⟩ = some (.int .i64 l[i]) := by
        rcases HL.out with e | h
        · rw [e] at hAl; simp at hAl
        · exact h
      have hLr : LiesI wr b off l := LiesI.kept ⟨hbl, hcell⟩ hbel
      have hdl : 0 < (l.drop A).length := by rw [List.length_drop]; omega
      have hsz := Rn.size_ends (l := l.drop A) (least := 1) (m := 255) hdl (by omega)
      have HFs := Rn.from_step (least := 1) (m := 255) (l := l) (k := A) (by omega) hAl
      rw [Re.size_same hdl] at hsz HFs
      rw [List.length_drop, HN.out] at hsz
      have HA1 : Hid (Calls Try.prog 44 #[.slice (some ⟨b, off, none⟩) n cap, .int .i64 (A : Int), .int .i64 255] wr fun e w' => e = .returned (.int .i64 ((Rn.same (l.drop A) 255 : Nat) : Int)) ∧ ∃ q, w' = wr.drewN q) := l7Equal_any b off cap n A 255 l wr hLr HN.out (by omega) hlt (by omega) (by omega)
      generalize Rn.same (l.drop A) 255 = z at *
      obtain ⟨hz1, hz2, hz3⟩ := hsz
      have hcx := hLr.2 A hAl
      obtain ⟨hv0, hv1⟩ := Rt.fit_at HF.out A hAl
      have hgd : l.getD A 0 = l[A] := by rw [List.getD_eq_getElem?_getD, List.getElem?_eq_getElem hAl]; rfl
      obtain ⟨N, hN⟩ := Int.eq_ofNat_of_zero_le hv0
      rw [hN] at hcx hgd hv1
      have hNb : N < 256 := by
        have : ((256 ^ 1 : Nat) : Int) = 256 := by decide
        omega
      have HQ2 : Hid (q ++ [UInt8.ofNat z, UInt8.ofNat N] = Re.flat l (pre ++ [(A, z, Rn.again 1 255 (l.drop A))]) ∧ Rn.from_ 1 255 l 0 = (pre ++ [(A, z, Rn.again 1 255 (l.drop A))]) ++ Rn.from_ 1 255 l (A + z) ∧ (q ++ [UInt8.ofNat z, UInt8.ofNat N]).length ≤ 2 * (A + z)) := by
        refine ⟨?_, ?_, ?_⟩
        · rw [Re.flat_snoc, ← HQ.out.1]
          unfold Re.piece
          rw [hgd, Int.toNat_natCast]
        · rw [HQ.out.2.1, HFs]; simp
        · rw [List.length_append]
          have := HQ.out.2.2
          simp
          omega
      have hql : q.length ≤ 200 := by have := HQ.out.2.2; omega
      have hl1 : (ByteArray.mk q.toArray).size ≤ 200 := by simp [ByteArray.size]; exact hql
      have e3 : IntKind.u8.wrap (z : Int) = (z : Int) := by simp [IntKind.wrap, IntKind.bits, IntKind.signed]; omega
      have e4 : IntKind.u8.wrap (N : Int) = (N : Int) := by simp [IntKind.wrap, IntKind.bits, IntKind.signed]; omega
      have hs2 : ByteArray.mk q.toArray ++ ByteArray.mk #[UInt8.ofNat z, UInt8.ofNat N] = ByteArray.mk (q ++ [UInt8.ofNat z, UInt8.ofNat N]).toArray := by rw [show (#[UInt8.ofNat z, UInt8.ofNat N] : Array UInt8) = [UInt8.ofNat z, UInt8.ofNat N].toArray from rfl, ByteArray.mk_append_mk]
      have hAi : (A : Int) < (n : Int) := by omega
      clear HFs hdl hgd hN hv0 hv1 HQ hLr hcell
      generalize Rn.again 1 255 (l.drop A) = ag at *
      go_wp2_with fail
      refine HA1.out.mono ?_
      rintro e w1 ⟨rfl, q1, hw⟩
      have c1 : w1.cell? ⟨b, off + A, none⟩ = some (.int .i64 (N : Int)) := by rw [hw]; exact hcx
      have B1 : Below w.heap.size w w1 := by rw [hw]; exact hbel.trans ⟨rfl, rfl, rfl, Nat.le_refl _, fun _ _ => rfl⟩
      have htx := run_text2 w1 z N w1.heap.size rfl
      clear HA1 hw hcx hbel
      go_wp2_with fail
      go_roundw
      case rel => exact ⟨A + z, _, _, by omega, by go_num, rfl, HQ2.out, B1.alloc B1.size _⟩
      case measure => simp [intOf]; omega
    · have hAi : ¬ (A : Int) < (n : Int) := by omega
      have HF2 : Hid (q = Re.row l) := by
        have h := HQ.out.2.1
        rw [Rn.from_end (k := A) (by rw [HN.out]; omega), List.append_nil] at h
        show _ = _
        unfold Re.row
        rw [h]
        exact HQ.out.1
      clear HQ
      go_wp2_with fail
      go_ret
      exact ⟨by rw [← HF2.out]; rfl, hbel⟩
end Go.Proofs.Ytlpfedhehfbfeaa
