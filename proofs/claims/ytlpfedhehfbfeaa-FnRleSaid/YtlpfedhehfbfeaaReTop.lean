/- RlePut of the specification. -/
import Derived.Test.YtlpfedhehfbfeaaReSpec
namespace Go.Proofs.Ytlpfedhehfbfeaa
open Go.RowKit

/-- a list of rows in memory -/
def Rows2 (w : World) (a : Option Addr) (ls : List (List Int)) : Prop :=
  ls = [] ∨ ∃ R off, a = some ⟨R, off, none⟩ ∧ R < w.heap.size ∧ ∀ i (h : i < ls.length), ∃ a' cap, w.cell? ⟨R, off + i, none⟩ = some (.slice a' ls[i].length cap) ∧ Ints w a' ls[i] ∧ ls[i].length ≤ cap
theorem Rows2.kept {w w' : World} {a : Option Addr} {ls : List (List Int)} (h : Rows2 w a ls) (hb : Below w.heap.size w w') : Rows2 w' a ls := by
  rcases h with e | ⟨R, off, rfl, hR, hc⟩
  · exact .inl e
  · refine .inr ⟨R, off, rfl, Nat.lt_of_lt_of_le hR hb.size, fun i hi => ?_⟩
    obtain ⟨a', cap, h1, h2, h3⟩ := hc i hi
    exact ⟨a', cap, (hb.cell (p := ⟨R, off + i, none⟩) hR).trans h1, h2.kept hb, h3⟩
theorem Rows2.at {w : World} {a : Option Addr} {ls : List (List Int)} (h : Rows2 w a ls) {k : Nat} (hk : k < ls.length) : ∃ R off a' cap, a = some ⟨R, off, none⟩ ∧ w.cell? ⟨R, off + k, none⟩ = some (.slice a' ls[k].length cap) ∧ Ints w a' ls[k] := by
  rcases h with e | ⟨R, off, rfl, hR, hc⟩
  · rw [e] at hk; simp at hk
  · obtain ⟨a', cap, h1, h2, _⟩ := hc k hk
    exact ⟨R, off, a', cap, rfl, h1, h2⟩
theorem app2 (q : List UInt8) (c d : UInt8) : ByteArray.mk q.toArray ++ ByteArray.mk #[c, d] = ByteArray.mk (q ++ [c, d]).toArray := by
  rw [show (#[c, d] : Array UInt8) = [c, d].toArray from rfl, ByteArray.mk_append_mk]

set_option linter.unusedSimpArgs false in
set_option maxHeartbeats 4000000 in
set_option maxRecDepth 20000 in
theorem spec_rlePut (a : Option Addr) (cap n : Nat) (ls : List (List Int)) (w : World) (h : Rows2 w a ls) (hn : ls.length = n) (hnb : n ≤ 2000000) (hm : ∀ l ∈ ls, l.length ≤ 2000000) :
    Calls Try.prog 9 #[.slice a n cap] w fun e w' => e = .returned (.string ⟨(Re.all ls).toArray⟩) ∧ Below w.heap.size w w' := by
  by_cases hbig : 100 < n
  · have hbi : (100 : Int) < (n : Int) := by omega
    have HF : Hid (Re.all ls = []) := Re.all_many (by omega)
    clear h hn hm
    go_enter Try.func9, Try.ntmps9
    go_wp2_with fail
    go_ret
    exact ⟨by rw [HF.out]; rfl, Below.refl _ _⟩
  have hbi : ¬ (100 : Int) < (n : Int) := by omega
  have HR : Hid (Rows2 w a ls) := h
  have HN : Hid (ls.length = n) := hn
  have HM : Hid (∀ l ∈ ls, l.length ≤ 2000000) := hm
  clear h hn hm
  go_enter Try.func9, Try.ntmps9
  go_wp2_with fail
  go_loopw [3, 4] (fun o i wr => ∃ (k : Nat) (q : List UInt8), k ≤ n ∧ i = .int .i64 (k : Int) ∧ o = .string ⟨q.toArray⟩ ∧ Hid (q = Re.part (ls.take k) ++ Re.sep k n ∧ (∀ l ∈ ls.take k, Re.okRow l = true) ∧ q.length ≤ 300 * k) ∧ Hid (Below w.heap.size w wr)) (fun _ i _ => n - (intOf i).toNat)
  case atStart => exact ⟨0, [], Nat.zero_le _, rfl, rfl, ⟨by unfold Re.sep; rw [if_neg (by omega)]; simp [Re.part], by simp, Nat.le_refl _⟩, Below.refl _ _⟩
  case round =>
    obtain ⟨k, q, hk, rfl, rfl, HQ, HB⟩ := hrel
    by_cases hlt : k < n
    · have hki : (k : Int) < (n : Int) := by omega
      have hkl : k < ls.length := by rw [HN.out]; exact hlt
      obtain ⟨R, off, a', cap', rfl, hcell, hints⟩ := (HR.out.kept HB.out).at hkl
      have hmb : ls[k].length ≤ 2000000 := HM.out _ (List.getElem_mem hkl)
      obtain ⟨l, hl⟩ : ∃ l, l = ls[k] := ⟨_, rfl⟩
      have HLK : Hid (l = ls[k]) := hl
      rw [← hl] at hcell hints hmb
      have HI : Hid (Ints wr a' l) := hints
      obtain ⟨m, hm⟩ : ∃ m, m = l.length := ⟨_, rfl⟩
      have HML : Hid (m = l.length) := hm
      rw [← hm] at hcell hmb
      have hql : q.length ≤ 30000 := by have := HQ.out.2.2; omega
      clear hints hl hm
      go_wp2_with fail
      go_loop [5] (fun i => ∃ j : Nat, j ≤ m ∧ i = .int .i64 (j : Int) ∧ Hid (∀ i (hi : i < l.length), i < j → 0 ≤ l[i] ∧ l[i] ≤ 255) ∧ (0 < j → m ≤ 100)) (fun i => m - (intOf i).toNat)
      case atStart => exact ⟨0, Nat.zero_le _, rfl, fun i _ h => by omega, fun h => by omega⟩
      case round =>
        obtain ⟨j, hj, rfl, HJ, hj1⟩ := hrel
        by_cases hjlt : j < m
        · have hji : (j : Int) < (m : Int) := by omega
          have hjl : j < l.length := by rw [← HML.out]; exact hjlt
          obtain ⟨b, o2, rfl, hbl, hc2⟩ : ∃ b o2, a' = some ⟨b, o2, none⟩ ∧ b < wr.heap.size ∧ ∀ i (h : i < l.length), wr.cell? ⟨b, o2 + i, none⟩ = some (.int .i64 l[i]) := by
            rcases HI.out with e | h
            · rw [e] at hjl; simp at hjl
            · exact h
          have hcx := hc2 j hjl
          clear hc2
          by_cases hok : 0 ≤ l[j] ∧ l[j] ≤ 255
          · have HIN : Hid (∀ w : World, Calls Try.prog 25 #[.int .i64 l[j], .int .i64 0, .int .i64 255] w fun e w' => e = .returned (.bool true) ∧ w' = w) := fun w => l1In_yes _ _ _ w hok.1 hok.2
            have HJ2 : Hid (∀ i (hi : i < l.length), i < j + 1 → 0 ≤ l[i] ∧ l[i] ≤ 255) := fun i hi h => by
              by_cases e : i = j
              · subst e; exact hok
              · exact HJ.out i hi (by omega)
            generalize l[j] = v at *
            by_cases hm1 : m ≤ 100
            · have d1 : ¬ (100 : Int) < (m : Int) := by omega
              clear hok HJ
              go_wp2_with fail
              refine (HIN.out _).mono ?_
              rintro e v0 ⟨rfl, hv0⟩
              replace hv0 := hv0.symm
              subst hv0
              clear HIN
              go_wp2_with fail
              go_round
              case rel => exact ⟨j + 1, by omega, by go_num, HJ2.out, fun _ => hm1⟩
              case measure => simp [intOf]; omega
            · have d1 : (100 : Int) < (m : Int) := by omega
              have HF : Hid (Re.all ls = []) := Re.all_bad k hkl (by rw [← HLK.out]; exact Re.okRow_long (by rw [← HML.out]; omega))
              clear hok HJ
              go_wp2_with fail
              refine (HIN.out _).mono ?_
              rintro e v0 ⟨rfl, hv0⟩
              replace hv0 := hv0.symm
              subst hv0
              clear HIN
              go_wp2_with fail
              go_ret
              exact ⟨by rw [HF.out]; rfl, HB.out⟩
          · have HIN : Hid (∀ w : World, Calls Try.prog 25 #[.int .i64 l[j], .int .i64 0, .int .i64 255] w fun e w' => e = .returned (.bool false) ∧ w' = w) := fun w => l1In_no _ _ _ w hok
            have HF : Hid (Re.all ls = []) := Re.all_bad k hkl (by rw [← HLK.out]; exact Re.okRow_no j hjl hok)
            generalize l[j] = v at *
            clear hok HJ
            go_wp2_with fail
            refine (HIN.out _).mono ?_
            rintro e v0 ⟨rfl, hv0⟩
            replace hv0 := hv0.symm
            subst hv0
            clear HIN
            go_wp2_with fail
            go_ret
            exact ⟨by rw [HF.out]; rfl, HB.out⟩
        · have hji : ¬ (j : Int) < (m : Int) := by omega
          have hjm : j = m := by omega
          subst hjm
          have hj100 : j ≤ 100 := by
            by_cases h0 : 0 < j
            · exact hj1 h0
            · omega
          have hokr : Re.okRow l = true := Re.okRow_yes (by rw [← HML.out]; exact hj100) (fun i hi => HJ.out i hi (by rw [HML.out]; exact hi))
          have HRW : Hid (∀ w2, Below wr.heap.size wr w2 → Calls Try.prog 26 #[.slice a' j cap'] w2 fun e w' => e = .returned (.string ⟨(Re.row l).toArray⟩) ∧ Below w2.heap.size w2 w') := fun w2 hb => l7Row_any a' cap' j l w2 (HI.out.kept hb) HML.out.symm hj100 (Re.okRow_fit hokr)
          have hrl := Re.row_len l
          rw [← HML.out] at hrl
          have HPS : Hid (q ++ Re.row l = Re.part (ls.take (k + 1)) ∧ (∀ l ∈ ls.take (k + 1), Re.okRow l = true)) := by
            refine ⟨?_, ?_⟩
            · rw [HQ.out.1, HLK.out, ← HN.out]; exact Re.part_step hkl
            · intro x hx
              rw [List.take_succ_eq_append_getElem hkl] at hx
              rcases List.mem_append.1 hx with h | h
              · exact HQ.out.2.1 x h
              · simp at h; rw [h, ← HLK.out]; exact hokr
          have HQL : Hid (q.length ≤ 300 * k) := HQ.out.2.2
          generalize Re.row l = r at *
          have hl1 : (ByteArray.mk q.toArray).size ≤ 30000 := by simp [ByteArray.size]; exact hql
          have hl2 : (ByteArray.mk r.toArray).size ≤ 200 := by simp [ByteArray.size]; omega
          have hs1 : ByteArray.mk q.toArray ++ ByteArray.mk r.toArray = ByteArray.mk (q ++ r).toArray := by rw [ByteArray.mk_append_mk]
          have hl3 : (ByteArray.mk (q ++ r).toArray).size ≤ 30200 := by simp [ByteArray.size]; omega
          clear HJ hj1 HQ HI hokr
          go_wp2_with fail
          refine (HRW.out _ (Below.refl _ _)).mono ?_
          rintro e w3 ⟨rfl, b3⟩
          have HB3 : Hid (Below w.heap.size w w3) := HB.out.trans (b3.mono HB.out.size)
          clear HRW b3 HB
          by_cases hnx : k + 1 < n
          · have hni : (k : Int) + 1 < (n : Int) := by omega
            obtain ⟨t, ht⟩ : ∃ t : List UInt8, t = [UInt8.ofNat 0, UInt8.ofNat 0] := ⟨_, rfl⟩
            have HT : Hid (t = [UInt8.ofNat 0, UInt8.ofNat 0]) := ht
            have htx : Sem.run Try.prog (convert 22 9 (.slice (some ⟨w3.heap.size, 0, none⟩) 2 2)) (w3.alloc (.cells #[.int .u8 0, .int .u8 0] 5)) = .ok (.string ⟨t.toArray⟩) (w3.alloc (.cells #[.int .u8 0, .int .u8 0] 5)) := by rw [ht]; exact run_text2 w3 0 0 w3.heap.size rfl
            have hlt2 : (ByteArray.mk t.toArray).size = 2 := by rw [ht]; rfl
            have hs2 : ByteArray.mk (q ++ r).toArray ++ ByteArray.mk t.toArray = ByteArray.mk (q ++ r ++ t).toArray := by rw [ByteArray.mk_append_mk]
            clear ht
            have HQ2 : Hid (q ++ r ++ t = Re.part (ls.take (k + 1)) ++ Re.sep (k + 1) n ∧ (∀ l ∈ ls.take (k + 1), Re.okRow l = true) ∧ (q ++ r ++ t).length ≤ 300 * (k + 1)) := by
              refine ⟨?_, HPS.out.2, ?_⟩
              · rw [HPS.out.1, HT.out]; unfold Re.sep; rw [if_pos ⟨by omega, hnx⟩]; rfl
              · have := HQL.out
                rw [List.length_append, List.length_append, HT.out]
                simp
                omega
            clear HPS HQL
            go_wp2_with fail
            go_roundw
            case rel => exact ⟨k + 1, _, by omega, by go_num, rfl, by rw [← List.append_assoc]; exact HQ2, HB3.out.alloc HB3.out.size _⟩
            case measure => simp [intOf]; omega
          · have hni : ¬ (k : Int) + 1 < (n : Int) := by omega
            have HQ2 : Hid (q ++ r = Re.part (ls.take (k + 1)) ++ Re.sep (k + 1) n ∧ (∀ l ∈ ls.take (k + 1), Re.okRow l = true) ∧ (q ++ r).length ≤ 300 * (k + 1)) := by
              refine ⟨?_, HPS.out.2, ?_⟩
              · rw [HPS.out.1]; unfold Re.sep; rw [if_neg (by omega), List.append_nil]
              · have := HQL.out
                rw [List.length_append]
                omega
            clear HPS HQL
            go_wp2_with fail
            go_roundw
            case rel => exact ⟨k + 1, _, by omega, by go_num, rfl, HQ2.out, HB3.out⟩
            case measure => simp [intOf]; omega
    · have hki : ¬ (k : Int) < (n : Int) := by omega
      have hkn : k = n := by omega
      subst hkn
      have HF : Hid (Re.all ls = q ++ [UInt8.ofNat 0, UInt8.ofNat 1]) := by
        have ht : ls.take k = ls := List.take_of_length_le (by rw [HN.out]; exact Nat.le_refl _)
        have h := HQ.out
        rw [ht] at h
        show _ = _
        rw [Re.all_good (by rw [HN.out]; omega) h.2.1, h.1]
        unfold Re.sep
        rw [if_neg (by omega), List.append_nil]
        rfl
      have hql : q.length ≤ 30000 := by have := HQ.out.2.2; omega
      have hl1 : (ByteArray.mk q.toArray).size ≤ 30000 := by simp [ByteArray.size]; exact hql
      obtain ⟨t, ht⟩ : ∃ t : List UInt8, t = [UInt8.ofNat 0, UInt8.ofNat 1] := ⟨_, rfl⟩
      have HT : Hid (t = [UInt8.ofNat 0, UInt8.ofNat 1]) := ht
      have htx : Sem.run Try.prog (convert 22 9 (.slice (some ⟨wr.heap.size, 0, none⟩) 2 2)) (wr.alloc (.cells #[.int .u8 0, .int .u8 1] 5)) = .ok (.string ⟨t.toArray⟩) (wr.alloc (.cells #[.int .u8 0, .int .u8 1] 5)) := by rw [ht]; exact run_text2 wr 0 1 wr.heap.size rfl
      have hlt2 : (ByteArray.mk t.toArray).size = 2 := by rw [ht]; rfl
      have hs2 : ByteArray.mk q.toArray ++ ByteArray.mk t.toArray = ByteArray.mk (q ++ t).toArray := by rw [ByteArray.mk_append_mk]
      clear ht
      clear HQ
      go_wp2_with fail
      go_ret
      exact ⟨by rw [HF.out, ← HT.out]; rfl, HB.out.alloc HB.out.size _⟩
end Go.Proofs.Ytlpfedhehfbfeaa
