/- Numbers that fit, and their text, as the program makes it. -/
import Derived.Test.YtcgmmpfckmhahaaRtMath
import Derived.Test.YtcgmmpfckmhahaaPutWalks
import Derived.Test.YtcgmmpfckmhahaaIntsWalks
import Derived.Test.YtcgmmpfckmhahaaOwnText
namespace Go.Proofs.Ytcgmmpfckmhahaa
open Go.RowKit

theorem OwnT.kept {w w' : World} {B n : Nat} {v : Value} {l : List UInt8} (h : OwnT w B v n l) (b : Below w.heap.size w w') : OwnT w' B v n l := by
  have hg : w.grownBy w' none := ⟨b.os, b.tape, b.output, b.size, fun k hk _ => b.block k hk⟩
  refine World.ownsRow.kept (show World.ownsRow _ _ _ _ _ _ _ from h) hg ?_
  cases v.ownBlock with
  | none => exact .inl rfl
  | some k => exact .inr (by simp)

/-- a text more, at a step of a region that draws its order -/
theorem step_appTs {ops : Array Oper} {o : Oper} {a : Act} {K : Act → World → Prop} {Q : Exit → Act → World → Prop} {E : Prop} (w0 : World) (hgd : o.guard = none) (s x : Operand)
    (ho : o.op = .call { callee := .builtin .append, args := #[s, x], argTypes := #[81, 9] })
    (base : Nat) (v : Value) (n : Nat) (l p : List UInt8) (hs : a.eval s = v) (hown : OwnT w0 base v n l) (hx : a.eval x = .string ⟨p.toArray⟩) (h0 : 0 < n) (hn : n + p.length ≤ 2000000) (hb : base ≤ w0.heap.size)
    (h : ∀ g cap w', OwnT w' base (.slice (some ⟨g, 0, none⟩) (n + p.length) cap) (n + p.length) (l ++ p) → w0.grownBy w' v.ownBlock → K (a.put o.dst (.slice (some ⟨g, 0, none⟩) (n + p.length) cap)) w') :
    if Region.wanted o (yielded ops a.tmps) = true then Oper.wp Try.prog o a w0 K Q else E := by
  obtain ⟨i0, hi0, hz0, hz1, hz2⟩ := info_parts info_u8t
  have hsz : (ByteArray.mk p.toArray).size = p.length := by simp [ByteArray.size]
  have hw : Region.wanted o (yielded ops a.tmps) = true := by simp [Region.wanted, hgd]
  rw [if_pos hw]
  obtain ⟨v', w', hr, hown', hg, _⟩ := Go.Lib.run_append_own_string (P := Try.prog) w0 base 81 9 o.type 5 i0 Try.underlying81 Try.underlying9 hi0 hz0 hz1 hz2 v n (u8V l) hown ⟨p.toArray⟩ (by rw [hsz]; unfold maxLen; omega) (by rw [hsz]; omega) hb
  rw [hsz, u8V_str, u8V_append] at hown'
  obtain ⟨g, cap, rfl⟩ : ∃ g cap, v' = .slice (some ⟨g, 0, none⟩) (n + p.length) cap := by
    rcases hown'.2 with ⟨_, h⟩ | ⟨g, cap, _, h, _⟩
    · omega
    · exact ⟨g, cap, h⟩
  have hk := h g cap w' hown' hg
  unfold Oper.wp
  simp only [execOp, ho, resolve, invoke, builtin, Sem.run_bind, Sem.run_pure, Result.andThen_ok, List.map_toArray, List.map_cons, List.map_nil, hs, hx, hr]
  exact hk

theorem shr_none' (N B S : Nat) (hB : B = 8 * S) (h : N < 256 ^ S) : ((N : Int) / 2 ^ B != 0) = false := by rw [hB]; exact shr_none N S h
theorem shr_some' (N B S : Nat) (hB : B = 8 * S) (h : ¬ N < 256 ^ S) : ((N : Int) / 2 ^ B != 0) = true := by rw [hB]; exact shr_some N S h

set_option maxHeartbeats 1000000 in
theorem numbersFit_any (a : Option Addr) (n cc B S : Nat) (l : List Int) (w : World) (hl : Ints w a l) (hn : l.length = n) (hnb : n ≤ 2000000) (hB : B = 8 * S) (hS : S ≤ 4) :
    Calls Try.prog 75 #[.slice a n cc, .int .i64 (B : Int)] w fun e w' => e = .returned (.bool (Rt.fit S l)) ∧ w' = w := by
  have HL : Hid (Ints w a l) := hl
  have HN : Hid (l.length = n) := hn
  have HB : Hid (B = 8 * S) := hB
  have hB32 : B ≤ 32 := by omega
  clear hl hn hB
  go_enter Try.func75, Try.ntmps75
  go_wp2_with fail
  go_loopw [9] (fun i wr => ∃ k : Nat, k ≤ n ∧ i = .int .i64 (k : Int) ∧ (∀ j (hj : j < l.length), j < k → 0 ≤ l[j] ∧ l[j] < ((256 ^ S : Nat) : Int)) ∧ wr = w) (fun i _ => n - (intOf i).toNat)
  case atStart => exact ⟨0, Nat.zero_le _, rfl, fun j _ hj => by omega, rfl⟩
  case round =>
    obtain ⟨k, hk, rfl, hall, rfl⟩ := hrel
    have HA : Hid (∀ j (hj : j < l.length), j < k → 0 ≤ l[j] ∧ l[j] < ((256 ^ S : Nat) : Int)) := hall
    clear hall
    by_cases hlt : k < n
    · have hkl : k < l.length := by rw [HN.out]; exact hlt
      rcases HL.out with h | ⟨b, off, rfl, hb, hc⟩
      · rw [h] at hkl; simp at hkl
      have hcx := hc k hkl
      have HZ : Hid (∀ z, z = l[k] → (¬ (0 ≤ z ∧ z < ((256 ^ S : Nat) : Int)) → Rt.fit S l = false) ∧ ((0 ≤ z ∧ z < ((256 ^ S : Nat) : Int)) → ∀ j (hj : j < l.length), j < k + 1 → 0 ≤ l[j] ∧ l[j] < ((256 ^ S : Nat) : Int))) := by
        rintro z rfl
        refine ⟨fun h => Rt.fit_no k hkl h, fun h j hj hjk => ?_⟩
        by_cases e : j = k
        · subst e; exact h
        · exact HA.out j hj (by omega)
      obtain ⟨z, hz⟩ : ∃ z, z = l[k] := ⟨_, rfl⟩
      have HZ1 := HZ.out z hz
      rw [← hz] at hcx
      have HZ2 : Hid ((¬ (0 ≤ z ∧ z < ((256 ^ S : Nat) : Int)) → Rt.fit S l = false) ∧ ((0 ≤ z ∧ z < ((256 ^ S : Nat) : Int)) → ∀ j (hj : j < l.length), j < k + 1 → 0 ≤ l[j] ∧ l[j] < ((256 ^ S : Nat) : Int))) := HZ1
      clear hc HZ HZ1 hz HA HL
      by_cases h0 : z < 0
      · have HF : Hid (Rt.fit S l = false) := HZ2.out.1 (by omega)
        have d0 : decide (z < 0) = true := by simpa using h0
        clear HZ2
        go_wp2_with fail
        go_ret
        exact ⟨by rw [HF.out]; rfl, rfl⟩
      · obtain ⟨N, rfl⟩ := Int.eq_ofNat_of_zero_le (show 0 ≤ z by omega)
        have d0 : decide ((N : Int) < 0) = false := by simp
        by_cases hN : N < 256 ^ S
        · have hsr := shr_none' N B S HB.out hN
          have HG : Hid (∀ j (hj : j < l.length), j < k + 1 → 0 ≤ l[j] ∧ l[j] < ((256 ^ S : Nat) : Int)) := HZ2.out.2 ⟨by omega, by omega⟩
          clear HZ2 hN
          go_wp2_with fail
          go_roundw
          case rel => exact ⟨k + 1, by omega, by go_num, HG.out, by first | rfl | trivial⟩
          case measure => simp [intOf]; omega
        · have hsr := shr_some' N B S HB.out hN
          have HF : Hid (Rt.fit S l = false) := HZ2.out.1 (by omega)
          clear HZ2 hN
          go_wp2_with fail
          go_ret
          exact ⟨by rw [HF.out]; rfl, rfl⟩
    · have HF : Hid (Rt.fit S l = true) := Rt.fit_yes (fun i hi => HA.out i hi (by have := HN.out; omega))
      clear HA HL
      go_wp2_with fail
      go_ret
      exact ⟨by rw [HF.out]; rfl, rfl⟩

set_option maxHeartbeats 1000000 in
theorem numberText_any (b off cap n S : Nat) (l : List Int) (w : World) (hl : b < w.heap.size ∧ ∀ i (h : i < l.length), w.cell? ⟨b, off + i, none⟩ = some (.int .i64 l[i])) (hn : l.length = n) (hnb : n ≤ 1000) (hS1 : 1 ≤ S) (hS : S ≤ 4) (hf : Rt.fit S l = true) :
    Calls Try.prog 20 #[.slice (some ⟨b, off, none⟩) n cap, .int .i64 (S : Int), .bool false] w fun e w' => e = .returned (.string ⟨(Rt.txt S l).toArray⟩) ∧ Below w.heap.size w w' := by
  have HL : Hid (b < w.heap.size ∧ ∀ i (h : i < l.length), w.cell? ⟨b, off + i, none⟩ = some (.int .i64 l[i])) := hl
  have HN : Hid (l.length = n) := hn
  have HF : Hid (Rt.fit S l = true) := hf
  clear hl hn hf
  go_enter Try.func20, Try.ntmps20
  go_wp2_with fail
  go_loopw [7, 12] (fun v i wr => ∃ (k m : Nat) (q : List UInt8), k ≤ n ∧ i = .int .i64 (k : Int) ∧ Hid (q = Rt.txt S (l.take k)) ∧ m ≤ 4 * k ∧ OwnT wr w.heap.size v m q ∧ Below w.heap.size w wr) (fun _ i _ => n - (intOf i).toNat)
  case atStart => exact ⟨0, 0, [], Nat.zero_le _, rfl, rfl, Nat.zero_le _, ownT_nil _ _, Below.refl _ _⟩
  case round =>
    obtain ⟨k, m, q, hk, rfl, HQ, hm, hown, hbel⟩ := hrel
    have hbs := hbel.size
    by_cases hlt : k < n
    · have hkl : k < l.length := by rw [HN.out]; exact hlt
      have hcx := (hbel.cell (p := ⟨b, off + k, none⟩) HL.out.1).trans (HL.out.2 k hkl)
      obtain ⟨hz0, hz1⟩ := Rt.fit_at HF.out k hkl
      have HT : Hid (Rt.txt S (l.take (k + 1)) = Rt.txt S (l.take k) ++ Pt.low (l[k]).toNat S) := by
        show _ = _
        rw [List.take_succ_eq_append_getElem hkl, Rt.txt_snoc]
      generalize l[k] = z at *
      obtain ⟨N, rfl⟩ := Int.eq_ofNat_of_zero_le hz0
      rw [Int.toNat_natCast] at HT
      have HC : Hid (∀ w : World, Calls Try.prog 46 #[.int .i64 (N : Int), .int .i64 (S : Int), .bool false] w fun e w' => e = .returned (.string ⟨(Pt.low N S).toArray⟩) ∧ Below w.heap.size w w') := fun w => impl_numPut_low N S w hS1 hS (by omega)
      have hpl : (Pt.low N S).length = S := Pt.low_len S N
      have HP : Hid ((Pt.low N S).length = S) := hpl
      generalize Pt.low N S = p at *
      clear hz0 hz1 hpl
      have hmb : m ≤ 4000 := by omega
      go_wp2_with fail
      refine (HC.out _).mono ?_
      rintro e w1 ⟨rfl, b1⟩
      clear HC
      have hown1 := hown.kept b1
      have hbel1 : Below w.heap.size w w1 := hbel.trans (b1.mono hbs)
      have hbs1 := hbel1.size
      clear hown hbel b1
      go_wp2_with (at_builtin; refine wpList_appTs w1 (by rfl) _ _ (by rfl) w.heap.size _ m q p (by rfl) hown1 (by rfl) (by have := HP.out; omega) hbs1 ?_)
      intro v5 w5 hown5 hstep
      have HO : Hid (OwnT w5 w.heap.size v5 (m + p.length) (q ++ p) ∧ Below w.heap.size w w5) := ⟨hown5, hstep _ _ hbel1 (Nat.le_refl _) hbs1⟩
      clear hown1 hown5 hstep hbel1 hbs1
      go_wp2_with fail
      go_roundw
      case rel => exact ⟨k + 1, m + p.length, q ++ p, by omega, by go_num, by show _ = _; rw [HT.out, HQ.out], by have := HP.out; omega, HO.out.1, HO.out.2⟩
      case measure => simp [intOf]; omega
    · have hkn : k = n := by omega
      have HE : Hid (q = Rt.txt S l) := by
        show _ = _
        rw [HQ.out, List.take_of_length_le (by rw [HN.out]; omega)]
      have htx := hown.text
      clear HQ HL
      go_wp2_with fail
      go_ret
      exact ⟨by rw [← HE.out]; rfl, hbel⟩
end Go.Proofs.Ytcgmmpfckmhahaa
