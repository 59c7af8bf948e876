/- Numbers that fit, and their text, as the program makes it. -/
import Derived.Test.YtlpfedhehfbfeaaRtMath
import Derived.Test.YtlpfedhehfbfeaaPutWalks
import Derived.Test.YtlpfedhehfbfeaaIntsWalks
import Derived.Test.YtlpfedhehfbfeaaOwnText
namespace Go.Proofs.Ytlpfedhehfbfeaa
open Go.RowKit

theorem OwnT.kept {w w' : World} {B n : Nat} {v : Value} {l : List UInt8} (h : OwnT w B v n l) (b : Below w.heap.size w w') : OwnT w' B v n l := by
  have hg : w.grownBy w' none := ⟨b.os, b.tape, b.output, b.size, fun k hk _ => b.block k hk⟩
  refine World.ownsRow.kept (show World.ownsRow _ _ _ _ _ _ _ from h) hg ?_
  cases v.ownBlock with
  | none => exact .inl rfl
  | some k => exact .inr (by simp)

/-- a text more, at a step of a region that draws its order -/
theorem step_appTs {ops : Array Oper} {o : Oper} {a : Act} {K : Act → World → Prop} {Q : Exit → Act → World → Prop} {E : Prop} (w0 : World) (hgd : o.guard = none) (s x : Operand)
    (ho : o.op = .call { callee := .builtin .append, args := #[s, x], argTypes := #[22, 9] })
    (base : Nat) (v : Value) (n : Nat) (l p : List UInt8) (hs : a.eval s = v) (hown : OwnT w0 base v n l) (hx : a.eval x = .string ⟨p.toArray⟩) (h0 : 0 < n) (hn : n + p.length ≤ 2000000) (hb : base ≤ w0.heap.size)
    (h : ∀ g cap w', OwnT w' base (.slice (some ⟨g, 0, none⟩) (n + p.length) cap) (n + p.length) (l ++ p) → w0.grownBy w' v.ownBlock → K (a.put o.dst (.slice (some ⟨g, 0, none⟩) (n + p.length) cap)) w') :
    if Region.wanted o (yielded ops a.tmps) = true then Oper.wp Try.prog o a w0 K Q else E := by
  obtain ⟨i0, hi0, hz0, hz1, hz2⟩ := info_parts info_u8t
  have hsz : (ByteArray.mk p.toArray).size = p.length := by simp [ByteArray.size]
  have hw : Region.wanted o (yielded ops a.tmps) = true := by simp [Region.wanted, hgd]
  rw [if_pos hw]
  obtain ⟨v', w', hr, hown', hg, _⟩ := Go.Lib.run_append_own_string (P := Try.prog) w0 base 22 9 o.type 5 i0 Try.underlying22 Try.underlying9 hi0 hz0 hz1 hz2 v n (u8V l) hown ⟨p.toArray⟩ (by rw [hsz]; unfold maxLen; omega) (by rw [hsz]; omega) hb
  rw [hsz, u8V_str, u8V_append] at hown'
  obtain ⟨g, cap, rfl⟩ : ∃ g cap, v' = .slice (some ⟨g, 0, none⟩) (n + p.length) cap := by
    rcases hown'.2 with ⟨_, h⟩ | ⟨g, cap, _, h, _⟩
    · omega
    · exact ⟨g, cap, h⟩
  have hk := h g cap w' hown' hg
  unfold Oper.wp
  simp only [execOp, ho, resolve, invoke, builtin, Sem.run_bind, Sem.run_pure, Result.andThen_ok, List.map_toArray, List.map_cons, List.map_nil, hs, hx, hr]
  exact hk

theorem shr_none' (N B S : Nat) (hB : B = 8 * S) (h : N < 256 ^ S) : ((N : Int) / 2 ^ B != 0) = false := by rw [hB]; exact shr_none N S h
theorem shr_some' (N B S : Nat) (hB : B = 8 * S) (h : ¬ N < 256 ^ S) : ((N : Int) / 2 ^ B != 0) = true := by rw [hB]; exact shr_some N S h

set_option maxHeartbeats 1000000 in
theorem numbersFit_any (a : Option Addr) (n cc B S : Nat) (l : List Int) (w : World) (hl : Ints w a l) (hn : l.length = n) (hnb : n ≤ 2000000) (hB : B = 8 * S) (hS : S ≤ 4) :
    Calls Try.prog 23 #[.slice a n cc, .int .i64 (B : Int)] w fun e w' => e = .returned (.bool (Rt.fit S l)) ∧ w' = w := by
  have HL : Hid (Ints w a l) := hl
  have HN : Hid (l.length = n) := hn
  have HB : Hid (B = 8 * S) := hB
  have hB32 : B ≤ 32 := by omega
  clear hl hn hB
  go_enter Try.func23, Try.ntmps23
  go_wp2_with fail
  go_loopw [9] (fun i wr => ∃ k : Nat, k ≤ n ∧ i = .int .i64 (k : Int) ∧ (∀ j (hj : j < l.length), j < k → 0 ≤ l[j] ∧ l[j] < ((256 ^ S : Nat) : Int)) ∧ wr = w) (fun i _ => n - (intOf i).toNat)
  case atStart => exact ⟨0, Nat.zero_le _, rfl, fun j _ hj => by omega, rfl⟩
  case round =>
    obtain ⟨k, hk, rfl, hall, rfl⟩ := hrel
    have HA : Hid (∀ j (hj : j < l.length), j < k → 0 ≤ l[j] ∧ l[j] < ((256 ^ S : Nat) : Int)) := hall
    clear hall
    by_cases hlt : k < n
    · have hkl : k < l.length := by rw [HN.out]; exact hlt
      rcases HL.out with h | ⟨b, off, rfl, hb, hc⟩
      · rw [h] at hkl; simp at hkl
      have hcx := hc k hkl
      have HZ : Hid (∀ z, z = l[k] → (¬ (0 ≤ z ∧ z < ((256 ^ S : Nat) : Int)) → Rt.fit S l = false) ∧ ((0 ≤ z ∧ z < ((256 ^ S : Nat) : Int)) → ∀ j (hj : j < l.length), j < k + 1 → 0 ≤ l[j] ∧ l[j] < ((256 ^ S : Nat) : Int))) := by
        rintro z rfl
        refine ⟨fun h => Rt.fit_no k hkl h, fun h j hj hjk => ?_⟩
        by_cases e : j = k
        · subst e; exact h
        · exact HA.out j hj (by omega)
      obtain ⟨z, hz⟩ : ∃ z, z = l[k] := ⟨_, rfl⟩
      have HZ1 := HZ.out z hz
      rw [← hz] at hcx
      have HZ2 : Hid ((¬ (0 ≤ z ∧ z < ((256 ^ S : Nat) : Int)) → Rt.fit S l = false) ∧ ((0 ≤ z ∧ z < ((256 ^ S : Nat) : Int)) → ∀ j (hj : j < l.length), j < k + 1 → 0 ≤ l[j] ∧ l[j] < ((256 ^ S : Nat) : Int))) := HZ1
      clear hc HZ HZ1 hz HA HL
      by_cases h0 : z < 0
      · have HF : Hid (Rt.fit S l = false) := HZ2.out.1 (by omega)
        have d0 : decide (z < 0) = true := by simpa using h0
        clear HZ2
        go_wp2_with fail
        go_ret
        exact ⟨by rw [HF.out]; rfl, rfl⟩
      · obtain ⟨N, rfl⟩ := Int.eq_ofNat_of_zero_le (show 0 ≤ z by omega)
        have d0 : decide ((N : Int) < 0) = false := by simp
        by_cases hN : N < 256 ^ S
        · have hsr := shr_none' N B S HB.out hN
          have HG : Hid (∀ j (hj : j < l.length), j < k + 1 → 0 ≤ l[j] ∧ l[j] < ((256 ^ S : Nat) : Int)) := HZ2.out.2 ⟨by omega, by omega⟩
          clear HZ2 hN
          go_wp2_with fail
          go_roundw
          case rel => exact ⟨k + 1, by omega, by go_num, HG.out, by first | rfl | trivial⟩
          case measure => simp [intOf]; omega
        · have hsr := shr_some' N B S HB.out hN
          have HF : Hid (Rt.fit S l = false) := HZ2.out.1 (by omega)
          clear HZ2 hN
          go_wp2_with fail
          go_ret
          exact ⟨by rw [HF.out]; rfl, rfl⟩
    · have HF : Hid (Rt.fit S l = true) := Rt.fit_yes (fun i hi => HA.out i hi (by have := HN.out; omega))
      clear HA HL
      go_wp2_with fail
      go_ret
      exact ⟨by rw [HF.out]; rfl, rfl⟩

end Go.Proofs.Ytlpfedhehfbfeaa
