/- BitsPut of the program, for every list of bits. -/
import Derived.Test.YtoocijfkckjbfaaBpMove
import Derived.Test.YtoocijfkckjbfaaBpAnswer
namespace Go.Proofs.Ytoocijfkckjbfaa
open Go.RowKit

theorem shr_zero (V S : Nat) (h : V < 2 ^ S) : ((V : Int) / 2 ^ S == 0) = true := by
  have e : (V : Int) / 2 ^ S = ((V / 2 ^ S : Nat) : Int) := by simp
  rw [e, Nat.div_eq_of_lt h]; rfl
theorem shr_more (V S : Nat) (h : ¬ V < 2 ^ S) : ((V : Int) / 2 ^ S == 0) = false := by
  have e : (V : Int) / 2 ^ S = ((V / 2 ^ S : Nat) : Int) := by simp
  have hp : 0 < V / 2 ^ S := Nat.div_pos (by omega) (Nat.pow_pos (by omega))
  rw [e, beq_eq_false_iff_ne]; omega

set_option maxHeartbeats 1000000 in
theorem bitOk_any (p : Int × Int) (w : World) (h1 : -9223372036854775808 ≤ p.1) (h2 : p.1 ≤ 9223372036854775807) :
    Calls Try.prog 38 #[.agg #[.int .i64 p.1, .int .i64 p.2]] w fun e w' => e = .returned (.bool (Bp.okB p)) ∧ Below w.heap.size w w' := by
  obtain ⟨v, s⟩ := p
  simp only at h1 h2 ⊢
  by_cases a1 : 0 ≤ s
  · have d1 : decide (0 ≤ s) = true := by simpa using a1
    by_cases a2 : s ≤ 24
    · have d2 : decide (s ≤ 24) = true := by simpa using a2
      by_cases a3 : 0 ≤ v
      · have d3 : decide (0 ≤ v) = true := by simpa using a3
        obtain ⟨S, rfl⟩ := Int.eq_ofNat_of_zero_le a1
        obtain ⟨V, rfl⟩ := Int.eq_ofNat_of_zero_le a3
        by_cases a4 : V < 2 ^ S
        · have hok : Bp.okB ((V : Int), (S : Int)) = true := Bp.okB_true ⟨a1, a2, a3, by
            show (V : Int).toNat < 2 ^ (S : Int).toNat
            rw [Int.toNat_natCast, Int.toNat_natCast]; exact a4⟩
          have hz := shr_zero V S a4
          have HO : Hid (Bp.okB ((V : Int), (S : Int)) = true) := hok
          have hS24 : S ≤ 24 := by omega
          clear hok a4 a1 a2 a3
          go_enter Try.func38, Try.ntmps38
          go_wp2_with fail
          go_ret
          exact ⟨by rw [HO.out]; rfl, (Below.refl _ _).alloc (Nat.le_refl _) _⟩
        · have hok : Bp.okB ((V : Int), (S : Int)) = false := Bp.okB_false (fun g => a4 (by
            have h4 : (V : Int).toNat < 2 ^ (S : Int).toNat := g.2.2.2
            rw [Int.toNat_natCast, Int.toNat_natCast] at h4; exact h4))
          have hz := shr_more V S a4
          have HO : Hid (Bp.okB ((V : Int), (S : Int)) = false) := hok
          have hS24 : S ≤ 24 := by omega
          clear hok a4 a1 a2 a3
          go_enter Try.func38, Try.ntmps38
          go_wp2_with fail
          go_ret
          exact ⟨by rw [HO.out]; rfl, (Below.refl _ _).alloc (Nat.le_refl _) _⟩
      · have d3 : decide (0 ≤ v) = false := by simpa using a3
        have HO : Hid (Bp.okB (v, s) = false) := Bp.okB_false (fun g => a3 g.2.2.1)
        clear a3
        go_enter Try.func38, Try.ntmps38
        go_wp2_with fail
        go_ret
        exact ⟨by rw [HO.out]; rfl, (Below.refl _ _).alloc (Nat.le_refl _) _⟩
    · have d2 : decide (s ≤ 24) = false := by simpa using a2
      have HO : Hid (Bp.okB (v, s) = false) := Bp.okB_false (fun g => a2 g.2.1)
      clear a2
      go_enter Try.func38, Try.ntmps38
      go_wp2_with fail
      go_ret
      exact ⟨by rw [HO.out]; rfl, (Below.refl _ _).alloc (Nat.le_refl _) _⟩
  · have d1 : decide (0 ≤ s) = false := by simpa using a1
    have HO : Hid (Bp.okB (v, s) = false) := Bp.okB_false (fun g => a1 g.1)
    clear a1
    go_enter Try.func38, Try.ntmps38
    go_wp2_with fail
    go_ret
    exact ⟨by rw [HO.out]; rfl, (Below.refl _ _).alloc (Nat.le_refl _) _⟩

theorem own_kept {w w' : World} {B L : Nat} {v : Value} {o : List Nat} (h : OwnB w B v L o) (hb : Below w.heap.size w w') : OwnB w' B v L o := by
  refine ⟨h.1, ?_⟩
  rcases h.2 with h2 | ⟨g, cap, cur, hv, hg, hh, r⟩
  · exact .inl h2
  · have hlt : g < w.heap.size := by
      rcases Nat.lt_or_ge g w.heap.size with hlt | hge
      · exact hlt
      · rw [Array.getElem?_eq_none hge] at hh; cases hh
    exact .inr ⟨g, cap, cur, hv, hg, by rw [hb.block g hlt]; exact hh, r⟩

theorem Writes.kept {w w' : World} {B N : Nat} {hi : Bool} {f : Nat → Nat} (h : Writes w B hi f N) (hb : Below w.heap.size w w') : Writes w' B hi f N := by
  obtain ⟨k0, ⟨v, L, k1, hown, hL⟩, k2, kf1, kf2, klt⟩ := h
  exact ⟨(hb.cell (p := ⟨B, 0, none⟩) klt).trans k0, ⟨v, L, (hb.cell (p := ⟨B, 1, none⟩) klt).trans k1, own_kept hown hb, hL⟩, (hb.cell (p := ⟨B, 2, none⟩) klt).trans k2,
    (hb.frozen (p := ⟨B, 1, none⟩) klt).trans kf1, (hb.frozen (p := ⟨B, 2, none⟩) klt).trans kf2, Nat.lt_of_lt_of_le klt hb.size⟩

theorem writes_new (w : World) (hi : Bool) (f : Nat → Nat) (T : TypeId) : Writes (w.alloc (.cells #[ordV hi, .slice none 0 0, .int .i64 0] T)) w.heap.size hi f 0 := by
  refine ⟨?_, ⟨.slice none 0 0, 0, ?_, ?_, rfl⟩, ?_, ?_, ?_, by simp⟩
  · rw [World.cell?_alloc_at _ _ _ _ rfl]; rfl
  · rw [World.cell?_alloc_at _ _ _ _ rfl]; rfl
  · exact World.ownsRow_nil _ _ _ _
  · rw [World.cell?_alloc_at _ _ _ _ rfl]; rfl
  · rw [World.frozen?_alloc_at _ _ _ _ rfl]
  · rw [World.frozen?_alloc_at _ _ _ _ rfl]

theorem wmove_any (hi : Bool) (B N V S : Nat) (f : Nat → Nat) (w : World) (h : Writes w B hi f N) (hNS : N + S ≤ 72000) (h24 : S ≤ 24) (hV : V < 16777216) (hf : ∀ i, f i < 2) (hfb : ∀ q, q < S → f (N + q) = Bp.bitIn hi V S q) :
    Calls Try.prog 39 #[.iface 49 (.pointer (some ⟨B, 0, none⟩)), ordV hi, .int .i64 V, .int .i64 S] w fun e w' => (∃ z, e = .returned (.tuple #[.int .i64 z, .bool true])) ∧ Writes w' B hi f (N + S) ∧ Below B w w' := by
  cases hi
  · exact wmove_low B N V S f w h hNS h24 hV hf hfb
  · exact wmove_high B N V S f w h hNS h24 hV hf hfb
theorem orderOf_any (hi : Bool) (w : World) : Calls Try.prog 37 #[.bool hi] w fun e w' => e = .returned (ordV hi) ∧ w' = w := by
  cases hi
  · exact orderOf_low w
  · exact orderOf_high w
end Go.Proofs.Ytoocijfkckjbfaa
