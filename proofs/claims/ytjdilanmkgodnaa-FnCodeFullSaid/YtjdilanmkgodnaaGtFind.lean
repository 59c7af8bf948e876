/- The program goes down in the tree of a code. -/
import Derived.Test.YtjdilanmkgodnaaGtTree
import Derived.Test.YtjdilanmkgodnaaOnlyB
namespace Go.Proofs.Ytjdilanmkgodnaa
open Go.RowKit

/-- how find ends -/
def Found (w : World) (R : Nat) (s : ByteArray) (ans : Option (Nat × Nat)) (e : Ending) (w' : World) : Prop :=
  Below R w w' ∧ ((ans = none ∧ e = .returned (.int .i64 (-1))) ∨ ∃ i q : Nat, ans = some (i, q) ∧ e = .returned (.int .i64 (i : Int)) ∧ Reads w' R false s q)
theorem Gt.go_no {s : Nat → Nat → Int} {bit : Nat → Nat} {m d v p t : Nat} (hb : bit p = t) (h : ¬ 0 ≤ s (d + 1) (2 * v + t)) : Gt.go s bit (m + 1) d v p = Gt.go s bit m (d + 1) (2 * v + t) (p + 1) := by
  subst hb
  rw [Gt.go, if_neg h]
theorem Gt.go_yes {s : Nat → Nat → Int} {bit : Nat → Nat} {m d v p t : Nat} (hb : bit p = t) (h : 0 ≤ s (d + 1) (2 * v + t)) : Gt.go s bit (m + 1) d v p = some ((s (d + 1) (2 * v + t)).toNat, p + 1) := by
  subst hb
  rw [Gt.go, if_pos h]
def atOf (R : Nat) (w : World) : Nat := match w.cell? ⟨R, 2, none⟩ with | some (.int _ z) => z.toNat | _ => 0
theorem atOf_reads {w : World} {R q : Nat} {hi : Bool} {s : ByteArray} (h : Reads w R hi s q) : atOf R w = q := by
  unfold atOf
  rw [h.c2]
  simp

set_option maxHeartbeats 4000000 in
set_option maxRecDepth 20000 in
theorem find_any (R B lo p : Nat) (s : ByteArray) (N : Nat → Nat → Option Nat) (S : Nat → Nat → Int) (w : World) (hT : Tri w lo N S) (h0 : N 0 0 = some B) (h00 : S 0 0 = -1) (hR : Reads w R false s p) (hRlo : R < lo) (hs : s.size ≤ 9000) (hp : p ≤ 8 * s.size) :
    Calls Try.prog 41 #[.pointer (some ⟨B, 0, none⟩), .iface 54 (.pointer (some ⟨R, 0, none⟩))] w (Found w R s (Gt.go S (bitAt s false) (8 * s.size - p) 0 0 p)) := by
  have m1 := fun w => method_room ⟨R, 0, none⟩ w
  have m2 := fun w => method_next ⟨R, 0, none⟩ w
  have m3 := fun w => ahead_next ⟨R, 0, none⟩ w
  have HT : Hid (Tri w lo N S) := hT
  have HR0 : Hid (Reads w R false s p) := hR
  obtain ⟨ans, hans⟩ : ∃ ans, ans = Gt.go S (bitAt s false) (8 * s.size - p) 0 0 p := ⟨_, rfl⟩
  have HA0 : Hid (ans = if 0 ≤ S 0 0 then some ((S 0 0).toNat, p + 0) else Gt.go S (bitAt s false) (8 * s.size - (p + 0)) 0 0 (p + 0)) := by
    show _ = _
    rw [h00, if_neg (by omega)]; exact hans
  rw [← hans]
  have HN0 : Hid (N 0 0 = some B) := h0
  clear hT hR h0 h00 hans
  go_enter Try.func41, Try.ntmps41
  go_wp2_with fail
  go_loopw [0] (fun x wr => ∃ d v b : Nat, p + d ≤ 8 * s.size ∧ x = .pointer (some ⟨b, 0, none⟩) ∧ Hid (N d v = some b) ∧ Hid (Only R w wr) ∧ Hid (Reads wr R false s (p + d)) ∧ Hid (ans = if 0 ≤ S d v then some ((S d v).toNat, p + d) else Gt.go S (bitAt s false) (8 * s.size - (p + d)) d v (p + d))) (fun _ wr => 8 * s.size - atOf R wr)
  case atStart => exact ⟨0, 0, B, hp, rfl, HN0, Only.refl _ _, HR0, HA0⟩
  case round =>
    obtain ⟨d, v, b, hd, rfl, HB, HO, HRD, HA⟩ := hrel
    clear HR0 HA0 HN0
    have hTw : Tri wr lo N S := HT.out.same (fun k hk hl => HO.out.rest k hk (by omega))
    obtain ⟨c0, c1, c2, -⟩ := hTw.cells HB.out
    have hlo := (hTw.node d v b HB.out).1
    have hbR : b ≠ R := by omega
    have hblt := hTw.lt HB.out
    by_cases hpos : 0 ≤ S d v
    · obtain ⟨i, hi⟩ : ∃ i : Nat, S d v = (i : Int) := ⟨(S d v).toNat, by omega⟩
      have HF : Hid (Found w R s ans (.returned (.int .i64 (i : Int))) wr) := by
        refine ⟨HO.out.below, .inr ⟨i, p + d, ?_, rfl, HRD.out⟩⟩
        rw [HA.out, if_pos hpos, hi, Int.toNat_natCast]
      rw [hi] at c0
      clear hi hpos HA HB hTw HRD
      go_wp2_with fail
      go_ret
      exact HF.out
    · have hneg : S d v < 0 := by omega
      obtain ⟨y, hy⟩ : ∃ y, y = S d v := ⟨_, rfl⟩
      rw [← hy] at c0 hneg
      have HA2 : Hid (ans = Gt.go S (bitAt s false) (8 * s.size - (p + d)) d v (p + d)) := by
        show _ = _
        rw [HA.out, if_neg hpos]
      clear HA hpos hy
      by_cases hroom : p + d < 8 * s.size
      · obtain ⟨t, ht⟩ : ∃ t, t = bitAt s false (p + d) := ⟨_, rfl⟩
        have ht2 : t < 2 := by rw [ht]; exact bitAt_lt _ _ _
        have hbit : Hid (bitAt s false (p + d) = t) := ht.symm
        have HNX : Hid (∀ (z : Int) (X : World), Reads X R false s (p + d) → Calls Try.prog 82 #[.pointer (some ⟨R, 0, none⟩), .int .i64 z] X fun e w' => e = .returned (.int .i64 (t : Int)) ∧ Reads w' R false s (p + (d + 1)) ∧ Only R X w') := fun z X hX => by
          refine (next_low R (p + d) s z X hX hs (by omega)).mono ?_
          rintro e w' ⟨rfl, m, rfl⟩
          refine ⟨by rw [ht], ?_, (Only.own X R 2 _).drewN m⟩
          have hh : ((p : Int) + (d : Int)) + 1 = ((p + (d + 1) : Nat) : Int) := by omega
          refine ⟨?_, ?_, ?_, ?_⟩
          · rw [World.cell?_drewN, World.cell?_setCell_other _ _ _ _ (fun e => absurd (congrArg Addr.off e) (show ¬ (2 : Nat) = 0 by omega))]; exact hX.c0
          · rw [World.cell?_drewN, World.cell?_setCell_other _ _ _ _ (fun e => absurd (congrArg Addr.off e) (show ¬ (2 : Nat) = 1 by omega))]; exact hX.c1
          · rw [World.cell?_drewN, World.cell?_setCell_same _ _ _ hX.c2]
            congr 2
          · rw [World.frozen?_drewN, World.frozen?_setCell]; exact hX.f2
        have hkid : wr.cell? ⟨b, 1 + t, none⟩ = some (ptr (N (d + 1) (2 * v + t))) := by
          have : t = 0 ∨ t = 1 := by omega
          rcases this with e | e
          · rw [e]; exact c1
          · rw [e]; exact c2
        have HK : Hid (∀ (X : World) (q : Nat), Only R (wr.drewN q) X → X.cell? ⟨b, 1 + t, none⟩ = some (ptr (N (d + 1) (2 * v + t)))) := fun X q hX => (hX.cell b (1 + t) hblt hbR).trans hkid
        have HRM : Hid (Calls Try.prog 83 #[.pointer (some ⟨R, 0, none⟩)] wr fun e w' => e = .returned (.int .i64 (8 * (s.size : Int) - ((p + d : Nat) : Int))) ∧ ∃ m, w' = wr.drewN m) := room_any R (p + d) false s wr HRD.out hs (by omega)
        obtain ⟨M, hM⟩ : ∃ M : Int, M = 8 * (s.size : Int) - ((p + d : Nat) : Int) := ⟨_, rfl⟩
        have hM1 : ¬ M < 1 := by omega
        rw [← hM] at HRM
        have HSZ : Hid (8 * s.size - (p + d) = 8 * s.size - (p + (d + 1)) + 1) := by show _ = _; omega
        have HAT : Hid (atOf R wr = p + d) := atOf_reads HRD.out
        have ht01 : t = 0 ∨ t = 1 := by omega
        have hd1 : p + (d + 1) ≤ 8 * s.size := by omega
        clear hkid c1 c2 hTw ht hM hlo
        go_wp2_with fail
        refine HRM.out.mono ?_
        rintro e w3 ⟨rfl, m, hw3⟩
        have HW3 : Hid (w3 = wr.drewN m) := hw3
        have HR3 : Hid (Reads w3 R false s (p + d)) := by rw [hw3]; exact HRD.out.drewN m
        clear hw3 HRM c0
        have HK3 : Hid (∀ (X : World) (q : Nat), Only R (w3.drewN q) X → X.cell? ⟨b, 1 + t, none⟩ = some (ptr (N (d + 1) (2 * v + t)))) := fun X q hX => HK.out X (m + q) (by rw [HW3.out, World.drewN_drewN] at hX; exact hX)
        have HO3 : Hid (Only R w w3) := by rw [HW3.out]; exact HO.out.drewN m
        clear HK HRD HO HW3
        have hfin : ∀ w4 : World, Reads w4 R false s (p + (d + 1)) → Only R w3 w4 → (N (d + 1) (2 * v + t) = none → Found w R s ans (.returned (.int .i64 (-1))) w4) := fun w4 _ hO4 hno => by
          refine ⟨HO3.out.below.trans hO4.below, .inl ⟨?_, rfl⟩⟩
          rw [HA2.out, HSZ.out, Gt.go_no hbit.out (by rw [HT.out.dead _ _ hno]; omega)]
          refine Gt.go_none (fun d v => N d v = none) (fun d v q hq => ?_) _ _ _ _ hno
          have h1 : N (d + 1) (2 * v + bitAt s false q) = none := by
            rcases hx : N (d + 1) (2 * v + bitAt s false q) with _ | y
            · rfl
            · obtain ⟨b', hb'⟩ := HT.out.closed d _ y hx
              have := bitAt_lt s false q
              rw [show (2 * v + bitAt s false q) / 2 = v by omega, hq] at hb'
              cases hb'
          exact ⟨HT.out.dead _ _ h1, h1⟩
        have HFIN : Hid (∀ w4 : World, Reads w4 R false s (p + (d + 1)) → Only R w3 w4 → (N (d + 1) (2 * v + t) = none → Found w R s ans (.returned (.int .i64 (-1))) w4)) := hfin
        have HGO : Hid (ans = if 0 ≤ S (d + 1) (2 * v + t) then some ((S (d + 1) (2 * v + t)).toNat, p + (d + 1)) else Gt.go S (bitAt s false) (8 * s.size - (p + (d + 1))) (d + 1) (2 * v + t) (p + (d + 1))) := by
          show _ = _
          rw [HA2.out, HSZ.out]
          by_cases hq : 0 ≤ S (d + 1) (2 * v + t)
          · rw [Gt.go_yes hbit.out hq, if_pos hq]; rfl
          · rw [Gt.go_no hbit.out hq, if_neg hq]; rfl
        clear hfin HA2 HSZ hbit
        go_wp2_with fail
        rcases hx : N (d + 1) (2 * v + t) with _ | b2
        · have HX : Hid (N (d + 1) (2 * v + t) = none) := hx
          rw [hx] at HK3
          have HK4 : Hid (∀ (X : World) (q : Nat), Only R (w3.drewN q) X → X.cell? ⟨b, 1 + t, none⟩ = some (.pointer none)) := HK3.out
          clear hx HK3
          rcases ht01 with rfl | rfl
          all_goals
            go_region_with (go_at_call 82; refine (HNX.out _ _ ?_).mono ?_; (repeat (first | exact HR3.out | refine Reads.drew ?_)); rintro e w4 ⟨rfl, hR4, hO4⟩; have k4 := HK4.out w4 1 hO4; have hO4' : Only R w3 w4 := ⟨⟨hO4.below.os, hO4.below.tape, hO4.below.output, hO4.below.size, hO4.below.block⟩, hO4.rest⟩; have HF4 : Hid (Found w R s ans (.returned (.int .i64 (-1))) w4) := HFIN.out w4 hR4 hO4' HX.out)
            all_goals go_wp2_with fail
            all_goals go_ret
            all_goals exact HF4.out
        · have HX : Hid (N (d + 1) (2 * v + t) = some b2) := hx
          rw [hx] at HK3
          have HK4 : Hid (∀ (X : World) (q : Nat), Only R (w3.drewN q) X → X.cell? ⟨b, 1 + t, none⟩ = some (.pointer (some ⟨b2, 0, none⟩))) := HK3.out
          clear hx HFIN HK3
          rcases ht01 with rfl | rfl
          all_goals
            go_region_with (go_at_call 82; refine (HNX.out _ _ ?_).mono ?_; (repeat (first | exact HR3.out | refine Reads.drew ?_)); rintro e w4 ⟨rfl, hR4, hO4⟩; have k4 := HK4.out w4 1 hO4; have hO4' : Only R w3 w4 := ⟨⟨hO4.below.os, hO4.below.tape, hO4.below.output, hO4.below.size, hO4.below.block⟩, hO4.rest⟩; have H4 : Hid (Only R w w4 ∧ Reads w4 R false s (p + (d + 1))) := ⟨HO3.out.trans hO4', hR4⟩; clear hR4 hO4 hO4')
            all_goals go_wp2_with fail
            all_goals
              go_roundw
              case rel => exact ⟨d + 1, _, b2, hd1, rfl, HX, H4.out.1, H4.out.2, HGO⟩
              case measure => rw [HAT.out, atOf_reads H4.out.2]; omega
      · have hM1 : (8 * (s.size : Int) - ((p + d : Nat) : Int)) < 1 := by omega
        have HRM : Hid (Calls Try.prog 83 #[.pointer (some ⟨R, 0, none⟩)] wr fun e w' => e = .returned (.int .i64 (8 * (s.size : Int) - ((p + d : Nat) : Int))) ∧ ∃ m, w' = wr.drewN m) := room_any R (p + d) false s wr HRD.out hs (by omega)
        obtain ⟨M, hM⟩ : ∃ M : Int, M = 8 * (s.size : Int) - ((p + d : Nat) : Int) := ⟨_, rfl⟩
        rw [← hM] at HRM hM1
        have HNO : Hid (ans = none) := by
          show _ = _
          rw [HA2.out, show 8 * s.size - (p + d) = 0 by omega]; rfl
        clear hM HA2 hTw c1 c2 HB
        go_wp2_with fail
        refine HRM.out.mono ?_
        rintro e w3 ⟨rfl, m, hw3⟩
        have HF : Hid (Found w R s ans (.returned (.int .i64 (-1))) w3) := ⟨by rw [hw3]; exact (HO.out.drewN m).below, .inl ⟨HNO.out, rfl⟩⟩
        clear hw3 HRM c0
        go_wp2_with fail
        go_ret
        exact HF.out
end Go.Proofs.Ytjdilanmkgodnaa
