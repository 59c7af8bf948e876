/- The reader of bits: nothing but its own block turns. -/
import Derived.Test.YtjfihmpnbblomaaBgImpl
import Derived.Test.YtjfihmpnbblomaaMarkWalks
namespace Go.Proofs.Ytjfihmpnbblomaa
open Go.RowKit

theorem Turned.drewN {b : Nat} {w w' : World} (h : Turned b w w') (m : Nat) : Turned b w (w'.drewN m) := ⟨h.os, h.tape, h.output, h.size, h.rest⟩
theorem Turned.drew {b : Nat} {w w' : World} (h : Turned b w w') : Turned b w w'.drew := ⟨h.os, h.tape, h.output, h.size, h.rest⟩
theorem Turned.trans {b : Nat} {w w' w'' : World} (h : Turned b w w') (g : Turned b w' w'') : Turned b w w'' :=
  ⟨g.os.trans h.os, g.tape.trans h.tape, g.output.trans h.output, g.size.trans h.size, fun k hk => (g.rest k hk).trans (h.rest k hk)⟩
theorem Turned.own {b c n : Nat} {w w' : World} {f : Nat → Int} (h : Turned b w w') (hO : Own w c n f) (hne : c ≠ b) : Own w' c n f :=
  ⟨by rw [h.size]; exact hO.1, fun i hi => ⟨(World.cell?_of_block (w := w) (a := ⟨c, i, none⟩) (h.rest c hne)).trans (hO.2 i hi).1, (World.frozen?_of_block (w := w) (a := ⟨c, i, none⟩) (h.rest c hne)).trans (hO.2 i hi).2⟩⟩
theorem Turned.reads {b c p : Nat} {w w' : World} {hi : Bool} {s : ByteArray} (h : Turned b w w') (hO : Reads w c hi s p) (hne : c ≠ b) : Reads w' c hi s p :=
  ⟨(World.cell?_of_block (w := w) (a := ⟨c, 0, none⟩) (h.rest c hne)).trans hO.c0, (World.cell?_of_block (w := w) (a := ⟨c, 1, none⟩) (h.rest c hne)).trans hO.c1,
    (World.cell?_of_block (w := w) (a := ⟨c, 2, none⟩) (h.rest c hne)).trans hO.c2, (World.frozen?_of_block (w := w) (a := ⟨c, 2, none⟩) (h.rest c hne)).trans hO.f2⟩

theorem nextT (B p : Nat) (s : ByteArray) (n : Int) (w : World) (h : Reads w B true s p) (hs : s.size ≤ 9000) (hp : p / 8 < s.size) :
    Calls Try.prog 96 #[.pointer (some ⟨B, 0, none⟩), .int .i64 n] w fun e w' => e = .returned (.int .i64 (bitAt s true p : Nat)) ∧ Reads w' B true s (p + 1) ∧ Turned B w w' := by
  have key : ∀ m, Reads ((w.setCell ⟨B, 2, none⟩ (.int .i64 ((p : Int) + 1))).drewN m) B true s (p + 1) ∧ Turned B w ((w.setCell ⟨B, 2, none⟩ (.int .i64 ((p : Int) + 1))).drewN m) := by
    intro m
    refine ⟨⟨?_, ?_, ?_, ?_⟩, ((Turned.refl B w).set 2 _).drewN m⟩
    · rw [World.cell?_drewN, World.cell?_setCell_other _ _ _ _ (fun e => absurd (congrArg Addr.off e) (show ¬ (2 : Nat) = 0 by omega))]; exact h.c0
    · rw [World.cell?_drewN, World.cell?_setCell_other _ _ _ _ (fun e => absurd (congrArg Addr.off e) (show ¬ (2 : Nat) = 1 by omega))]; exact h.c1
    · rw [World.cell?_drewN, World.cell?_setCell_same _ _ _ h.c2]; rfl
    · rw [World.frozen?_drewN, World.frozen?_setCell]; exact h.f2
  refine (next_high B p s n w h hs hp).mono ?_
  rintro e w' ⟨rfl, m, rfl⟩
  exact ⟨rfl, key m⟩

set_option maxHeartbeats 1000000 in
theorem moveBitsT (B A S : Nat) (s : ByteArray) (w : World) (h : Reads w B true s A) (hs : s.size ≤ 9000) (hAS : A + S ≤ 8 * s.size) (h24 : S ≤ 32) :
    Calls Try.prog 63 #[.iface 113 (.pointer (some ⟨B, 0, none⟩)), .func (.func 76) #[] #[], .int .i64 0, .int .i64 S] w fun e w' => e = .returned (.tuple #[.int .i64 (Bg.big (fun i => bitAt s true (A + i)) S : Nat), .bool true]) ∧ Reads w' B true s (A + S) ∧ Turned B w w' := by
  have m1 := fun w => method_room ⟨B, 0, none⟩ w
  have m2 := fun w => method_next ⟨B, 0, none⟩ w
  have m3 := fun w => ahead_next ⟨B, 0, none⟩ w
  have HR : Hid (Reads w B true s A) := h
  clear h
  go_enter Try.func63, Try.ntmps63
  go_wp2_with fail
  refine (room_any B A true s w HR.out hs (by omega)).mono ?_
  rintro e w1 ⟨rfl, m, rfl⟩
  have hd : decide (8 * (s.size : Int) - (A : Int) < (S : Int)) = false := by simp; omega
  go_wp2_with fail
  go_loopw [10, 18] (fun n i wr => ∃ k x : Nat, k ≤ S ∧ i = .int .i64 k ∧ x = Bg.big (fun i => bitAt s true (A + i)) k * 2 ^ (S - k) ∧ n = .int .i64 x ∧ Reads wr B true s (A + k) ∧ Turned B w wr) (fun _ i _ => S - (intOf i).toNat)
  case atStart => exact ⟨0, 0, Nat.zero_le _, rfl, by simp [Bg.big], rfl, HR.out.drewN m, (Turned.refl _ _).drewN _⟩
  case round =>
    obtain ⟨k, x, hk, rfl, hx, rfl, hRd, hbel⟩ := hrel
    clear HR
    have hb := Bg.big_lt (fun i => bitAt s true (A + i)) (fun i => bitAt_lt _ _ _) k
    by_cases hlt : k < S
    · have hbl := bitAt_lt s true (A + k)
      have HN : Hid (Bg.big (fun i => bitAt s true (A + i)) (k + 1) * 2 ^ (S - (k + 1)) = (2 * Bg.big (fun i => bitAt s true (A + i)) k + bitAt s true (A + k)) * 2 ^ (S - (k + 1))) := rfl
      have HXX : Hid (∀ (n : Int) (w : World), Reads w B true s (A + k) → Calls Try.prog 96 #[.pointer (some ⟨B, 0, none⟩), .int .i64 n] w fun e w' => e = .returned (.int .i64 (bitAt s true (A + k) : Nat)) ∧ Reads w' B true s (A + k + 1) ∧ Turned B w w') := fun n w hr => nextT B (A + k) s n w hr hs (by omega)
      have HRD : Hid (Reads _ B true s (A + k)) := hRd
      clear hRd
      generalize bitAt s true (A + k) = b at *
      generalize Bg.big (fun i => bitAt s true (A + i)) k = q at *
      obtain ⟨y, hy⟩ : ∃ y, y = (2 * q + b) * 2 ^ (S - (k + 1)) := ⟨_, rfl⟩
      have hor := or_highbit q b k S y hb hbl hlt h24 hy
      rw [← hx] at hor
      have hor2 : bits .or .i64 (x : Int) (IntKind.i64.wrap ((b : Int) * 2 ^ ((S : Int) - 1 - (k : Int)).toNat)) = (y : Int) := by
        rw [show ((S : Int) - 1 - (k : Int)).toNat = S - 1 - k from by omega]; exact hor
      rw [← hy] at HN
      clear hy hb hx
      go_wp2_with fail
      refine (order_high _ _ _ (by omega) (by omega) (by omega)).mono ?_
      rintro e w3 ⟨rfl, hw3⟩
      subst hw3
      go_wp2_with fail
      go_region_with (go_at_call 96; refine (HXX.out _ _ ?_).mono ?_; (repeat (first | exact HRD.out | refine Reads.drew ?_)); rintro e w4 ⟨rfl, hR4, b4⟩)
      all_goals have hb4 := hbel.trans ((Turned.refl B w3).drew.trans b4)
      all_goals clear b4 hbel HRD HXX
      all_goals go_wp2_with fail
      all_goals
        go_roundw
        case rel => exact ⟨k + 1, y, by omega, by go_num, HN.out.symm, rfl, hR4, hb4⟩
        case measure => simp [intOf]; omega
    · have hk' : k = S := by omega
      subst hk'
      rw [Nat.sub_self, Nat.pow_zero, Nat.mul_one] at hx
      have HX : Hid (x = _) := hx
      clear hx hb
      have HRD : Hid (Reads _ B true s (A + k)) := hRd
      clear hRd
      go_wp2_with fail
      go_ret2
      exact ⟨ret_pair (by rw [HX.out]) rfl, HRD.out, hbel⟩
end Go.Proofs.Ytjfihmpnbblomaa
