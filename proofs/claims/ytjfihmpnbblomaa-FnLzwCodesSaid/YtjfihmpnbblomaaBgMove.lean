/- The bit reader inside another struct: only the cell of its place moves. -/
import Derived.Test.YtjfihmpnbblomaaBgTurn
import Derived.Test.YtjfihmpnbblomaaBgTop
import Derived.Test.YtjfihmpnbblomaaFault
namespace Go.Proofs.Ytjfihmpnbblomaa
open Go.RowKit

/-- just one cell of one block is another one -/
structure Moved (B q : Nat) (w w' : World) : Prop where
  turned : Turned B w w'
  cells : ∀ j, j ≠ q → w'.cell? ⟨B, j, none⟩ = w.cell? ⟨B, j, none⟩
  froz : ∀ j, w'.frozen? ⟨B, j, none⟩ = w.frozen? ⟨B, j, none⟩
theorem Moved.refl (B q : Nat) (w : World) : Moved B q w w := ⟨Turned.refl _ _, fun _ _ => rfl, fun _ => rfl⟩
theorem Moved.trans {B q : Nat} {w w' w'' : World} (h : Moved B q w w') (g : Moved B q w' w'') : Moved B q w w'' :=
  ⟨h.turned.trans g.turned, fun j hj => (g.cells j hj).trans (h.cells j hj), fun j => (g.froz j).trans (h.froz j)⟩
theorem Moved.drewN {B q : Nat} {w w' : World} (h : Moved B q w w') (m : Nat) : Moved B q w (w'.drewN m) := ⟨h.turned.drewN m, h.cells, h.froz⟩
theorem Moved.drew {B q : Nat} {w w' : World} (h : Moved B q w w') : Moved B q w w'.drew := ⟨h.turned.drew, h.cells, h.froz⟩
theorem Moved.set (B q : Nat) (w : World) (v : Value) : Moved B q w (w.setCell ⟨B, q, none⟩ v) :=
  ⟨(Turned.refl B w).set q v, fun j hj => World.cell?_setCell_other _ _ _ _ (fun e => hj (congrArg Addr.off e).symm), fun j => by rw [World.frozen?_setCell]⟩

/-- a reader of bits in block B, at bit p -/
structure RdsM (w : World) (B : Nat) (hi : Bool) (s : ByteArray) (p : Nat) : Prop where
  c0 : w.cell? ⟨B, 2, none⟩ = some (ordV hi)
  c1 : w.cell? ⟨B, 3, none⟩ = some (.string s)
  c2 : w.cell? ⟨B, 4, none⟩ = some (.int .i64 (p : Int))
  f2 : w.frozen? ⟨B, 4, none⟩ = false

set_option maxHeartbeats 400000 in
theorem room_anyM (B p : Nat) (hi : Bool) (s : ByteArray) (w : World) (h : RdsM w B hi s p) (hs : s.size ≤ 9000) (hp : p ≤ 9223372036854775807) :
    Calls Try.prog 97 #[.pointer (some ⟨B, 2, none⟩)] w fun e w' => e = .returned (.int .i64 (8 * (s.size : Int) - (p : Int))) ∧ ∃ m, w' = w.drewN m := by
  obtain ⟨h0, h1, h2, _⟩ := h
  go_enter Try.func97, Try.ntmps97
  go_wp2_with fail
  go_region
  all_goals go_wp2_with fail
  all_goals go_ret
  all_goals exact ⟨rfl, 1, rfl⟩

set_option maxHeartbeats 1000000 in
theorem next_lowM (B p : Nat) (s : ByteArray) (n : Int) (w : World) (h : RdsM w B false s p) (hs : s.size ≤ 9000) (hp : p / 8 < s.size) :
    Calls Try.prog 96 #[.pointer (some ⟨B, 2, none⟩), .int .i64 n] w fun e w' => e = .returned (.int .i64 (bitAt s false p : Nat)) ∧ ∃ m, w' = (w.setCell ⟨B, 4, none⟩ (.int .i64 ((p : Int) + 1))).drewN m := by
  obtain ⟨h0, h1, h2, hf⟩ := h
  have h0' : w.cell? ⟨B, 2, none⟩ = some (.func (.func 77) #[] #[]) := h0
  clear h0
  obtain ⟨j, hj⟩ : ∃ j, j = p / 8 := ⟨_, rfl⟩
  obtain ⟨q, hq⟩ : ∃ q, q = p % 8 := ⟨_, rfl⟩
  have hjs : j < s.size := by omega
  have hbe := byteAt_eq s j hjs
  have hbl := byteAt_lt s j
  have e1 : (p : Int) / 8 = (j : Int) := by omega
  have e2 : (p : Int) % 8 = (q : Int) := by omega
  have e3 : (p : Int).tdiv 8 = (j : Int) := by rw [Int.tdiv_eq_ediv_of_nonneg (by omega)]; exact e1
  have e4 : (p : Int).tmod 8 = (q : Int) := by rw [Int.tmod_eq_emod_of_nonneg (by omega)]; exact e2
  have hji : (j : Int) < (s.size : Int) := by omega
  have e5 := wrap_i64_nat j (by omega)
  have e6 := wrap_i64_nat (byteAt s j) (by omega)
  obtain ⟨v, hv⟩ : ∃ v, v = bitAt s false p := ⟨_, rfl⟩
  have hbit : bits .and .i64 (((byteAt s j : Nat) : Int) / 2 ^ q) 1 = (v : Int) := by
    rw [and_bit _ _ hbl, hv]; unfold bitAt Bg.spot; rw [hq, hj]; rfl
  rw [← hv]
  have hpb : p ≤ 80000 := by omega
  have hq8 : q ≤ 7 := by omega
  clear hj hq hp hv
  go_enter Try.func96, Try.ntmps96
  go_wp2_with fail
  go_quiet (exact Calls.quiet_of_same (order_low _ _ _))
  go_wp2_with fail
  go_ret
  exact ⟨rfl, nq, rfl⟩

set_option maxHeartbeats 1000000 in
theorem next_highM (B p : Nat) (s : ByteArray) (n : Int) (w : World) (h : RdsM w B true s p) (hs : s.size ≤ 9000) (hp : p / 8 < s.size) :
    Calls Try.prog 96 #[.pointer (some ⟨B, 2, none⟩), .int .i64 n] w fun e w' => e = .returned (.int .i64 (bitAt s true p : Nat)) ∧ ∃ m, w' = (w.setCell ⟨B, 4, none⟩ (.int .i64 ((p : Int) + 1))).drewN m := by
  obtain ⟨h0, h1, h2, hf⟩ := h
  have h0' : w.cell? ⟨B, 2, none⟩ = some (.func (.func 76) #[] #[]) := h0
  clear h0
  obtain ⟨j, hj⟩ : ∃ j, j = p / 8 := ⟨_, rfl⟩
  obtain ⟨q, hq⟩ : ∃ q, q = p % 8 := ⟨_, rfl⟩
  have hjs : j < s.size := by omega
  have hbe := byteAt_eq s j hjs
  have hbl := byteAt_lt s j
  have e1 : (p : Int) / 8 = (j : Int) := by omega
  have e2 : (p : Int) % 8 = (q : Int) := by omega
  have e3 : (p : Int).tdiv 8 = (j : Int) := by rw [Int.tdiv_eq_ediv_of_nonneg (by omega)]; exact e1
  have e4 : (p : Int).tmod 8 = (q : Int) := by rw [Int.tmod_eq_emod_of_nonneg (by omega)]; exact e2
  have hji : (j : Int) < (s.size : Int) := by omega
  have e5 := wrap_i64_nat j (by omega)
  have e6 := wrap_i64_nat (byteAt s j) (by omega)
  obtain ⟨v, hv⟩ : ∃ v, v = bitAt s true p := ⟨_, rfl⟩
  have hbit : bits .and .i64 (((byteAt s j : Nat) : Int) / 2 ^ (7 - q)) 1 = (v : Int) := by
    rw [and_bit _ _ hbl, hv]; unfold bitAt Bg.spot; rw [hq, hj]; rfl
  rw [← hv]
  have hpb : p ≤ 80000 := by omega
  have hq8 : q ≤ 7 := by omega
  clear hj hq hp hv
  go_enter Try.func96, Try.ntmps96
  go_wp2_with fail
  go_quiet (exact Calls.quiet_of_same (order_high _ _ _ (by omega) (by omega) (by omega)))
  go_wp2_with fail
  go_ret
  exact ⟨rfl, nq, rfl⟩

theorem RdsM.drewN {w : World} {B p : Nat} {hi : Bool} {s : ByteArray} (h : RdsM w B hi s p) (m : Nat) : RdsM (w.drewN m) B hi s p := ⟨h.c0, h.c1, h.c2, h.f2⟩
theorem RdsM.drew {w : World} {B p : Nat} {hi : Bool} {s : ByteArray} (h : RdsM w B hi s p) : RdsM w.drew B hi s p := ⟨h.c0, h.c1, h.c2, h.f2⟩

theorem nextM (B p : Nat) (hi : Bool) (s : ByteArray) (n : Int) (w : World) (h : RdsM w B hi s p) (hs : s.size ≤ 9000) (hp : p / 8 < s.size) :
    Calls Try.prog 96 #[.pointer (some ⟨B, 2, none⟩), .int .i64 n] w fun e w' => e = .returned (.int .i64 (bitAt s hi p : Nat)) ∧ RdsM w' B hi s (p + 1) ∧ Moved B 4 w w' := by
  have key : ∀ m, RdsM ((w.setCell ⟨B, 4, none⟩ (.int .i64 ((p : Int) + 1))).drewN m) B hi s (p + 1) ∧ Moved B 4 w ((w.setCell ⟨B, 4, none⟩ (.int .i64 ((p : Int) + 1))).drewN m) := by
    intro m
    refine ⟨⟨?_, ?_, ?_, ?_⟩, (Moved.set B 4 w _).drewN m⟩
    · rw [World.cell?_drewN, World.cell?_setCell_other _ _ _ _ (fun e => absurd (congrArg Addr.off e) (show ¬ (4 : Nat) = 2 by omega))]; exact h.c0
    · rw [World.cell?_drewN, World.cell?_setCell_other _ _ _ _ (fun e => absurd (congrArg Addr.off e) (show ¬ (4 : Nat) = 3 by omega))]; exact h.c1
    · rw [World.cell?_drewN, World.cell?_setCell_same _ _ _ h.c2]; rfl
    · rw [World.frozen?_drewN, World.frozen?_setCell]; exact h.f2
  cases hi
  · refine (next_lowM B p s n w h hs hp).mono ?_
    rintro e w' ⟨rfl, m, rfl⟩
    exact ⟨rfl, key m⟩
  · refine (next_highM B p s n w h hs hp).mono ?_
    rintro e w' ⟨rfl, m, rfl⟩
    exact ⟨rfl, key m⟩

set_option maxHeartbeats 1000000 in
theorem moveBits_highM (B A S : Nat) (s : ByteArray) (w : World) (h : RdsM w B true s A) (hs : s.size ≤ 9000) (hAS : A + S ≤ 8 * s.size) (h24 : S ≤ 32) :
    Calls Try.prog 63 #[.iface 113 (.pointer (some ⟨B, 2, none⟩)), .func (.func 76) #[] #[], .int .i64 0, .int .i64 S] w fun e w' => e = .returned (.tuple #[.int .i64 (Bg.big (fun i => bitAt s true (A + i)) S : Nat), .bool true]) ∧ RdsM w' B true s (A + S) ∧ Moved B 4 w w' := by
  have m1 := fun w => method_room ⟨B, 2, none⟩ w
  have m2 := fun w => method_next ⟨B, 2, none⟩ w
  have m3 := fun w => ahead_next ⟨B, 2, none⟩ w
  have HR : Hid (RdsM w B true s A) := h
  clear h
  go_enter Try.func63, Try.ntmps63
  go_wp2_with fail
  refine (room_anyM B A true s w HR.out hs (by omega)).mono ?_
  rintro e w1 ⟨rfl, m, rfl⟩
  have hd : decide (8 * (s.size : Int) - (A : Int) < (S : Int)) = false := by simp; omega
  go_wp2_with fail
  go_loopw [10, 18] (fun n i wr => ∃ k x : Nat, k ≤ S ∧ i = .int .i64 k ∧ x = Bg.big (fun i => bitAt s true (A + i)) k * 2 ^ (S - k) ∧ n = .int .i64 x ∧ RdsM wr B true s (A + k) ∧ Moved B 4 w wr) (fun _ i _ => S - (intOf i).toNat)
  case atStart => exact ⟨0, 0, Nat.zero_le _, rfl, by simp [Bg.big], rfl, HR.out.drewN m, (Moved.refl _ _ _).drewN _⟩
  case round =>
    obtain ⟨k, x, hk, rfl, hx, rfl, hRd, hbel⟩ := hrel
    clear HR
    have hb := Bg.big_lt (fun i => bitAt s true (A + i)) (fun i => bitAt_lt _ _ _) k
    by_cases hlt : k < S
    · have hbl := bitAt_lt s true (A + k)
      have HN : Hid (Bg.big (fun i => bitAt s true (A + i)) (k + 1) * 2 ^ (S - (k + 1)) = (2 * Bg.big (fun i => bitAt s true (A + i)) k + bitAt s true (A + k)) * 2 ^ (S - (k + 1))) := rfl
      have HXX : Hid (∀ (n : Int) (w : World), RdsM w B true s (A + k) → Calls Try.prog 96 #[.pointer (some ⟨B, 2, none⟩), .int .i64 n] w fun e w' => e = .returned (.int .i64 (bitAt s true (A + k) : Nat)) ∧ RdsM w' B true s (A + k + 1) ∧ Moved B 4 w w') := fun n w hr => nextM B (A + k) true s n w hr hs (by omega)
      have HRD : Hid (RdsM _ B true s (A + k)) := hRd
      clear hRd
      generalize bitAt s true (A + k) = b at *
      generalize Bg.big (fun i => bitAt s true (A + i)) k = q at *
      obtain ⟨y, hy⟩ : ∃ y, y = (2 * q + b) * 2 ^ (S - (k + 1)) := ⟨_, rfl⟩
      have hor := or_highbit q b k S y hb hbl hlt h24 hy
      rw [← hx] at hor
      have hor2 : bits .or .i64 (x : Int) (IntKind.i64.wrap ((b : Int) * 2 ^ ((S : Int) - 1 - (k : Int)).toNat)) = (y : Int) := by
        rw [show ((S : Int) - 1 - (k : Int)).toNat = S - 1 - k from by omega]; exact hor
      rw [← hy] at HN
      clear hy hb hx
      go_wp2_with fail
      refine (order_high _ _ _ (by omega) (by omega) (by omega)).mono ?_
      rintro e w3 ⟨rfl, hw3⟩
      subst hw3
      go_wp2_with fail
      go_region_with (go_at_call 96; refine (HXX.out _ _ ?_).mono ?_; (repeat (first | exact HRD.out | refine RdsM.drew ?_)); rintro e w4 ⟨rfl, hR4, b4⟩)
      all_goals have hb4 := hbel.trans ((Moved.refl B 4 w3).drew.trans b4)
      all_goals clear b4 hbel HRD HXX
      all_goals go_wp2_with fail
      all_goals
        go_roundw
        case rel => exact ⟨k + 1, y, by omega, by go_num, HN.out.symm, rfl, hR4, hb4⟩
        case measure => simp [intOf]; omega
    · have hk' : k = S := by omega
      subst hk'
      rw [Nat.sub_self, Nat.pow_zero, Nat.mul_one] at hx
      have HX : Hid (x = _) := hx
      clear hx hb
      have HRD : Hid (RdsM _ B true s (A + k)) := hRd
      clear hRd
      go_wp2_with fail
      go_ret2
      exact ⟨ret_pair (by rw [HX.out]) rfl, HRD.out, hbel⟩

set_option maxHeartbeats 1000000 in
theorem moveBits_lowM (B A S : Nat) (s : ByteArray) (w : World) (h : RdsM w B false s A) (hs : s.size ≤ 9000) (hAS : A + S ≤ 8 * s.size) (h24 : S ≤ 32) :
    Calls Try.prog 63 #[.iface 113 (.pointer (some ⟨B, 2, none⟩)), .func (.func 77) #[] #[], .int .i64 0, .int .i64 S] w fun e w' => e = .returned (.tuple #[.int .i64 (Bg.low (fun i => bitAt s false (A + i)) S : Nat), .bool true]) ∧ RdsM w' B false s (A + S) ∧ Moved B 4 w w' := by
  have m1 := fun w => method_room ⟨B, 2, none⟩ w
  have m2 := fun w => method_next ⟨B, 2, none⟩ w
  have m3 := fun w => ahead_next ⟨B, 2, none⟩ w
  have HR : Hid (RdsM w B false s A) := h
  clear h
  go_enter Try.func63, Try.ntmps63
  go_wp2_with fail
  refine (room_anyM B A false s w HR.out hs (by omega)).mono ?_
  rintro e w1 ⟨rfl, m, rfl⟩
  have hd : decide (8 * (s.size : Int) - (A : Int) < (S : Int)) = false := by simp; omega
  go_wp2_with fail
  go_loopw [10, 18] (fun n i wr => ∃ k x : Nat, k ≤ S ∧ i = .int .i64 k ∧ x = Bg.low (fun i => bitAt s false (A + i)) k ∧ n = .int .i64 x ∧ RdsM wr B false s (A + k) ∧ Moved B 4 w wr) (fun _ i _ => S - (intOf i).toNat)
  case atStart => exact ⟨0, 0, Nat.zero_le _, rfl, rfl, rfl, HR.out.drewN m, (Moved.refl _ _ _).drewN _⟩
  case round =>
    obtain ⟨k, x, hk, rfl, hx, rfl, hRd, hbel⟩ := hrel
    clear HR
    have hb := Bg.low_lt (fun i => bitAt s false (A + i)) (fun i => bitAt_lt _ _ _) k
    rw [← hx] at hb
    by_cases hlt : k < S
    · have hbl := bitAt_lt s false (A + k)
      have HN : Hid (x + bitAt s false (A + k) * 2 ^ k = Bg.low (fun i => bitAt s false (A + i)) (k + 1)) := by rw [hx]; rfl
      have HXX : Hid (∀ (n : Int) (w : World), RdsM w B false s (A + k) → Calls Try.prog 96 #[.pointer (some ⟨B, 2, none⟩), .int .i64 n] w fun e w' => e = .returned (.int .i64 (bitAt s false (A + k) : Nat)) ∧ RdsM w' B false s (A + k + 1) ∧ Moved B 4 w w') := fun n w hr => nextM B (A + k) false s n w hr hs (by omega)
      have HRD : Hid (RdsM _ B false s (A + k)) := hRd
      clear hx hRd
      generalize bitAt s false (A + k) = b at *
      obtain ⟨y, hy⟩ : ∃ y, y = x + b * 2 ^ k := ⟨_, rfl⟩
      have hor := or_lowbit x b k y hb hbl (by omega) hy
      rw [← hy] at HN
      clear hy hb
      go_wp2_with fail
      refine (order_low _ _ _).mono ?_
      rintro e w3 ⟨rfl, hw3⟩
      subst hw3
      go_wp2_with fail
      go_region_with (go_at_call 96; refine (HXX.out _ _ ?_).mono ?_; (repeat (first | exact HRD.out | refine RdsM.drew ?_)); rintro e w4 ⟨rfl, hR4, b4⟩)
      all_goals have hb4 := hbel.trans ((Moved.refl B 4 w3).drew.trans b4)
      all_goals clear b4 hbel HRD HXX
      all_goals go_wp2_with fail
      all_goals
        go_roundw
        case rel => exact ⟨k + 1, y, by omega, by go_num, HN.out, rfl, hR4, hb4⟩
        case measure => simp [intOf]; omega
    · have hk' : k = S := by omega
      subst hk'
      have HX : Hid (x = _) := hx
      clear hx hb
      have HRD : Hid (RdsM _ B false s (A + k)) := hRd
      clear hRd
      go_wp2_with fail
      go_ret2
      exact ⟨ret_pair (by rw [HX.out]) rfl, HRD.out, hbel⟩

set_option maxHeartbeats 1000000 in
theorem moveBits_noM (B A S : Nat) (hi : Bool) (o : Value) (s : ByteArray) (w : World) (h : RdsM w B hi s A) (hs : s.size ≤ 9000) (hA : A ≤ 9223372036854775807) (hno : 8 * s.size < A + S) (_h24 : S ≤ 24) :
    Calls Try.prog 63 #[.iface 113 (.pointer (some ⟨B, 2, none⟩)), o, .int .i64 0, .int .i64 S] w fun e w' => e = .returned (.tuple #[.int .i64 0, .bool false]) ∧ Moved B 4 w w' := by
  have m1 := fun w => method_room ⟨B, 2, none⟩ w
  have HR : Hid (RdsM w B hi s A) := h
  clear h
  go_enter Try.func63, Try.ntmps63
  go_wp2_with fail
  refine (room_anyM B A hi s w HR.out hs hA).mono ?_
  rintro e w1 ⟨rfl, m, rfl⟩
  have hd : 8 * (s.size : Int) - (A : Int) < (S : Int) := by omega
  go_wp2_with fail
  go_ret2
  exact ⟨rfl, (Moved.refl _ _ _).drewN _⟩

theorem moveBitsM (B A S : Nat) (hi : Bool) (s : ByteArray) (w : World) (h : RdsM w B hi s A) (hs : s.size ≤ 9000) (hAS : A + S ≤ 8 * s.size) (h24 : S ≤ 32) :
    Calls Try.prog 63 #[.iface 113 (.pointer (some ⟨B, 2, none⟩)), ordV hi, .int .i64 0, .int .i64 S] w fun e w' => e = .returned (.tuple #[.int .i64 (Bg.num (fun i => bitAt s hi (A + i)) S hi : Nat), .bool true]) ∧ RdsM w' B hi s (A + S) ∧ Moved B 4 w w' := by
  cases hi
  · exact moveBits_lowM B A S s w h hs hAS h24
  · exact moveBits_highM B A S s w h hs hAS h24

set_option maxHeartbeats 1000000 in
theorem numberM_yes (B A S : Nat) (hi : Bool) (s : ByteArray) (w : World) (h : RdsM w B hi s A) (hs : s.size ≤ 9000) (hAS : A + S ≤ 8 * s.size) (h24 : S ≤ 24) :
    Calls Try.prog 69 #[.pointer (some ⟨B, 2, none⟩), .int .i64 S] w fun e w' => e = .returned (.int .i64 (Bg.num (fun i => bitAt s hi (A + i)) S hi : Nat)) ∧ RdsM w' B hi s (A + S) ∧ Moved B 4 w w' := by
  have HM : Hid (Calls Try.prog 63 #[.iface 113 (.pointer (some ⟨B, 2, none⟩)), ordV hi, .int .i64 0, .int .i64 S] w fun e w' => e = .returned (.tuple #[.int .i64 (Bg.num (fun i => bitAt s hi (A + i)) S hi : Nat), .bool true]) ∧ RdsM w' B hi s (A + S) ∧ Moved B 4 w w') := moveBitsM B A S hi s w h hs hAS (by omega)
  have h0 := h.c0
  generalize Bg.num (fun i => bitAt s hi (A + i)) S hi = N at *
  generalize ordV hi = ov at *
  clear h
  go_enter Try.func69, Try.ntmps69
  go_wp2_with fail
  refine (show Calls _ _ _ _ _ from HM.out).mono ?_
  rintro e w1 ⟨rfl, hR1, b1⟩
  have HR1 : Hid (RdsM w1 B hi s (A + S) ∧ Moved B 4 w w1) := ⟨hR1, b1⟩
  clear HM hR1 b1
  go_wp2_with fail
  refine (insist_yes _ _).mono ?_
  rintro e w2 ⟨rfl, hw2⟩
  replace hw2 := hw2.symm
  subst hw2
  go_wp2_with fail
  go_ret
  exact ⟨rfl, HR1.out⟩

set_option maxHeartbeats 1000000 in
theorem numberM_no (B A S : Nat) (hi : Bool) (s : ByteArray) (w : World) (h : RdsM w B hi s A) (hs : s.size ≤ 9000) (hA : A ≤ 8 * s.size) (hAS : 8 * s.size < A + S) (h24 : S ≤ 24) :
    Calls Try.prog 69 #[.pointer (some ⟨B, 2, none⟩), .int .i64 S] w fun e w' => e = fault 2 ∧ Moved B 4 w w' := by
  have HM : Hid (∀ o : Value, Calls Try.prog 63 #[.iface 113 (.pointer (some ⟨B, 2, none⟩)), o, .int .i64 0, .int .i64 S] w fun e w' => e = .returned (.tuple #[.int .i64 0, .bool false]) ∧ Moved B 4 w w') := fun o => moveBits_noM B A S hi o s w h hs (by omega) hAS h24
  have h0 := h.c0
  generalize ordV hi = ov at *
  clear h
  go_enter Try.func69, Try.ntmps69
  go_wp2_with fail
  refine (HM.out _).mono ?_
  rintro e w1 ⟨rfl, b1⟩
  have HR1 : Hid (Moved B 4 w w1) := b1
  clear HM b1
  go_wp2_with fail
  refine (insist_no _ _).mono ?_
  rintro e w2 ⟨rfl, hw2⟩
  replace hw2 := hw2.symm
  subst hw2
  unfold fault
  go_wp2_with fail
  exact ⟨rfl, rfl, HR1.out⟩
end Go.Proofs.Ytjfihmpnbblomaa
