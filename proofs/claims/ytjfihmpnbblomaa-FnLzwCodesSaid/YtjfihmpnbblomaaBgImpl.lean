/- Bits of a text as the program reads them: a reader behind an interface. -/
import Derived.Test.YtjfihmpnbblomaaBgBits
import Derived.Test.YtjfihmpnbblomaaOrdWalks
namespace Go.Proofs.Ytjfihmpnbblomaa
open Go.RowKit

/-- the closure that tells which comes first -/
def ordV (hi : Bool) : Value := .func (.func (if hi then 76 else 77)) #[] #[]

/-- a reader of bits in block B, at bit p -/
structure Reads (w : World) (B : Nat) (hi : Bool) (s : ByteArray) (p : Nat) : Prop where
  c0 : w.cell? ⟨B, 0, none⟩ = some (ordV hi)
  c1 : w.cell? ⟨B, 1, none⟩ = some (.string s)
  c2 : w.cell? ⟨B, 2, none⟩ = some (.int .i64 (p : Int))
  f2 : w.frozen? ⟨B, 2, none⟩ = false

set_option maxHeartbeats 400000 in
theorem room_any (B p : Nat) (hi : Bool) (s : ByteArray) (w : World) (h : Reads w B hi s p) (hs : s.size ≤ 9000) (hp : p ≤ 9223372036854775807) :
    Calls Try.prog 97 #[.pointer (some ⟨B, 0, none⟩)] w fun e w' => e = .returned (.int .i64 (8 * (s.size : Int) - (p : Int))) ∧ ∃ m, w' = w.drewN m := by
  obtain ⟨h0, h1, h2, _⟩ := h
  go_enter Try.func97, Try.ntmps97
  go_wp2_with fail
  go_region
  all_goals go_wp2_with fail
  all_goals go_ret
  all_goals exact ⟨rfl, 1, rfl⟩

theorem and_bit (x q : Nat) (h : x < 256) : bits .and .i64 ((x : Int) / 2 ^ q) 1 = ((x / 2 ^ q % 2 : Nat) : Int) := by
  have e : (x : Int) / 2 ^ q = ((x / 2 ^ q : Nat) : Int) := by simp
  have hl : x / 2 ^ q ≤ x := Nat.div_le_self _ _
  have := i64_and_nat (x / 2 ^ q) 1 (by omega) (by omega)
  rw [show ((1 : Nat) : Int) = 1 from rfl] at this
  rw [e, this, nat_mask1]

set_option maxHeartbeats 1000000 in
theorem next_low (B p : Nat) (s : ByteArray) (n : Int) (w : World) (h : Reads w B false s p) (hs : s.size ≤ 9000) (hp : p / 8 < s.size) :
    Calls Try.prog 96 #[.pointer (some ⟨B, 0, none⟩), .int .i64 n] w fun e w' => e = .returned (.int .i64 (bitAt s false p : Nat)) ∧ ∃ m, w' = (w.setCell ⟨B, 2, none⟩ (.int .i64 ((p : Int) + 1))).drewN m := by
  obtain ⟨h0, h1, h2, hf⟩ := h
  have h0' : w.cell? ⟨B, 0, none⟩ = some (.func (.func 77) #[] #[]) := h0
  clear h0
  obtain ⟨j, hj⟩ : ∃ j, j = p / 8 := ⟨_, rfl⟩
  obtain ⟨q, hq⟩ : ∃ q, q = p % 8 := ⟨_, rfl⟩
  have hjs : j < s.size := by omega
  have hbe := byteAt_eq s j hjs
  have hbl := byteAt_lt s j
  have e1 : (p : Int) / 8 = (j : Int) := by omega
  have e2 : (p : Int) % 8 = (q : Int) := by omega
  have e3 : (p : Int).tdiv 8 = (j : Int) := by rw [Int.tdiv_eq_ediv_of_nonneg (by omega)]; exact e1
  have e4 : (p : Int).tmod 8 = (q : Int) := by rw [Int.tmod_eq_emod_of_nonneg (by omega)]; exact e2
  have hji : (j : Int) < (s.size : Int) := by omega
  have e5 := wrap_i64_nat j (by omega)
  have e6 := wrap_i64_nat (byteAt s j) (by omega)
  obtain ⟨v, hv⟩ : ∃ v, v = bitAt s false p := ⟨_, rfl⟩
  have hbit : bits .and .i64 (((byteAt s j : Nat) : Int) / 2 ^ q) 1 = (v : Int) := by
    rw [and_bit _ _ hbl, hv]; unfold bitAt Bg.spot; rw [hq, hj]; rfl
  rw [← hv]
  have hpb : p ≤ 80000 := by omega
  have hq8 : q ≤ 7 := by omega
  clear hj hq hp hv
  go_enter Try.func96, Try.ntmps96
  go_wp2_with fail
  go_quiet (exact Calls.quiet_of_same (order_low _ _ _))
  go_wp2_with fail
  go_ret
  exact ⟨rfl, nq, rfl⟩

set_option maxHeartbeats 1000000 in
theorem next_high (B p : Nat) (s : ByteArray) (n : Int) (w : World) (h : Reads w B true s p) (hs : s.size ≤ 9000) (hp : p / 8 < s.size) :
    Calls Try.prog 96 #[.pointer (some ⟨B, 0, none⟩), .int .i64 n] w fun e w' => e = .returned (.int .i64 (bitAt s true p : Nat)) ∧ ∃ m, w' = (w.setCell ⟨B, 2, none⟩ (.int .i64 ((p : Int) + 1))).drewN m := by
  obtain ⟨h0, h1, h2, hf⟩ := h
  have h0' : w.cell? ⟨B, 0, none⟩ = some (.func (.func 76) #[] #[]) := h0
  clear h0
  obtain ⟨j, hj⟩ : ∃ j, j = p / 8 := ⟨_, rfl⟩
  obtain ⟨q, hq⟩ : ∃ q, q = p % 8 := ⟨_, rfl⟩
  have hjs : j < s.size := by omega
  have hbe := byteAt_eq s j hjs
  have hbl := byteAt_lt s j
  have e1 : (p : Int) / 8 = (j : Int) := by omega
  have e2 : (p : Int) % 8 = (q : Int) := by omega
  have e3 : (p : Int).tdiv 8 = (j : Int) := by rw [Int.tdiv_eq_ediv_of_nonneg (by omega)]; exact e1
  have e4 : (p : Int).tmod 8 = (q : Int) := by rw [Int.tmod_eq_emod_of_nonneg (by omega)]; exact e2
  have hji : (j : Int) < (s.size : Int) := by omega
  have e5 := wrap_i64_nat j (by omega)
  have e6 := wrap_i64_nat (byteAt s j) (by omega)
  obtain ⟨v, hv⟩ : ∃ v, v = bitAt s true p := ⟨_, rfl⟩
  have hbit : bits .and .i64 (((byteAt s j : Nat) : Int) / 2 ^ (7 - q)) 1 = (v : Int) := by
    rw [and_bit _ _ hbl, hv]; unfold bitAt Bg.spot; rw [hq, hj]; rfl
  rw [← hv]
  have hpb : p ≤ 80000 := by omega
  have hq8 : q ≤ 7 := by omega
  clear hj hq hp hv
  go_enter Try.func96, Try.ntmps96
  go_wp2_with fail
  go_quiet (exact Calls.quiet_of_same (order_high _ _ _ (by omega) (by omega) (by omega)))
  go_wp2_with fail
  go_ret
  exact ⟨rfl, nq, rfl⟩

theorem next_any (B p : Nat) (hi : Bool) (s : ByteArray) (n : Int) (w : World) (h : Reads w B hi s p) (hs : s.size ≤ 9000) (hp : p / 8 < s.size) :
    Calls Try.prog 96 #[.pointer (some ⟨B, 0, none⟩), .int .i64 n] w fun e w' => e = .returned (.int .i64 (bitAt s hi p : Nat)) ∧ Reads w' B hi s (p + 1) ∧ Below B w w' := by
  have key : ∀ m, Reads ((w.setCell ⟨B, 2, none⟩ (.int .i64 ((p : Int) + 1))).drewN m) B hi s (p + 1) ∧ Below B w ((w.setCell ⟨B, 2, none⟩ (.int .i64 ((p : Int) + 1))).drewN m) := by
    intro m
    refine ⟨⟨?_, ?_, ?_, ?_⟩, below_drewN ((Below.refl B w).setCell (p := ⟨B, 2, none⟩) (Nat.le_refl _) _) _⟩
    · rw [World.cell?_drewN, World.cell?_setCell_other _ _ _ _ (fun e => absurd (congrArg Addr.off e) (show ¬ (2 : Nat) = 0 by omega))]; exact h.c0
    · rw [World.cell?_drewN, World.cell?_setCell_other _ _ _ _ (fun e => absurd (congrArg Addr.off e) (show ¬ (2 : Nat) = 1 by omega))]; exact h.c1
    · rw [World.cell?_drewN, World.cell?_setCell_same _ _ _ h.c2]; rfl
    · rw [World.frozen?_drewN, World.frozen?_setCell]; exact h.f2
  cases hi
  · refine (next_low B p s n w h hs hp).mono ?_
    rintro e w' ⟨rfl, m, rfl⟩
    exact ⟨rfl, key m⟩
  · refine (next_high B p s n w h hs hp).mono ?_
    rintro e w' ⟨rfl, m, rfl⟩
    exact ⟨rfl, key m⟩

theorem method_room (a : Addr) (w : World) : (method 231 113 (.pointer (some a)) "loop.example/intarsia/impl.room").run Try.prog w = .ok (97, .pointer (some a)) w := by kernel_rfl
theorem method_next (a : Addr) (w : World) : (method 231 113 (.pointer (some a)) "loop.example/intarsia/impl.next").run Try.prog w = .ok (96, .pointer (some a)) w := by kernel_rfl
theorem ahead_next (a : Addr) (w : World) : (nilAhead 231 113 (.pointer (some a)) "loop.example/intarsia/impl.next").run Try.prog w = .ok (some false) w := by kernel_rfl

theorem Reads.drewN {w : World} {B p : Nat} {hi : Bool} {s : ByteArray} (h : Reads w B hi s p) (m : Nat) : Reads (w.drewN m) B hi s p := ⟨h.c0, h.c1, h.c2, h.f2⟩
theorem Reads.drew {w : World} {B p : Nat} {hi : Bool} {s : ByteArray} (h : Reads w B hi s p) : Reads w.drew B hi s p := ⟨h.c0, h.c1, h.c2, h.f2⟩

theorem or_lowbit (x b k y : Nat) (hx : x < 2 ^ k) (hb : b < 2) (hk : k < 32) (hy : y = x + b * 2 ^ k) :
    bits .or .i64 (x : Int) (IntKind.i64.wrap ((b : Int) * 2 ^ k)) = (y : Int) := by
  have h3 : 2 ^ k ≤ 2 ^ 32 := Nat.pow_le_pow_right (by omega) (by omega)
  have h1 : b * 2 ^ k ≤ 1 * 2 ^ 32 := Nat.mul_le_mul (by omega) h3
  have e : (b : Int) * 2 ^ k = ((b * 2 ^ k : Nat) : Int) := by simp
  rw [e, wrap_i64_nat _ (by omega), i64_or_nat _ _ (by omega) (by omega), Nat.or_comm, nat_join k (b * 2 ^ k) x (Nat.mul_mod_left _ _) hx, hy]
  omega

theorem or_highbit (x b k S y : Nat) (hx : x < 2 ^ k) (hb : b < 2) (hk : k < S) (hS : S ≤ 32) (hy : y = (2 * x + b) * 2 ^ (S - (k + 1))) :
    bits .or .i64 ((x * 2 ^ (S - k) : Nat) : Int) (IntKind.i64.wrap ((b : Int) * 2 ^ (S - 1 - k))) = (y : Int) := by
  have h3 : 2 ^ (S - 1 - k) ≤ 2 ^ 32 := Nat.pow_le_pow_right (by omega) (by omega)
  have h1 : b * 2 ^ (S - 1 - k) ≤ 1 * 2 ^ 32 := Nat.mul_le_mul (by omega) h3
  have h4 : x * 2 ^ (S - k) < 2 ^ k * 2 ^ (S - k) := Nat.mul_lt_mul_of_pos_right hx (Nat.pow_pos (by omega))
  have h5 : 2 ^ k * 2 ^ (S - k) = 2 ^ S := by rw [← Nat.pow_add]; congr 1; omega
  have h6 : 2 ^ S ≤ 2 ^ 32 := Nat.pow_le_pow_right (by omega) hS
  have h7 : b * 2 ^ (S - 1 - k) < 2 ^ (S - k) := by
    have e : S - k = (S - 1 - k) + 1 := by omega
    rw [e, Nat.pow_succ]
    have := Nat.mul_le_mul_right (2 ^ (S - 1 - k)) (show b ≤ 1 by omega)
    have hp : 0 < 2 ^ (S - 1 - k) := Nat.pow_pos (by omega)
    omega
  have e : (b : Int) * 2 ^ (S - 1 - k) = ((b * 2 ^ (S - 1 - k) : Nat) : Int) := by simp
  rw [e, wrap_i64_nat _ (by omega), i64_or_nat _ _ (by omega) (by omega), nat_join (S - k) (x * 2 ^ (S - k)) _ (Nat.mul_mod_left _ _) h7, hy]
  have e2 : S - k = (S - (k + 1)) + 1 := by omega
  have e3 : S - 1 - k = S - (k + 1) := by omega
  rw [e2, e3, Nat.pow_succ, Nat.add_mul]
  congr 2
  generalize 2 ^ (S - (k + 1)) = p
  rw [← Nat.mul_assoc, Nat.mul_right_comm, Nat.mul_comm 2 x]

set_option maxHeartbeats 1000000 in
theorem moveBits_low (B A S : Nat) (s : ByteArray) (w : World) (h : Reads w B false s A) (hs : s.size ≤ 9000) (hAS : A + S ≤ 8 * s.size) (h24 : S ≤ 32) :
    Calls Try.prog 63 #[.iface 113 (.pointer (some ⟨B, 0, none⟩)), .func (.func 77) #[] #[], .int .i64 0, .int .i64 S] w fun e w' => e = .returned (.tuple #[.int .i64 (Bg.low (fun i => bitAt s false (A + i)) S : Nat), .bool true]) ∧ Below B w w' := by
  have m1 := fun w => method_room ⟨B, 0, none⟩ w
  have m2 := fun w => method_next ⟨B, 0, none⟩ w
  have m3 := fun w => ahead_next ⟨B, 0, none⟩ w
  have HR : Hid (Reads w B false s A) := h
  clear h
  go_enter Try.func63, Try.ntmps63
  go_wp2_with fail
  refine (room_any B A false s w HR.out hs (by omega)).mono ?_
  rintro e w1 ⟨rfl, m, rfl⟩
  have hd : decide (8 * (s.size : Int) - (A : Int) < (S : Int)) = false := by simp; omega
  go_wp2_with fail
  go_loopw [10, 18] (fun n i wr => ∃ k x : Nat, k ≤ S ∧ i = .int .i64 k ∧ x = Bg.low (fun i => bitAt s false (A + i)) k ∧ n = .int .i64 x ∧ Reads wr B false s (A + k) ∧ Below B w wr) (fun _ i _ => S - (intOf i).toNat)
  case atStart => exact ⟨0, 0, Nat.zero_le _, rfl, rfl, rfl, HR.out.drewN m, below_drewN (Below.refl _ _) _⟩
  case round =>
    obtain ⟨k, x, hk, rfl, hx, rfl, hRd, hbel⟩ := hrel
    clear HR
    have hb := Bg.low_lt (fun i => bitAt s false (A + i)) (fun i => bitAt_lt _ _ _) k
    rw [← hx] at hb
    by_cases hlt : k < S
    · have hbl := bitAt_lt s false (A + k)
      have HN : Hid (x + bitAt s false (A + k) * 2 ^ k = Bg.low (fun i => bitAt s false (A + i)) (k + 1)) := by rw [hx]; rfl
      have HX := fun n => next_any B (A + k) false s n
      have HXX : Hid (∀ (n : Int) (w : World), Reads w B false s (A + k) → Calls Try.prog 96 #[.pointer (some ⟨B, 0, none⟩), .int .i64 n] w fun e w' => e = .returned (.int .i64 (bitAt s false (A + k) : Nat)) ∧ Reads w' B false s (A + k + 1) ∧ Below B w w') := fun n w hr => next_any B (A + k) false s n w hr hs (by omega)
      have HRD : Hid (Reads _ B false s (A + k)) := hRd
      clear HX hx hRd
      generalize bitAt s false (A + k) = b at *
      obtain ⟨y, hy⟩ : ∃ y, y = x + b * 2 ^ k := ⟨_, rfl⟩
      have hor := or_lowbit x b k y hb hbl (by omega) hy
      rw [← hy] at HN
      clear hy hb
      go_wp2_with fail
      refine (order_low _ _ _).mono ?_
      rintro e w3 ⟨rfl, hw3⟩
      subst hw3
      go_wp2_with fail
      go_region_with (go_at_call 96; refine (HXX.out _ _ ?_).mono ?_; (repeat (first | exact HRD.out | refine Reads.drew ?_)); rintro e w4 ⟨rfl, hR4, b4⟩)
      all_goals have hb4 := hbel.trans ((Below.refl B w3).drew.trans b4)
      all_goals clear b4 hbel HRD HXX
      all_goals go_wp2_with fail
      all_goals
        go_roundw
        case rel => exact ⟨k + 1, y, by omega, by go_num, HN.out, rfl, hR4, hb4⟩
        case measure => simp [intOf]; omega
    · have hk' : k = S := by omega
      subst hk'
      have HX : Hid (x = _) := hx
      clear hx hb hRd
      go_wp2_with fail
      go_ret2
      exact ⟨ret_pair (by rw [HX.out]) rfl, hbel⟩

set_option maxHeartbeats 1000000 in
theorem moveBits_high (B A S : Nat) (s : ByteArray) (w : World) (h : Reads w B true s A) (hs : s.size ≤ 9000) (hAS : A + S ≤ 8 * s.size) (h24 : S ≤ 32) :
    Calls Try.prog 63 #[.iface 113 (.pointer (some ⟨B, 0, none⟩)), .func (.func 76) #[] #[], .int .i64 0, .int .i64 S] w fun e w' => e = .returned (.tuple #[.int .i64 (Bg.big (fun i => bitAt s true (A + i)) S : Nat), .bool true]) ∧ Below B w w' := by
  have m1 := fun w => method_room ⟨B, 0, none⟩ w
  have m2 := fun w => method_next ⟨B, 0, none⟩ w
  have m3 := fun w => ahead_next ⟨B, 0, none⟩ w
  have HR : Hid (Reads w B true s A) := h
  clear h
  go_enter Try.func63, Try.ntmps63
  go_wp2_with fail
  refine (room_any B A true s w HR.out hs (by omega)).mono ?_
  rintro e w1 ⟨rfl, m, rfl⟩
  have hd : decide (8 * (s.size : Int) - (A : Int) < (S : Int)) = false := by simp; omega
  go_wp2_with fail
  go_loopw [10, 18] (fun n i wr => ∃ k x : Nat, k ≤ S ∧ i = .int .i64 k ∧ x = Bg.big (fun i => bitAt s true (A + i)) k * 2 ^ (S - k) ∧ n = .int .i64 x ∧ Reads wr B true s (A + k) ∧ Below B w wr) (fun _ i _ => S - (intOf i).toNat)
  case atStart => exact ⟨0, 0, Nat.zero_le _, rfl, by simp [Bg.big], rfl, HR.out.drewN m, below_drewN (Below.refl _ _) _⟩
  case round =>
    obtain ⟨k, x, hk, rfl, hx, rfl, hRd, hbel⟩ := hrel
    clear HR
    have hb := Bg.big_lt (fun i => bitAt s true (A + i)) (fun i => bitAt_lt _ _ _) k
    by_cases hlt : k < S
    · have hbl := bitAt_lt s true (A + k)
      have HN : Hid (Bg.big (fun i => bitAt s true (A + i)) (k + 1) * 2 ^ (S - (k + 1)) = (2 * Bg.big (fun i => bitAt s true (A + i)) k + bitAt s true (A + k)) * 2 ^ (S - (k + 1))) := rfl
      have HXX : Hid (∀ (n : Int) (w : World), Reads w B true s (A + k) → Calls Try.prog 96 #[.pointer (some ⟨B, 0, none⟩), .int .i64 n] w fun e w' => e = .returned (.int .i64 (bitAt s true (A + k) : Nat)) ∧ Reads w' B true s (A + k + 1) ∧ Below B w w') := fun n w hr => next_any B (A + k) true s n w hr hs (by omega)
      have HRD : Hid (Reads _ B true s (A + k)) := hRd
      clear hRd
      generalize bitAt s true (A + k) = b at *
      generalize Bg.big (fun i => bitAt s true (A + i)) k = q at *
      obtain ⟨y, hy⟩ : ∃ y, y = (2 * q + b) * 2 ^ (S - (k + 1)) := ⟨_, rfl⟩
      have hor := or_highbit q b k S y hb hbl hlt h24 hy
      rw [← hx] at hor
      have hor2 : bits .or .i64 (x : Int) (IntKind.i64.wrap ((b : Int) * 2 ^ ((S : Int) - 1 - (k : Int)).toNat)) = (y : Int) := by
        rw [show ((S : Int) - 1 - (k : Int)).toNat = S - 1 - k from by omega]; exact hor
      rw [← hy] at HN
      clear hy hb hx
      go_wp2_with fail
      refine (order_high _ _ _ (by omega) (by omega) (by omega)).mono ?_
      rintro e w3 ⟨rfl, hw3⟩
      subst hw3
      go_wp2_with fail
      go_region_with (go_at_call 96; refine (HXX.out _ _ ?_).mono ?_; (repeat (first | exact HRD.out | refine Reads.drew ?_)); rintro e w4 ⟨rfl, hR4, b4⟩)
      all_goals have hb4 := hbel.trans ((Below.refl B w3).drew.trans b4)
      all_goals clear b4 hbel HRD HXX
      all_goals go_wp2_with fail
      all_goals
        go_roundw
        case rel => exact ⟨k + 1, y, by omega, by go_num, HN.out.symm, rfl, hR4, hb4⟩
        case measure => simp [intOf]; omega
    · have hk' : k = S := by omega
      subst hk'
      rw [Nat.sub_self, Nat.pow_zero, Nat.mul_one] at hx
      have HX : Hid (x = _) := hx
      clear hx hb hRd
      go_wp2_with fail
      go_ret2
      exact ⟨ret_pair (by rw [HX.out]) rfl, hbel⟩
end Go.Proofs.Ytjfihmpnbblomaa
