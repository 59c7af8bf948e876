/- The draws of the law on numbers in bytes. -/
import Derived.Test.YtoocijfkckjbfaaDrawSums
import Derived.Test.YtoocijfkckjbfaaPutWalks
import Derived.Test.YtoocijfkckjbfaaNmWalks
import Derived.Test.YtoocijfkckjbfaaNpMath
namespace Go.Proofs.Ytoocijfkckjbfaa
open Go.RowKit

set_option maxHeartbeats 1000000 in
theorem drawNumGet_any (a : Option Addr) (len cap : Nat) (w : World) (h : Code8 w a len cap) :
    Calls Try.prog 18 #[.slice a len cap] w fun e w' => (∃ (t : ByteArray) (p z : Int) (hi : Bool), e = .returned (.tuple #[.string t, .int .i64 p, .int .i64 z, .bool hi]) ∧ t.size ≤ 9001 ∧ -1 ≤ p ∧ p ≤ 9005 ∧ 0 ≤ z ∧ z ≤ 5) ∧ Below w.heap.size w w' := by
  go_enter Try.func18, Try.ntmps18
  go_wp2_with fail
  refine (open_any a len cap w h).mono ?_
  rintro e w1 ⟨rfl, hR, bel⟩
  clear h
  go_wp2_with fail
  refine (text_any w.heap.size 0 w1 hR (by omega)).mono ?_
  rintro e w2 ⟨⟨t, rfl, ht⟩, ⟨q, hq, hR2⟩, hO2⟩
  have bel2 := bel.trans hO2.below
  clear bel hO2 hR
  go_wp2_with fail
  refine (pick_named w.heap.size q _ w2 hR2 (by omega) (by omega) (by omega)).mono ?_
  rintro e w3 ⟨v, rfl, hv, hR3, hO3, hs3⟩
  have bel3 := bel2.trans hO3.below
  clear bel2 hO3 hs3 hR2
  go_wp2_with fail
  refine (pick_named w.heap.size (q + 1) _ w3 hR3 (by omega) (by omega) (by omega)).mono ?_
  rintro e w4 ⟨z, rfl, hz, hR4, hO4, hs4⟩
  have bel4 := bel3.trans hO4.below
  clear bel3 hO4 hs4 hR3
  go_wp2_with fail
  refine (pick_named w.heap.size (q + 1 + 1) _ w4 hR4 (by omega) (by omega) (by omega)).mono ?_
  rintro e w5 ⟨y, rfl, hy, hR5, hO5, hs5⟩
  have bel5 := bel4.trans hO5.below
  clear bel4 hO5 hs5 hR4 hR5
  go_wp2_with fail
  exact bodyPost_ret (v := .tuple #[.string t, .int .i64 ((v : Int) - 1), .int .i64 (z : Int), .bool ((y : Int) == 0)]) (by simp [results, Try.results18, go_sem]) rfl ⟨⟨t, (v : Int) - 1, z, ((y : Int) == 0), rfl, ht, by omega, by omega, by omega, by omega⟩, bel5⟩

set_option maxHeartbeats 2000000 in
theorem drawNumPut_any (a : Option Addr) (len cap : Nat) (w : World) (h : Code8 w a len cap) :
    Calls Try.prog 16 #[.slice a len cap] w fun e w' => (∃ (n z : Int) (hi : Bool), e = .returned (.tuple #[.int .i64 n, .int .i64 z, .bool hi]) ∧ -1 ≤ n ∧ n ≤ 1099511627776 ∧ 0 ≤ z ∧ z ≤ 5) ∧ Below w.heap.size w w' := by
  go_enter Try.func16, Try.ntmps16
  go_wp2_with fail
  refine (open_any a len cap w h).mono ?_
  rintro e w1 ⟨rfl, hR, bel⟩
  clear h
  go_wp2_with fail
  refine (pick_named w.heap.size 0 _ w1 hR (by omega) (by omega) (by omega)).mono ?_
  rintro e w2 ⟨z, rfl, hz, hR2, hO2, hs2⟩
  have bel2 := bel.trans hO2.below
  have hlt := hR2.lt
  clear bel hO2 hR hs2
  have hne : ¬ w2.heap.size = w.heap.size := by omega
  have hp2 : 2 ^ (8 * z) ≤ 2 ^ 40 := Nat.pow_le_pow_right (by omega) (by omega)
  have hp1 : 0 < 2 ^ (8 * z) := Nat.pow_pos (by omega)
  obtain ⟨Q, hQ⟩ : ∃ Q, Q = 2 ^ (8 * z) := ⟨_, rfl⟩
  have HP : Hid (∀ (x : Int) (w : World), x = 8 * (z : Int) → Calls Try.prog 36 #[.int .i64 x] w fun e w' => e = .returned (.int .i64 (Q : Int)) ∧ w' = w) := by
    intro x w hx
    have := l1Pow_any (8 * z) w (by omega)
    rw [← hQ, show ((8 * z : Nat) : Int) = x from by omega] at this
    exact this
  rw [← hQ] at hp2 hp1
  clear hQ
  have hwz : IntKind.i64.wrap (8 * (z : Int)) = 8 * (z : Int) := by
    have := wrap_i64_nat (8 * z) (by omega)
    rw [show ((8 * z : Nat) : Int) = 8 * (z : Int) from by omega] at this
    exact this
  have hwQ : IntKind.i64.wrap ((Q : Int) - 1) = (Q : Int) - 1 := by
    have := wrap_i64_nat (Q - 1) (by omega)
    rw [show ((Q - 1 : Nat) : Int) = (Q : Int) - 1 from by omega] at this
    exact this
  go_wp2_with fail
  go_region_with (first | (go_at_call 36; refine (HP.out _ _ rfl).mono ?_; rintro e w9 ⟨rfl, rfl⟩) | (go_at_call_of 35 (256 : Int); refine (pick_named w.heap.size 1 256 _ ?_ (by omega) (by omega) (by omega)).mono ?_; (repeat (first | exact hR2 | refine RdAt.drew ?_ | refine RdAt.alloc ?_ _)); rintro e w3 ⟨v3, rfl, hv3, hR3, hO3, hs3⟩; have hc3 := hO3.cell) | (go_at_call_of 35 (65536 : Int); refine (pick_named w.heap.size 2 65536 _ ?_ (by omega) (by omega) (by omega)).mono ?_; (repeat (first | exact hR3 | refine RdAt.drew ?_ | refine RdAt.alloc ?_ _)); rintro e w4 ⟨v4, rfl, hv4, hR4, hO4, hs4⟩; have hc4 := hO4.cell) | (go_at_call_of 35 (6 : Int); refine (pick_named w.heap.size 3 6 _ ?_ (by omega) (by omega) (by omega)).mono ?_; (repeat (first | exact hR4 | refine RdAt.drew ?_ | refine RdAt.alloc ?_ _)); rintro e w5 ⟨v5, rfl, hv5, hR5, hO5, hs5⟩; have hc5 := hO5.cell; obtain ⟨sv, hsv, hget⟩ := six_get (v3 : Int) (v4 : Int) 4294967295 (-1) ((Q : Int) - 1) (Q : Int) v5 hv5 (-1) 1099511627776 (by omega) (by omega) (by omega) (by omega) (by omega) (by omega)) | (go_at_call_of 35 (2 : Int); refine (pick_named w.heap.size 4 2 _ ?_ (by omega) (by omega) (by omega)).mono ?_; (repeat (first | exact hR5 | refine RdAt.drew ?_ | refine RdAt.alloc ?_ _)); rintro e w6 ⟨v6, rfl, hv6, hR6, hO6, hs6⟩; have hc6 := hO6.cell))
  all_goals go_wp2_with fail
  all_goals go_ret3
  all_goals refine ⟨⟨sv, (z : Int), _, rfl, hsv.1, hsv.2, by omega, by omega⟩, ?_⟩
  all_goals (repeat (first | exact bel2 | refine Below.drew ?_ | refine below_alloc0 ?_ _ | refine Below.trans ?_ hO6.below | refine Below.trans ?_ hO5.below | refine Below.trans ?_ hO4.below | refine Below.trans ?_ hO3.below))
end Go.Proofs.Ytoocijfkckjbfaa
