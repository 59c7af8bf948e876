/- The draws of the laws on sums. -/
import Derived.Test.YtoocijfkckjbfaaDrawWalks
import Derived.Test.YtoocijfkckjbfaaCrWalks
namespace Go.Proofs.Ytoocijfkckjbfaa
open Go.RowKit

set_option maxHeartbeats 400000 in
theorem drawCrc32_any (a : Option Addr) (len cap : Nat) (w : World) (h : Code8 w a len cap) :
    Calls Try.prog 22 #[.slice a len cap] w fun e w' => (∃ t : ByteArray, e = .returned (.string t) ∧ t.size ≤ 9001) ∧ Below w.heap.size w w' := by
  go_enter Try.func22, Try.ntmps22
  go_wp2_with fail
  refine (open_any a len cap w h).mono ?_
  rintro e w1 ⟨rfl, hR, bel⟩
  go_wp2_with fail
  refine (text_any w.heap.size 0 w1 hR (by omega)).mono ?_
  rintro e w2 ⟨⟨t, rfl, ht⟩, _, bel2⟩
  go_wp2_with fail
  go_ret
  exact ⟨⟨t, rfl, ht⟩, bel.trans bel2.below⟩

set_option maxHeartbeats 400000 in
theorem drawAdler32_any (a : Option Addr) (len cap : Nat) (w : World) (h : Code8 w a len cap) :
    Calls Try.prog 28 #[.slice a len cap] w fun e w' => (∃ t : ByteArray, e = .returned (.string t) ∧ t.size ≤ 9001) ∧ Below w.heap.size w w' := by
  go_enter Try.func28, Try.ntmps28
  go_wp2_with fail
  refine (open_any a len cap w h).mono ?_
  rintro e w1 ⟨rfl, hR, bel⟩
  go_wp2_with fail
  refine (text_any w.heap.size 0 w1 hR (by omega)).mono ?_
  rintro e w2 ⟨⟨t, rfl, ht⟩, _, bel2⟩
  go_wp2_with fail
  go_ret
  exact ⟨⟨t, rfl, ht⟩, bel.trans bel2.below⟩

theorem six_get (A B C D E F : Int) (v : Nat) (hv : (v : Int) < 6) (lo hi : Int) (ha : lo ≤ A ∧ A ≤ hi) (hb : lo ≤ B ∧ B ≤ hi) (hc : lo ≤ C ∧ C ≤ hi) (hd : lo ≤ D ∧ D ≤ hi) (he : lo ≤ E ∧ E ≤ hi) (hf : lo ≤ F ∧ F ≤ hi) :
    ∃ s : Int, (lo ≤ s ∧ s ≤ hi) ∧ (#[Value.int .i64 A, Value.int .i64 B, Value.int .i64 C, Value.int .i64 D, Value.int .i64 E, Value.int .i64 F])[v]? = some (Value.int .i64 s) := by
  have h : v = 0 ∨ v = 1 ∨ v = 2 ∨ v = 3 ∨ v = 4 ∨ v = 5 := by omega
  rcases h with rfl | rfl | rfl | rfl | rfl | rfl
  · exact ⟨A, ha, rfl⟩
  · exact ⟨B, hb, rfl⟩
  · exact ⟨C, hc, rfl⟩
  · exact ⟨D, hd, rfl⟩
  · exact ⟨E, he, rfl⟩
  · exact ⟨F, hf, rfl⟩

/-- the contract of a pick, its world under a name -/
theorem pick_named (B p : Nat) (n : Int) (w : World) (hr : RdAt w B p) (hn : 1 ≤ n) (hn' : n ≤ 1000000000) (hp : p ≤ 1000000000) :
    Calls Try.prog 35 #[.pointer (some ⟨B, 0, none⟩), .int .i64 n] w fun e w' => ∃ v : Nat, e = .returned (.int .i64 (v : Int)) ∧ (v : Int) < n ∧ RdAt w' B (p + 1) ∧ Only B w w' ∧ w'.heap.size = w.heap.size := by
  refine (pick_any B p n w hr hn hn' hp).mono ?_
  rintro e w' ⟨v, m, rfl, hv, rfl⟩
  exact ⟨v, rfl, hv, hr.step m, step_only w B _ m, by simp⟩

set_option maxHeartbeats 1000000 in
theorem drawAdlerMore_any (a : Option Addr) (len cap : Nat) (w : World) (h : Code8 w a len cap) :
    Calls Try.prog 29 #[.slice a len cap] w fun e w' => (∃ (s : Int) (t : ByteArray), e = .returned (.tuple #[.int .i64 s, .string t]) ∧ t.size ≤ 9001 ∧ -1 ≤ s ∧ s ≤ 4294967296) ∧ Below w.heap.size w w' := by
  go_enter Try.func29, Try.ntmps29
  go_wp2_with fail
  refine (open_any a len cap w h).mono ?_
  rintro e w1 ⟨rfl, hR, bel⟩
  have hlt := hR.lt
  have hne : ¬ w1.heap.size = w.heap.size := by omega
  have hAb := Ad.more_bounds 1 [97, 104, 101, 97, 100]
  have hsp : ∀ w, Calls Try.prog 33 #[.int .i64 1, .string ⟨#[97, 104, 101, 97, 100]⟩] w fun e w' => e = .returned (.int .i64 (Ad.more 1 [97, 104, 101, 97, 100])) ∧ w' = w :=
    fun w => spec_adler 1 ⟨#[97, 104, 101, 97, 100]⟩ w (by decide) (by omega) (by omega)
  have HSP : Hid (∀ w, Calls Try.prog 33 #[.int .i64 1, .string ⟨#[97, 104, 101, 97, 100]⟩] w fun e w' => e = .returned (.int .i64 (Ad.more 1 [97, 104, 101, 97, 100])) ∧ w' = w) := hsp
  clear hsp
  generalize Ad.more 1 [97, 104, 101, 97, 100] = A at *
  go_wp2_with fail
  go_region_with (first | (go_at_call 33; refine (HSP.out _).mono ?_; rintro e w2 ⟨rfl, rfl⟩) | (go_at_call 35; refine (pick_named w.heap.size 0 6 _ ?_ (by omega) (by omega) (by omega)).mono ?_; (repeat (first | exact hR | refine RdAt.drew ?_ | refine RdAt.alloc ?_ _)); rintro e w2 ⟨v, rfl, hv, hR2, hO2, hs2⟩; obtain ⟨sv, hsv, hget⟩ := six_get A 1 65520 65521 (-1) 4294967296 v hv (-1) 4294967296 (by omega) (by omega) (by omega) (by omega) (by omega) (by omega); have hc2 := hO2.cell) | (go_at_call 42; refine (text_any w.heap.size 1 _ ?_ (by omega)).mono ?_; (repeat (first | exact hR2 | refine RdAt.drew ?_ | refine RdAt.alloc ?_ _)); rintro e w3 ⟨⟨t, rfl, ht⟩, hq, hO3⟩; have hc3 := hO3.cell))
  all_goals go_wp2_with fail
  all_goals go_ret2
  all_goals refine ⟨⟨sv, t, rfl, ht, hsv.1, hsv.2⟩, ?_⟩
  all_goals (repeat (first | exact bel | refine Below.drew ?_ | refine below_alloc0 ?_ _ | refine Below.trans ?_ hO3.below | refine Below.trans ?_ hO2.below))

theorem five_get (A B C D E : Int) (v : Nat) (hv : (v : Int) < 5) (lo hi : Int) (ha : lo ≤ A ∧ A ≤ hi) (hb : lo ≤ B ∧ B ≤ hi) (hc : lo ≤ C ∧ C ≤ hi) (hd : lo ≤ D ∧ D ≤ hi) (he : lo ≤ E ∧ E ≤ hi) :
    ∃ s : Int, (lo ≤ s ∧ s ≤ hi) ∧ (#[Value.int .i64 A, Value.int .i64 B, Value.int .i64 C, Value.int .i64 D, Value.int .i64 E])[v]? = some (Value.int .i64 s) := by
  have h : v = 0 ∨ v = 1 ∨ v = 2 ∨ v = 3 ∨ v = 4 := by omega
  rcases h with rfl | rfl | rfl | rfl | rfl
  · exact ⟨A, ha, rfl⟩
  · exact ⟨B, hb, rfl⟩
  · exact ⟨C, hc, rfl⟩
  · exact ⟨D, hd, rfl⟩
  · exact ⟨E, he, rfl⟩

set_option maxHeartbeats 1000000 in
theorem drawCrcMore_any (a : Option Addr) (len cap : Nat) (w : World) (h : Code8 w a len cap) :
    Calls Try.prog 23 #[.slice a len cap] w fun e w' => (∃ (s : Int) (t : ByteArray), e = .returned (.tuple #[.int .i64 s, .string t]) ∧ t.size ≤ 9001 ∧ -1 ≤ s ∧ s ≤ 4294967296) ∧ Below w.heap.size w w' := by
  go_enter Try.func23, Try.ntmps23
  go_wp2_with fail
  refine (open_any a len cap w h).mono ?_
  rintro e w1 ⟨rfl, hR, bel⟩
  have hlt := hR.lt
  have hne : ¬ w1.heap.size = w.heap.size := by omega
  have hAb : 0 ≤ Cr.ans 0 [97, 104, 101, 97, 100] ∧ Cr.ans 0 [97, 104, 101, 97, 100] ≤ 4294967295 := Cr.ans_bounds _ _
  have hsp : ∀ w, Calls Try.prog 27 #[.int .i64 0, .string ⟨#[97, 104, 101, 97, 100]⟩] w fun e w' => e = .returned (.int .i64 (Cr.ans 0 [97, 104, 101, 97, 100])) ∧ w' = w :=
    fun w => spec_crc 0 ⟨#[97, 104, 101, 97, 100]⟩ w (by decide)
  have HSP : Hid (∀ w, Calls Try.prog 27 #[.int .i64 0, .string ⟨#[97, 104, 101, 97, 100]⟩] w fun e w' => e = .returned (.int .i64 (Cr.ans 0 [97, 104, 101, 97, 100])) ∧ w' = w) := hsp
  clear hsp
  generalize Cr.ans 0 [97, 104, 101, 97, 100] = A at *
  go_wp2_with fail
  go_region_with (first | (go_at_call 27; refine (HSP.out _).mono ?_; rintro e w2 ⟨rfl, rfl⟩) | (go_at_call 35; refine (pick_named w.heap.size 0 5 _ ?_ (by omega) (by omega) (by omega)).mono ?_; (repeat (first | exact hR | refine RdAt.drew ?_ | refine RdAt.alloc ?_ _)); rintro e w2 ⟨v, rfl, hv, hR2, hO2, hs2⟩; obtain ⟨sv, hsv, hget⟩ := five_get A 0 4294967295 (-1) 4294967296 v hv (-1) 4294967296 (by omega) (by omega) (by omega) (by omega) (by omega); have hc2 := hO2.cell) | (go_at_call 42; refine (text_any w.heap.size 1 _ ?_ (by omega)).mono ?_; (repeat (first | exact hR2 | refine RdAt.drew ?_ | refine RdAt.alloc ?_ _)); rintro e w3 ⟨⟨t, rfl, ht⟩, hq, hO3⟩; have hc3 := hO3.cell))
  all_goals go_wp2_with fail
  all_goals go_ret2
  all_goals refine ⟨⟨sv, t, rfl, ht, hsv.1, hsv.2⟩, ?_⟩
  all_goals (repeat (first | exact bel | refine Below.drew ?_ | refine below_alloc0 ?_ _ | refine Below.trans ?_ hO3.below | refine Below.trans ?_ hO2.below))
end Go.Proofs.Ytoocijfkckjbfaa
