/- Filters of the program: bytes that may not be there, and what is guessed at a place. -/
import Derived.Test.YtjikjjganloobabFlImpl
import Derived.Test.YtjikjjganloobabOwnBytes
import Derived.Test.YtjikjjganloobabBoxWalks
import Derived.Deep.RegionHeld3
namespace Go.Proofs.Ytjikjjganloobab
open Go.RowKit

set_option maxHeartbeats 400000 in
theorem byteAtB_any (b n cap : Nat) (f : Nat → Nat) (z : Int) (w : World) (h : OwnU w b n f) (h0 : ∀ j, n ≤ j → f j = 0) (hf : ∀ j, f j < 256) (_hn : n ≤ 2000) (hz : -2000 ≤ z ∧ z ≤ 2000) :
    Calls Try.prog 66 #[.slice (some ⟨b, 0, none⟩) n cap, .int .i64 z] w fun e w' => e = .returned (.int .i64 (Fl.by_ f z : Nat)) ∧ w' = w := by
  by_cases hneg : z < 0
  · have HE : Hid (Fl.by_ f z = 0) := Fl.by_neg _ _ hneg
    have d1 : decide (z < 0) = true := by simpa using hneg
    clear h h0 hf
    go_enter Try.func66, Try.ntmps66
    go_wp2_with fail
    go_ret
    exact ⟨by rw [HE.out]; rfl, rfl⟩
  · have d1 : decide (z < 0) = false := by simpa using hneg
    obtain ⟨k, rfl⟩ := Int.eq_ofNat_of_zero_le (show 0 ≤ z by omega)
    have HE : Hid (Fl.by_ f (k : Int) = f k) := Fl.by_nat _ _
    by_cases hk : k < n
    · have hc := (h.2 k hk).1
      have hb := hf k
      have d2 : decide ((n : Int) ≤ (k : Int)) = false := by simp; omega
      have hki : (k : Int) < (n : Int) := by omega
      generalize f k = x at hc hb HE
      clear h h0 hf hneg
      go_enter Try.func66, Try.ntmps66
      go_wp2_with fail
      go_ret
      exact ⟨by rw [HE.out]; first | rfl | go_num, rfl⟩
    · have H0 : Hid (f k = 0) := h0 k (by omega)
      have d2 : decide ((n : Int) ≤ (k : Int)) = true := by simp; omega
      clear h h0 hf hneg
      go_enter Try.func66, Try.ntmps66
      go_wp2_with fail
      go_ret
      exact ⟨by rw [HE.out, H0.out]; rfl, rfl⟩

theorem byteAt_past (s : ByteArray) (k : Nat) (h : s.size ≤ k) : byteAt s k = 0 := by
  unfold byteAt
  rw [List.getD_eq_getElem?_getD, List.getElem?_eq_none (by simp; omega)]; rfl

set_option maxHeartbeats 400000 in
theorem byteAtS_any (s : ByteArray) (z : Int) (w : World) (_hs : s.size ≤ 2000) (hz : -2000 ≤ z ∧ z ≤ 2000) :
    Calls Try.prog 67 #[.string s, .int .i64 z] w fun e w' => e = .returned (.int .i64 (Fl.by_ (byteAt s) z : Nat)) ∧ w' = w := by
  by_cases hneg : z < 0
  · have HE : Hid (Fl.by_ (byteAt s) z = 0) := Fl.by_neg _ _ hneg
    have d1 : decide (z < 0) = true := by simpa using hneg
    go_enter Try.func67, Try.ntmps67
    go_wp2_with fail
    go_ret
    exact ⟨by rw [HE.out]; rfl, rfl⟩
  · have d1 : decide (z < 0) = false := by simpa using hneg
    obtain ⟨k, rfl⟩ := Int.eq_ofNat_of_zero_le (show 0 ≤ z by omega)
    have HE : Hid (Fl.by_ (byteAt s) (k : Int) = byteAt s k) := Fl.by_nat _ _
    by_cases hk : k < s.size
    · have hbe := byteAt_eq s k hk
      have hbl := byteAt_lt s k
      have d2 : decide ((s.size : Int) ≤ (k : Int)) = false := by simp; omega
      have hki : (k : Int) < (s.size : Int) := by omega
      generalize byteAt s k = x at hbe hbl HE
      clear hneg
      go_enter Try.func67, Try.ntmps67
      go_wp2_with fail
      go_ret
      exact ⟨by rw [HE.out]; first | rfl | go_num, rfl⟩
    · have H0 : Hid (byteAt s k = 0) := byteAt_past s k (by omega)
      have d2 : decide ((s.size : Int) ≤ (k : Int)) = true := by simp; omega
      clear hneg
      go_enter Try.func67, Try.ntmps67
      go_wp2_with fail
      go_ret
      exact ⟨by rw [HE.out, H0.out]; rfl, rfl⟩

set_option maxHeartbeats 2000000 in
set_option maxRecDepth 20000 in
theorem guessAt_plain (st b n cap k : Nat) (t : ByteArray) (f : Nat → Nat) (w : World)
    (h : OwnU w b n f) (h0 : ∀ j, n ≤ j → f j = 0) (hf : ∀ j, f j < 256) (hn : n ≤ 2000) (ht : t.size ≤ 2000) (hk : k ≤ 1000) (hst : st ≤ 4) :
    Calls Try.prog 33 #[.agg #[.iface 108 (.agg #[]), .string t, .int .i64 st], .slice (some ⟨b, 0, none⟩) n cap, .int .i64 k] w fun e w' => e = .returned (.int .u8 (Fl.gs 0 st f (byteAt t) k : Nat)) ∧ Below w.heap.size w w' := by
  have m1 : ∀ w, (method 234 108 (.agg #[]) "loop.example/intarsia/impl.guess").run Try.prog w = .ok (111, .agg #[]) w := fun w => by kernel_rfl
  have m2 : ∀ w, (nilAhead 234 108 (.agg #[]) "loop.example/intarsia/impl.guess").run Try.prog w = .ok (some false) w := fun w => by kernel_rfl
  have hB0 : Below w.heap.size w (w.alloc (.cells #[.iface 108 (.agg #[]), .string t, .int .i64 st] 52)) := (Below.refl _ _).alloc (Nat.le_refl _) _
  have hU : OwnU (w.alloc (.cells #[.iface 108 (.agg #[]), .string t, .int .i64 st] 52)) b n f := h.kept hB0 h.1
  obtain ⟨z, hz⟩ : ∃ z : Int, z = (k : Int) - (st : Int) := ⟨_, rfl⟩
  obtain ⟨a, ha⟩ : ∃ a, a = Fl.by_ f z := ⟨_, rfl⟩
  obtain ⟨bb, hb⟩ : ∃ bb, bb = byteAt t k := ⟨_, rfl⟩
  obtain ⟨c, hc⟩ : ∃ c, c = Fl.by_ (byteAt t) z := ⟨_, rfl⟩
  obtain ⟨g, hgg⟩ : ∃ g, g = Fl.beside 0 a bb c := ⟨_, rfl⟩
  have HG : Hid (Fl.gs 0 st f (byteAt t) k = g) := by show _ = _; rw [hgg, ha, hb, hc, hz]; rfl
  have hab : a < 256 := by rw [ha]; exact Fl.by_lt hf _
  have hbb : bb < 256 := by rw [hb]; exact byteAt_lt _ _
  have hcb : c < 256 := by rw [hc]; exact Fl.by_lt (byteAt_lt t) _
  have hgb : g < 256 := by rw [hgg]; exact Fl.beside_lt hab hbb hcb
  have HC1 : Hid (∀ w' : World, OwnU w' b n f → Calls Try.prog 66 #[.slice (some ⟨b, 0, none⟩) n cap, .int .i64 z] w' fun e w'' => e = .returned (.int .i64 (a : Int)) ∧ w'' = w') := fun w' hw => by rw [ha]; exact byteAtB_any b n cap f z w' hw h0 hf hn (by omega)
  have HC2 : Hid (∀ w' : World, Calls Try.prog 67 #[.string t, .int .i64 (k : Int)] w' fun e w'' => e = .returned (.int .i64 (bb : Int)) ∧ w'' = w') := fun w' => by
    have := byteAtS_any t (k : Int) w' ht (by omega)
    rw [Fl.by_nat, ← hb] at this; exact this
  have HC3 : Hid (∀ w' : World, Calls Try.prog 67 #[.string t, .int .i64 z] w' fun e w'' => e = .returned (.int .i64 (c : Int)) ∧ w'' = w') := fun w' => by rw [hc]; exact byteAtS_any t z w' ht (by omega)
  have HC4 : Hid (∀ w' : World, Calls Try.prog 111 #[.agg #[], .int .i64 (a : Int), .int .i64 (bb : Int), .int .i64 (c : Int)] w' fun e w'' => e = .returned (.int .i64 (g : Int)) ∧ Below w'.heap.size w' w'') := fun w' => by rw [hgg]; exact guess_plain a bb c w'
  have hzw : IntKind.i64.wrap ((k : Int) - (st : Int)) = z := by rw [← hz]; simp [IntKind.wrap, IntKind.bits, IntKind.signed]; omega
  have hgw : IntKind.u8.wrap (g : Int) = (g : Int) := by simp [IntKind.wrap, IntKind.bits, IntKind.signed]; omega
  have HU : Hid (OwnU (w.alloc (.cells #[.iface 108 (.agg #[]), .string t, .int .i64 st] 52)).drew b n f) := hU
  clear hz ha hb hc hgg h hU hf h0
  go_enter Try.func33, Try.ntmps33
  go_wp2_with fail
  go_region_held3 (fun w' => w'.cell? ⟨w.heap.size, 0, none⟩ = some (.iface 108 (.agg #[])) ∧ w'.cell? ⟨w.heap.size, 1, none⟩ = some (.string t) ∧ w'.cell? ⟨w.heap.size, 2, none⟩ = some (.int .i64 st)) (go_keep) (first | (go_at_call 66; refine (HC1.out _ HU.out).mono ?_; rintro e w2 ⟨rfl, rfl⟩) | (go_at_call_of 67 (Value.int .i64 (k : Int)); refine (HC2.out _).mono ?_; rintro e w2 ⟨rfl, rfl⟩) | (go_at_call 67; refine (HC3.out _).mono ?_; rintro e w2 ⟨rfl, rfl⟩) | (go_at_call 111; refine (HC4.out _).mono ?_; rintro e w3 ⟨rfl, b3⟩; have c0 := ((box_drew b3).cell (p := ⟨w.heap.size, 0, none⟩) (by simp)).trans (World.cell?_alloc_at _ _ _ _ rfl); have c1 := ((box_drew b3).cell (p := ⟨w.heap.size, 1, none⟩) (by simp)).trans (World.cell?_alloc_at _ _ _ _ rfl); have c2 := ((box_drew b3).cell (p := ⟨w.heap.size, 2, none⟩) (by simp)).trans (World.cell?_alloc_at _ _ _ _ rfl)))
  all_goals
    have bel3 : Below w.heap.size w w3 := hB0.trans ((box_drew b3).mono (by simp))
    clear b3
    go_wp2_with fail
    go_ret
    exact ⟨by rw [HG.out]; rfl, bel3⟩
set_option maxHeartbeats 2000000 in
set_option maxRecDepth 20000 in
theorem guessAt_ahead (st b n cap k : Nat) (t : ByteArray) (f : Nat → Nat) (w : World)
    (h : OwnU w b n f) (h0 : ∀ j, n ≤ j → f j = 0) (hf : ∀ j, f j < 256) (hn : n ≤ 2000) (ht : t.size ≤ 2000) (hk : k ≤ 1000) (hst : st ≤ 4) :
    Calls Try.prog 33 #[.agg #[.iface 109 (.agg #[]), .string t, .int .i64 st], .slice (some ⟨b, 0, none⟩) n cap, .int .i64 k] w fun e w' => e = .returned (.int .u8 (Fl.gs 1 st f (byteAt t) k : Nat)) ∧ Below w.heap.size w w' := by
  have m1 : ∀ w, (method 234 109 (.agg #[]) "loop.example/intarsia/impl.guess").run Try.prog w = .ok (112, .agg #[]) w := fun w => by kernel_rfl
  have m2 : ∀ w, (nilAhead 234 109 (.agg #[]) "loop.example/intarsia/impl.guess").run Try.prog w = .ok (some false) w := fun w => by kernel_rfl
  have hB0 : Below w.heap.size w (w.alloc (.cells #[.iface 109 (.agg #[]), .string t, .int .i64 st] 52)) := (Below.refl _ _).alloc (Nat.le_refl _) _
  have hU : OwnU (w.alloc (.cells #[.iface 109 (.agg #[]), .string t, .int .i64 st] 52)) b n f := h.kept hB0 h.1
  obtain ⟨z, hz⟩ : ∃ z : Int, z = (k : Int) - (st : Int) := ⟨_, rfl⟩
  obtain ⟨a, ha⟩ : ∃ a, a = Fl.by_ f z := ⟨_, rfl⟩
  obtain ⟨bb, hb⟩ : ∃ bb, bb = byteAt t k := ⟨_, rfl⟩
  obtain ⟨c, hc⟩ : ∃ c, c = Fl.by_ (byteAt t) z := ⟨_, rfl⟩
  obtain ⟨g, hgg⟩ : ∃ g, g = Fl.beside 1 a bb c := ⟨_, rfl⟩
  have HG : Hid (Fl.gs 1 st f (byteAt t) k = g) := by show _ = _; rw [hgg, ha, hb, hc, hz]; rfl
  have hab : a < 256 := by rw [ha]; exact Fl.by_lt hf _
  have hbb : bb < 256 := by rw [hb]; exact byteAt_lt _ _
  have hcb : c < 256 := by rw [hc]; exact Fl.by_lt (byteAt_lt t) _
  have hgb : g < 256 := by rw [hgg]; exact Fl.beside_lt hab hbb hcb
  have HC1 : Hid (∀ w' : World, OwnU w' b n f → Calls Try.prog 66 #[.slice (some ⟨b, 0, none⟩) n cap, .int .i64 z] w' fun e w'' => e = .returned (.int .i64 (a : Int)) ∧ w'' = w') := fun w' hw => by rw [ha]; exact byteAtB_any b n cap f z w' hw h0 hf hn (by omega)
  have HC2 : Hid (∀ w' : World, Calls Try.prog 67 #[.string t, .int .i64 (k : Int)] w' fun e w'' => e = .returned (.int .i64 (bb : Int)) ∧ w'' = w') := fun w' => by
    have := byteAtS_any t (k : Int) w' ht (by omega)
    rw [Fl.by_nat, ← hb] at this; exact this
  have HC3 : Hid (∀ w' : World, Calls Try.prog 67 #[.string t, .int .i64 z] w' fun e w'' => e = .returned (.int .i64 (c : Int)) ∧ w'' = w') := fun w' => by rw [hc]; exact byteAtS_any t z w' ht (by omega)
  have HC4 : Hid (∀ w' : World, Calls Try.prog 112 #[.agg #[], .int .i64 (a : Int), .int .i64 (bb : Int), .int .i64 (c : Int)] w' fun e w'' => e = .returned (.int .i64 (g : Int)) ∧ Below w'.heap.size w' w'') := fun w' => by rw [hgg]; exact guess_ahead a bb c w'
  have hzw : IntKind.i64.wrap ((k : Int) - (st : Int)) = z := by rw [← hz]; simp [IntKind.wrap, IntKind.bits, IntKind.signed]; omega
  have hgw : IntKind.u8.wrap (g : Int) = (g : Int) := by simp [IntKind.wrap, IntKind.bits, IntKind.signed]; omega
  have HU : Hid (OwnU (w.alloc (.cells #[.iface 109 (.agg #[]), .string t, .int .i64 st] 52)).drew b n f) := hU
  clear hz ha hb hc hgg h hU hf h0
  go_enter Try.func33, Try.ntmps33
  go_wp2_with fail
  go_region_held3 (fun w' => w'.cell? ⟨w.heap.size, 0, none⟩ = some (.iface 109 (.agg #[])) ∧ w'.cell? ⟨w.heap.size, 1, none⟩ = some (.string t) ∧ w'.cell? ⟨w.heap.size, 2, none⟩ = some (.int .i64 st)) (go_keep) (first | (go_at_call 66; refine (HC1.out _ HU.out).mono ?_; rintro e w2 ⟨rfl, rfl⟩) | (go_at_call_of 67 (Value.int .i64 (k : Int)); refine (HC2.out _).mono ?_; rintro e w2 ⟨rfl, rfl⟩) | (go_at_call 67; refine (HC3.out _).mono ?_; rintro e w2 ⟨rfl, rfl⟩) | (go_at_call 112; refine (HC4.out _).mono ?_; rintro e w3 ⟨rfl, b3⟩; have c0 := ((box_drew b3).cell (p := ⟨w.heap.size, 0, none⟩) (by simp)).trans (World.cell?_alloc_at _ _ _ _ rfl); have c1 := ((box_drew b3).cell (p := ⟨w.heap.size, 1, none⟩) (by simp)).trans (World.cell?_alloc_at _ _ _ _ rfl); have c2 := ((box_drew b3).cell (p := ⟨w.heap.size, 2, none⟩) (by simp)).trans (World.cell?_alloc_at _ _ _ _ rfl)))
  all_goals
    have bel3 : Below w.heap.size w w3 := hB0.trans ((box_drew b3).mono (by simp))
    clear b3
    go_wp2_with fail
    go_ret
    exact ⟨by rw [HG.out]; rfl, bel3⟩
set_option maxHeartbeats 2000000 in
set_option maxRecDepth 20000 in
theorem guessAt_above (st b n cap k : Nat) (t : ByteArray) (f : Nat → Nat) (w : World)
    (h : OwnU w b n f) (h0 : ∀ j, n ≤ j → f j = 0) (hf : ∀ j, f j < 256) (hn : n ≤ 2000) (ht : t.size ≤ 2000) (hk : k ≤ 1000) (hst : st ≤ 4) :
    Calls Try.prog 33 #[.agg #[.iface 110 (.agg #[]), .string t, .int .i64 st], .slice (some ⟨b, 0, none⟩) n cap, .int .i64 k] w fun e w' => e = .returned (.int .u8 (Fl.gs 2 st f (byteAt t) k : Nat)) ∧ Below w.heap.size w w' := by
  have m1 : ∀ w, (method 234 110 (.agg #[]) "loop.example/intarsia/impl.guess").run Try.prog w = .ok (113, .agg #[]) w := fun w => by kernel_rfl
  have m2 : ∀ w, (nilAhead 234 110 (.agg #[]) "loop.example/intarsia/impl.guess").run Try.prog w = .ok (some false) w := fun w => by kernel_rfl
  have hB0 : Below w.heap.size w (w.alloc (.cells #[.iface 110 (.agg #[]), .string t, .int .i64 st] 52)) := (Below.refl _ _).alloc (Nat.le_refl _) _
  have hU : OwnU (w.alloc (.cells #[.iface 110 (.agg #[]), .string t, .int .i64 st] 52)) b n f := h.kept hB0 h.1
  obtain ⟨z, hz⟩ : ∃ z : Int, z = (k : Int) - (st : Int) := ⟨_, rfl⟩
  obtain ⟨a, ha⟩ : ∃ a, a = Fl.by_ f z := ⟨_, rfl⟩
  obtain ⟨bb, hb⟩ : ∃ bb, bb = byteAt t k := ⟨_, rfl⟩
  obtain ⟨c, hc⟩ : ∃ c, c = Fl.by_ (byteAt t) z := ⟨_, rfl⟩
  obtain ⟨g, hgg⟩ : ∃ g, g = Fl.beside 2 a bb c := ⟨_, rfl⟩
  have HG : Hid (Fl.gs 2 st f (byteAt t) k = g) := by show _ = _; rw [hgg, ha, hb, hc, hz]; rfl
  have hab : a < 256 := by rw [ha]; exact Fl.by_lt hf _
  have hbb : bb < 256 := by rw [hb]; exact byteAt_lt _ _
  have hcb : c < 256 := by rw [hc]; exact Fl.by_lt (byteAt_lt t) _
  have hgb : g < 256 := by rw [hgg]; exact Fl.beside_lt hab hbb hcb
  have HC1 : Hid (∀ w' : World, OwnU w' b n f → Calls Try.prog 66 #[.slice (some ⟨b, 0, none⟩) n cap, .int .i64 z] w' fun e w'' => e = .returned (.int .i64 (a : Int)) ∧ w'' = w') := fun w' hw => by rw [ha]; exact byteAtB_any b n cap f z w' hw h0 hf hn (by omega)
  have HC2 : Hid (∀ w' : World, Calls Try.prog 67 #[.string t, .int .i64 (k : Int)] w' fun e w'' => e = .returned (.int .i64 (bb : Int)) ∧ w'' = w') := fun w' => by
    have := byteAtS_any t (k : Int) w' ht (by omega)
    rw [Fl.by_nat, ← hb] at this; exact this
  have HC3 : Hid (∀ w' : World, Calls Try.prog 67 #[.string t, .int .i64 z] w' fun e w'' => e = .returned (.int .i64 (c : Int)) ∧ w'' = w') := fun w' => by rw [hc]; exact byteAtS_any t z w' ht (by omega)
  have HC4 : Hid (∀ w' : World, Calls Try.prog 113 #[.agg #[], .int .i64 (a : Int), .int .i64 (bb : Int), .int .i64 (c : Int)] w' fun e w'' => e = .returned (.int .i64 (g : Int)) ∧ Below w'.heap.size w' w'') := fun w' => by rw [hgg]; exact guess_above a bb c w'
  have hzw : IntKind.i64.wrap ((k : Int) - (st : Int)) = z := by rw [← hz]; simp [IntKind.wrap, IntKind.bits, IntKind.signed]; omega
  have hgw : IntKind.u8.wrap (g : Int) = (g : Int) := by simp [IntKind.wrap, IntKind.bits, IntKind.signed]; omega
  have HU : Hid (OwnU (w.alloc (.cells #[.iface 110 (.agg #[]), .string t, .int .i64 st] 52)).drew b n f) := hU
  clear hz ha hb hc hgg h hU hf h0
  go_enter Try.func33, Try.ntmps33
  go_wp2_with fail
  go_region_held3 (fun w' => w'.cell? ⟨w.heap.size, 0, none⟩ = some (.iface 110 (.agg #[])) ∧ w'.cell? ⟨w.heap.size, 1, none⟩ = some (.string t) ∧ w'.cell? ⟨w.heap.size, 2, none⟩ = some (.int .i64 st)) (go_keep) (first | (go_at_call 66; refine (HC1.out _ HU.out).mono ?_; rintro e w2 ⟨rfl, rfl⟩) | (go_at_call_of 67 (Value.int .i64 (k : Int)); refine (HC2.out _).mono ?_; rintro e w2 ⟨rfl, rfl⟩) | (go_at_call 67; refine (HC3.out _).mono ?_; rintro e w2 ⟨rfl, rfl⟩) | (go_at_call 113; refine (HC4.out _).mono ?_; rintro e w3 ⟨rfl, b3⟩; have c0 := ((box_drew b3).cell (p := ⟨w.heap.size, 0, none⟩) (by simp)).trans (World.cell?_alloc_at _ _ _ _ rfl); have c1 := ((box_drew b3).cell (p := ⟨w.heap.size, 1, none⟩) (by simp)).trans (World.cell?_alloc_at _ _ _ _ rfl); have c2 := ((box_drew b3).cell (p := ⟨w.heap.size, 2, none⟩) (by simp)).trans (World.cell?_alloc_at _ _ _ _ rfl)))
  all_goals
    have bel3 : Below w.heap.size w w3 := hB0.trans ((box_drew b3).mono (by simp))
    clear b3
    go_wp2_with fail
    go_ret
    exact ⟨by rw [HG.out]; rfl, bel3⟩
set_option maxHeartbeats 2000000 in
set_option maxRecDepth 20000 in
theorem guessAt_mean (st b n cap k : Nat) (t : ByteArray) (f : Nat → Nat) (w : World)
    (h : OwnU w b n f) (h0 : ∀ j, n ≤ j → f j = 0) (hf : ∀ j, f j < 256) (hn : n ≤ 2000) (ht : t.size ≤ 2000) (hk : k ≤ 1000) (hst : st ≤ 4) :
    Calls Try.prog 33 #[.agg #[.iface 111 (.agg #[]), .string t, .int .i64 st], .slice (some ⟨b, 0, none⟩) n cap, .int .i64 k] w fun e w' => e = .returned (.int .u8 (Fl.gs 3 st f (byteAt t) k : Nat)) ∧ Below w.heap.size w w' := by
  have m1 : ∀ w, (method 234 111 (.agg #[]) "loop.example/intarsia/impl.guess").run Try.prog w = .ok (114, .agg #[]) w := fun w => by kernel_rfl
  have m2 : ∀ w, (nilAhead 234 111 (.agg #[]) "loop.example/intarsia/impl.guess").run Try.prog w = .ok (some false) w := fun w => by kernel_rfl
  have hB0 : Below w.heap.size w (w.alloc (.cells #[.iface 111 (.agg #[]), .string t, .int .i64 st] 52)) := (Below.refl _ _).alloc (Nat.le_refl _) _
  have hU : OwnU (w.alloc (.cells #[.iface 111 (.agg #[]), .string t, .int .i64 st] 52)) b n f := h.kept hB0 h.1
  obtain ⟨z, hz⟩ : ∃ z : Int, z = (k : Int) - (st : Int) := ⟨_, rfl⟩
  obtain ⟨a, ha⟩ : ∃ a, a = Fl.by_ f z := ⟨_, rfl⟩
  obtain ⟨bb, hb⟩ : ∃ bb, bb = byteAt t k := ⟨_, rfl⟩
  obtain ⟨c, hc⟩ : ∃ c, c = Fl.by_ (byteAt t) z := ⟨_, rfl⟩
  obtain ⟨g, hgg⟩ : ∃ g, g = Fl.beside 3 a bb c := ⟨_, rfl⟩
  have HG : Hid (Fl.gs 3 st f (byteAt t) k = g) := by show _ = _; rw [hgg, ha, hb, hc, hz]; rfl
  have hab : a < 256 := by rw [ha]; exact Fl.by_lt hf _
  have hbb : bb < 256 := by rw [hb]; exact byteAt_lt _ _
  have hcb : c < 256 := by rw [hc]; exact Fl.by_lt (byteAt_lt t) _
  have hgb : g < 256 := by rw [hgg]; exact Fl.beside_lt hab hbb hcb
  have HC1 : Hid (∀ w' : World, OwnU w' b n f → Calls Try.prog 66 #[.slice (some ⟨b, 0, none⟩) n cap, .int .i64 z] w' fun e w'' => e = .returned (.int .i64 (a : Int)) ∧ w'' = w') := fun w' hw => by rw [ha]; exact byteAtB_any b n cap f z w' hw h0 hf hn (by omega)
  have HC2 : Hid (∀ w' : World, Calls Try.prog 67 #[.string t, .int .i64 (k : Int)] w' fun e w'' => e = .returned (.int .i64 (bb : Int)) ∧ w'' = w') := fun w' => by
    have := byteAtS_any t (k : Int) w' ht (by omega)
    rw [Fl.by_nat, ← hb] at this; exact this
  have HC3 : Hid (∀ w' : World, Calls Try.prog 67 #[.string t, .int .i64 z] w' fun e w'' => e = .returned (.int .i64 (c : Int)) ∧ w'' = w') := fun w' => by rw [hc]; exact byteAtS_any t z w' ht (by omega)
  have HC4 : Hid (∀ w' : World, Calls Try.prog 114 #[.agg #[], .int .i64 (a : Int), .int .i64 (bb : Int), .int .i64 (c : Int)] w' fun e w'' => e = .returned (.int .i64 (g : Int)) ∧ Below w'.heap.size w' w'') := fun w' => by rw [hgg]; exact guess_mean a bb c w' hab hbb
  have hzw : IntKind.i64.wrap ((k : Int) - (st : Int)) = z := by rw [← hz]; simp [IntKind.wrap, IntKind.bits, IntKind.signed]; omega
  have hgw : IntKind.u8.wrap (g : Int) = (g : Int) := by simp [IntKind.wrap, IntKind.bits, IntKind.signed]; omega
  have HU : Hid (OwnU (w.alloc (.cells #[.iface 111 (.agg #[]), .string t, .int .i64 st] 52)).drew b n f) := hU
  clear hz ha hb hc hgg h hU hf h0
  go_enter Try.func33, Try.ntmps33
  go_wp2_with fail
  go_region_held3 (fun w' => w'.cell? ⟨w.heap.size, 0, none⟩ = some (.iface 111 (.agg #[])) ∧ w'.cell? ⟨w.heap.size, 1, none⟩ = some (.string t) ∧ w'.cell? ⟨w.heap.size, 2, none⟩ = some (.int .i64 st)) (go_keep) (first | (go_at_call 66; refine (HC1.out _ HU.out).mono ?_; rintro e w2 ⟨rfl, rfl⟩) | (go_at_call_of 67 (Value.int .i64 (k : Int)); refine (HC2.out _).mono ?_; rintro e w2 ⟨rfl, rfl⟩) | (go_at_call 67; refine (HC3.out _).mono ?_; rintro e w2 ⟨rfl, rfl⟩) | (go_at_call 114; refine (HC4.out _).mono ?_; rintro e w3 ⟨rfl, b3⟩; have c0 := ((box_drew b3).cell (p := ⟨w.heap.size, 0, none⟩) (by simp)).trans (World.cell?_alloc_at _ _ _ _ rfl); have c1 := ((box_drew b3).cell (p := ⟨w.heap.size, 1, none⟩) (by simp)).trans (World.cell?_alloc_at _ _ _ _ rfl); have c2 := ((box_drew b3).cell (p := ⟨w.heap.size, 2, none⟩) (by simp)).trans (World.cell?_alloc_at _ _ _ _ rfl)))
  all_goals
    have bel3 : Below w.heap.size w w3 := hB0.trans ((box_drew b3).mono (by simp))
    clear b3
    go_wp2_with fail
    go_ret
    exact ⟨by rw [HG.out]; rfl, bel3⟩
set_option maxHeartbeats 2000000 in
set_option maxRecDepth 20000 in
theorem guessAt_slope (st b n cap k : Nat) (t : ByteArray) (f : Nat → Nat) (w : World)
    (h : OwnU w b n f) (h0 : ∀ j, n ≤ j → f j = 0) (hf : ∀ j, f j < 256) (hn : n ≤ 2000) (ht : t.size ≤ 2000) (hk : k ≤ 1000) (hst : st ≤ 4) :
    Calls Try.prog 33 #[.agg #[.iface 112 (.agg #[]), .string t, .int .i64 st], .slice (some ⟨b, 0, none⟩) n cap, .int .i64 k] w fun e w' => e = .returned (.int .u8 (Fl.gs 4 st f (byteAt t) k : Nat)) ∧ Below w.heap.size w w' := by
  have m1 : ∀ w, (method 234 112 (.agg #[]) "loop.example/intarsia/impl.guess").run Try.prog w = .ok (115, .agg #[]) w := fun w => by kernel_rfl
  have m2 : ∀ w, (nilAhead 234 112 (.agg #[]) "loop.example/intarsia/impl.guess").run Try.prog w = .ok (some false) w := fun w => by kernel_rfl
  have hB0 : Below w.heap.size w (w.alloc (.cells #[.iface 112 (.agg #[]), .string t, .int .i64 st] 52)) := (Below.refl _ _).alloc (Nat.le_refl _) _
  have hU : OwnU (w.alloc (.cells #[.iface 112 (.agg #[]), .string t, .int .i64 st] 52)) b n f := h.kept hB0 h.1
  obtain ⟨z, hz⟩ : ∃ z : Int, z = (k : Int) - (st : Int) := ⟨_, rfl⟩
  obtain ⟨a, ha⟩ : ∃ a, a = Fl.by_ f z := ⟨_, rfl⟩
  obtain ⟨bb, hb⟩ : ∃ bb, bb = byteAt t k := ⟨_, rfl⟩
  obtain ⟨c, hc⟩ : ∃ c, c = Fl.by_ (byteAt t) z := ⟨_, rfl⟩
  obtain ⟨g, hgg⟩ : ∃ g, g = Fl.beside 4 a bb c := ⟨_, rfl⟩
  have HG : Hid (Fl.gs 4 st f (byteAt t) k = g) := by show _ = _; rw [hgg, ha, hb, hc, hz]; rfl
  have hab : a < 256 := by rw [ha]; exact Fl.by_lt hf _
  have hbb : bb < 256 := by rw [hb]; exact byteAt_lt _ _
  have hcb : c < 256 := by rw [hc]; exact Fl.by_lt (byteAt_lt t) _
  have hgb : g < 256 := by rw [hgg]; exact Fl.beside_lt hab hbb hcb
  have HC1 : Hid (∀ w' : World, OwnU w' b n f → Calls Try.prog 66 #[.slice (some ⟨b, 0, none⟩) n cap, .int .i64 z] w' fun e w'' => e = .returned (.int .i64 (a : Int)) ∧ w'' = w') := fun w' hw => by rw [ha]; exact byteAtB_any b n cap f z w' hw h0 hf hn (by omega)
  have HC2 : Hid (∀ w' : World, Calls Try.prog 67 #[.string t, .int .i64 (k : Int)] w' fun e w'' => e = .returned (.int .i64 (bb : Int)) ∧ w'' = w') := fun w' => by
    have := byteAtS_any t (k : Int) w' ht (by omega)
    rw [Fl.by_nat, ← hb] at this; exact this
  have HC3 : Hid (∀ w' : World, Calls Try.prog 67 #[.string t, .int .i64 z] w' fun e w'' => e = .returned (.int .i64 (c : Int)) ∧ w'' = w') := fun w' => by rw [hc]; exact byteAtS_any t z w' ht (by omega)
  have HC4 : Hid (∀ w' : World, Calls Try.prog 115 #[.agg #[], .int .i64 (a : Int), .int .i64 (bb : Int), .int .i64 (c : Int)] w' fun e w'' => e = .returned (.int .i64 (g : Int)) ∧ Below w'.heap.size w' w'') := fun w' => by rw [hgg]; exact guess_slope a bb c w' hab hbb hcb
  have hzw : IntKind.i64.wrap ((k : Int) - (st : Int)) = z := by rw [← hz]; simp [IntKind.wrap, IntKind.bits, IntKind.signed]; omega
  have hgw : IntKind.u8.wrap (g : Int) = (g : Int) := by simp [IntKind.wrap, IntKind.bits, IntKind.signed]; omega
  have HU : Hid (OwnU (w.alloc (.cells #[.iface 112 (.agg #[]), .string t, .int .i64 st] 52)).drew b n f) := hU
  clear hz ha hb hc hgg h hU hf h0
  go_enter Try.func33, Try.ntmps33
  go_wp2_with fail
  go_region_held3 (fun w' => w'.cell? ⟨w.heap.size, 0, none⟩ = some (.iface 112 (.agg #[])) ∧ w'.cell? ⟨w.heap.size, 1, none⟩ = some (.string t) ∧ w'.cell? ⟨w.heap.size, 2, none⟩ = some (.int .i64 st)) (go_keep) (first | (go_at_call 66; refine (HC1.out _ HU.out).mono ?_; rintro e w2 ⟨rfl, rfl⟩) | (go_at_call_of 67 (Value.int .i64 (k : Int)); refine (HC2.out _).mono ?_; rintro e w2 ⟨rfl, rfl⟩) | (go_at_call 67; refine (HC3.out _).mono ?_; rintro e w2 ⟨rfl, rfl⟩) | (go_at_call 115; refine (HC4.out _).mono ?_; rintro e w3 ⟨rfl, b3⟩; have c0 := ((box_drew b3).cell (p := ⟨w.heap.size, 0, none⟩) (by simp)).trans (World.cell?_alloc_at _ _ _ _ rfl); have c1 := ((box_drew b3).cell (p := ⟨w.heap.size, 1, none⟩) (by simp)).trans (World.cell?_alloc_at _ _ _ _ rfl); have c2 := ((box_drew b3).cell (p := ⟨w.heap.size, 2, none⟩) (by simp)).trans (World.cell?_alloc_at _ _ _ _ rfl)))
  all_goals
    have bel3 : Below w.heap.size w w3 := hB0.trans ((box_drew b3).mono (by simp))
    clear b3
    go_wp2_with fail
    go_ret
    exact ⟨by rw [HG.out]; rfl, bel3⟩
end Go.Proofs.Ytjikjjganloobab
