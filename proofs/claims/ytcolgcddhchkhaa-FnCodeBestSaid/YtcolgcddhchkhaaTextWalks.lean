/- The drawn text: whatever the code, some text of a bounded size; nothing but the reader turns. -/
import Derived.Test.YtcolgcddhchkhaaRdWalks
import Derived.Test.YtcolgcddhchkhaaStrWalks
import Derived.Test.YtcolgcddhchkhaaOnlyB
namespace Go.Proofs.Ytcolgcddhchkhaa
open Go.RowKit

theorem RdAt.lt {w : World} {B p : Nat} (h : RdAt w B p) : B < w.heap.size := by
  obtain ⟨a, len, cap, h0, _⟩ := h
  exact World.block_lt_of_cell? _ _ h0

theorem RdAt.kept {w w' : World} {B p : Nat} (h : RdAt w B p) (hb : Below (B + 1) w w') : RdAt w' B p := by
  obtain ⟨a, len, cap, h0, h1, hf, hl, hr⟩ := h
  refine ⟨a, len, cap, (hb.cell (p := ⟨B, 0, none⟩) (by show B < B + 1; omega)).trans h0, (hb.cell (p := ⟨B, 1, none⟩) (by show B < B + 1; omega)).trans h1, (hb.frozen (p := ⟨B, 1, none⟩) (by show B < B + 1; omega)).trans hf, hl, ?_⟩
  rcases hr with h | ⟨b, off, rfl, hbB, hc⟩
  · exact .inl h
  · refine .inr ⟨b, off, rfl, hbB, fun i hi => ?_⟩
    obtain ⟨c, hc1, hc2⟩ := hc i hi
    exact ⟨c, hc1, (hb.cell (p := ⟨b, off + i, none⟩) (by show b < B + 1; omega)).trans hc2⟩

theorem RdAt.alloc {w : World} {B p : Nat} (h : RdAt w B p) (o : Obj) : RdAt (w.alloc o) B p :=
  h.kept ((Below.refl _ _).alloc h.lt o)

theorem RdAt.drew {w : World} {B p : Nat} (h : RdAt w B p) : RdAt w.drew B p := h.kept (Below.refl _ _).drew

/-- what a pick leaves -/
theorem step_only (w : World) (B : Nat) (v : Value) (m : Nat) : Only B w ((w.setCell ⟨B, 1, none⟩ v).drewN m) :=
  ⟨below_drewN ((Below.refl B w).setCell (p := ⟨B, 1, none⟩) (Nat.le_refl _) _) _, fun k _ hk => Below.heap_setCell w ⟨B, 1, none⟩ v k hk⟩

set_option maxHeartbeats 400000 in
theorem l1Many_any (s : ByteArray) (n : Nat) (w : World) (hs : s.size ≤ 100) (hn : n ≤ 10000) :
    Calls Try.prog 74 #[.string s, .int .i64 n] w fun e w' => (∃ t : ByteArray, e = .returned (.string t) ∧ t.size = n * s.size) ∧ w' = w := by
  go_enter Try.func74, Try.ntmps74
  go_wp2_with fail
  go_loop [5, 6] (fun o i => ∃ (k z : Nat) (t : ByteArray), k ≤ n ∧ i = .int .i64 k ∧ o = .string t ∧ z = k * s.size ∧ t.size = z) (fun _ i => n - (intOf i).toNat)
  case atStart => exact ⟨0, 0, ⟨#[]⟩, Nat.zero_le _, rfl, rfl, by omega, rfl⟩
  case round =>
    obtain ⟨k, z, t, hk, rfl, rfl, hz, ht⟩ := hrel
    have hz' : z ≤ n * 100 := by rw [hz]; exact Nat.mul_le_mul hk hs
    have HZ : Hid (z = k * s.size) := hz
    have HT : Hid (t.size = z) := ht
    have htb : t.size ≤ 1000000 := by omega
    clear hz ht hz'
    by_cases hlt : k < n
    · go_wp2_with fail
      go_round
      case rel => exact ⟨k + 1, z + s.size, _, by omega, by go_num, rfl, by rw [HZ.out, Nat.succ_mul], by rw [ByteArray.size_append, HT.out]⟩
      case measure => simp [intOf]; omega
    · have hk' : k = n := by omega
      subst hk'
      go_wp2_with fail
      go_ret
      exact ⟨⟨t, rfl, by rw [HT.out, HZ.out]⟩, rfl⟩

set_option maxHeartbeats 400000 in
theorem of_any (B p L : Nat) (s0 s1 s2 s3 : ByteArray) (w : World) (hr : RdAt w B p) (hp : p ≤ 1000000) (hL : B < L)
    (c0 : w.cell? ⟨L, 0, none⟩ = some (.string s0)) (c1 : w.cell? ⟨L, 1, none⟩ = some (.string s1)) (c2 : w.cell? ⟨L, 2, none⟩ = some (.string s2)) (c3 : w.cell? ⟨L, 3, none⟩ = some (.string s3))
    (h0 : s0.size ≤ 10) (h1 : s1.size ≤ 10) (h2 : s2.size ≤ 10) (h3 : s3.size ≤ 10) :
    Calls Try.prog 75 #[.pointer (some ⟨B, 0, none⟩), .slice (some ⟨L, 0, none⟩) 4 4] w fun e w' => (∃ t : ByteArray, e = .returned (.string t) ∧ t.size ≤ 10) ∧ RdAt w' B (p + 1) ∧ Only B w w' := by
  go_enter Try.func75, Try.ntmps75
  go_wp2_with fail
  refine (pick_any B p 4 w hr (by omega) (by omega) (by omega)).mono ?_
  rintro e w1 ⟨v, m, rfl, hv, rfl⟩
  have hR := hr.step m
  have hbel := step_only w B (.int .i64 ((p + 1 : Nat) : Int)) m
  have hne : ∀ i, (⟨B, 1, none⟩ : Addr) ≠ ⟨L, i, none⟩ := fun i e => absurd (congrArg Addr.block e) (by show ¬ B = L; omega)
  have d0 : ((w.setCell ⟨B, 1, none⟩ (.int .i64 ((p + 1 : Nat) : Int))).drewN m).cell? ⟨L, 0, none⟩ = some (.string s0) := (World.cell?_setCell_other _ _ _ _ (hne 0)).trans c0
  have d1 : ((w.setCell ⟨B, 1, none⟩ (.int .i64 ((p + 1 : Nat) : Int))).drewN m).cell? ⟨L, 1, none⟩ = some (.string s1) := (World.cell?_setCell_other _ _ _ _ (hne 1)).trans c1
  have d2 : ((w.setCell ⟨B, 1, none⟩ (.int .i64 ((p + 1 : Nat) : Int))).drewN m).cell? ⟨L, 2, none⟩ = some (.string s2) := (World.cell?_setCell_other _ _ _ _ (hne 2)).trans c2
  have d3 : ((w.setCell ⟨B, 1, none⟩ (.int .i64 ((p + 1 : Nat) : Int))).drewN m).cell? ⟨L, 3, none⟩ = some (.string s3) := (World.cell?_setCell_other _ _ _ _ (hne 3)).trans c3
  generalize (w.setCell ⟨B, 1, none⟩ (.int .i64 ((p + 1 : Nat) : Int))).drewN m = w1 at *
  clear c0 c1 c2 c3 hne hr
  have h4 : v = 0 ∨ v = 1 ∨ v = 2 ∨ v = 3 := by omega
  rcases h4 with rfl | rfl | rfl | rfl
  · go_wp2_with fail
    go_ret
    exact ⟨⟨s0, rfl, h0⟩, hR, hbel⟩
  · go_wp2_with fail
    go_ret
    exact ⟨⟨s1, rfl, h1⟩, hR, hbel⟩
  · go_wp2_with fail
    go_ret
    exact ⟨⟨s2, rfl, h2⟩, hR, hbel⟩
  · go_wp2_with fail
    go_ret
    exact ⟨⟨s3, rfl, h3⟩, hR, hbel⟩


theorem of_new (B p : Nat) (s0 s1 s2 s3 : ByteArray) (w : World) (hr : RdAt w B p) (hp : p ≤ 1000000)
    (h0 : s0.size ≤ 10) (h1 : s1.size ≤ 10) (h2 : s2.size ≤ 10) (h3 : s3.size ≤ 10) :
    Calls Try.prog 75 #[.pointer (some ⟨B, 0, none⟩), .slice (some ⟨w.heap.size, 0, none⟩) 4 4] (w.alloc (.cells #[.string s0, .string s1, .string s2, .string s3] 9)) fun e w' => (∃ t : ByteArray, e = .returned (.string t) ∧ t.size ≤ 10) ∧ RdAt w' B (p + 1) ∧ Only B w w' := by
  refine (of_any B p w.heap.size s0 s1 s2 s3 _ (hr.alloc _) hp hr.lt ?_ ?_ ?_ ?_ h0 h1 h2 h3).mono ?_
  · rw [World.cell?_alloc_at _ _ _ _ rfl]; rfl
  · rw [World.cell?_alloc_at _ _ _ _ rfl]; rfl
  · rw [World.cell?_alloc_at _ _ _ _ rfl]; rfl
  · rw [World.cell?_alloc_at _ _ _ _ rfl]; rfl
  · rintro e w' ⟨h, hR, hb⟩
    exact ⟨h, hR, ((Only.refl B w).alloc hr.lt _).trans hb⟩

set_option maxHeartbeats 1000000 in
theorem text_two (B p : Nat) (w : World) (hr : RdAt w B p) (hp : p ≤ 100000) :
    Calls Try.prog 51 #[.pointer (some ⟨B, 0, none⟩)] w fun e w' => (∃ t : ByteArray, e = .returned (.string t) ∧ t.size ≤ 9001 ∧ (t.size ≤ 2400 ∨ 9000 ≤ t.size)) ∧ (∃ q, q ≤ p + 100 ∧ RdAt w' B q) ∧ Only B w w' := by
  go_enter Try.func51, Try.ntmps51
  go_wp2_with fail
  refine (pick_any B p 150 w hr (by omega) (by omega) (by omega)).mono ?_
  rintro e w1 ⟨v, m, rfl, hv, rfl⟩
  have hR1 := hr.step m
  have bel1 := step_only w B (.int .i64 ((p + 1 : Nat) : Int)) m
  generalize (w.setCell ⟨B, 1, none⟩ (.int .i64 ((p + 1 : Nat) : Int))).drewN m = w1 at *
  clear hr
  by_cases hv0 : v = 0
  · subst hv0
    go_wp2_with fail
    refine (pick_any B (p + 1) 2 w1 hR1 (by omega) (by omega) (by omega)).mono ?_
    rintro e w2 ⟨u, m2, rfl, hu, rfl⟩
    have hR2 := hR1.step m2
    have bel2 := step_only w1 B (.int .i64 ((p + 1 + 1 : Nat) : Int)) m2
    generalize (w1.setCell ⟨B, 1, none⟩ (.int .i64 ((p + 1 + 1 : Nat) : Int))).drewN m2 = w2 at *
    go_wp2_with fail
    rw [show (9000 : Int) + (u : Int) = ((9000 + u : Nat) : Int) from by omega]
    refine (l1Many_any _ (9000 + u) w2 (by decide) (by omega)).mono ?_
    rintro e w3 ⟨⟨t, rfl, ht⟩, rfl⟩
    have HT : Hid (t.size = _) := ht
    clear ht
    go_wp2_with fail
    go_ret
    exact ⟨⟨t, rfl, by rw [HT.out]; show (9000 + u) * 1 ≤ 9001; omega, .inr (by rw [HT.out]; show 9000 ≤ (9000 + u) * 1; omega)⟩, ⟨p + 2, by omega, hR2⟩, bel1.trans bel2⟩
  · have hvb : ((v : Int) == 0) = false := by simp; omega
    go_wp2_with fail
    refine (pick_any B (p + 1) 7 w1 hR1 (by omega) (by omega) (by omega)).mono ?_
    rintro e w2 ⟨n, m2, rfl, hn, rfl⟩
    have hR2 := hR1.step m2
    have bel2 := bel1.trans (step_only w1 B (.int .i64 ((p + 1 + 1 : Nat) : Int)) m2)
    generalize (w1.setCell ⟨B, 1, none⟩ (.int .i64 ((p + 1 + 1 : Nat) : Int))).drewN m2 = w2 at *
    clear hR1 bel1
    go_wp2_with fail
    go_loopw [3, 4] (fun o i wr => ∃ (k q : Nat) (t : ByteArray), k ≤ 6 ∧ i = .int .i64 k ∧ o = .string t ∧ t.size + 400 * k ≤ 2400 ∧ q + 14 * k ≤ p + 100 ∧ RdAt wr B q ∧ Only B w wr) (fun _ i _ => (intOf i).toNat)
    case atStart => exact ⟨n, p + 2, ⟨#[]⟩, by omega, rfl, rfl, by show 0 + 400 * n ≤ 2400; omega, by omega, hR2, bel2⟩
    case round =>
      obtain ⟨k, q, t, hk, rfl, rfl, ht, hq, hR, bel⟩ := hrel
      clear hR2 bel2
      by_cases hk0 : 0 < k
      · go_wp2_with fail
        refine (pick_any B q 5 wr hR (by omega) (by omega) (by omega)).mono ?_
        rintro e w3 ⟨c, m3, rfl, hc, rfl⟩
        have hR3 := hR.step m3
        have bel3 := bel.trans (step_only wr B (.int .i64 ((q + 1 : Nat) : Int)) m3)
        generalize (wr.setCell ⟨B, 1, none⟩ (.int .i64 ((q + 1 : Nat) : Int))).drewN m3 = w3 at *
        clear hR bel
        by_cases c0 : c = 0
        · subst c0
          go_wp2_with fail
          refine (of_new B (q + 1) ⟨#[97]⟩ ⟨#[98]⟩ ⟨#[0]⟩ ⟨#[255]⟩ w3 hR3 (by omega) (by decide) (by decide) (by decide) (by decide)).mono ?_
          rintro e w4 ⟨⟨t2, rfl, ht2⟩, hR4, bel4⟩
          have bel4' := bel3.trans bel4
          clear hR3 bel3 bel4
          go_wp2_with fail
          refine (pick_any B (q + 1 + 1) 40 w4 hR4 (by omega) (by omega) (by omega)).mono ?_
          rintro e w5 ⟨u, m5, rfl, hu, rfl⟩
          have hR5 := hR4.step m5
          have bel5 := bel4'.trans (step_only w4 B (.int .i64 ((q + 1 + 1 + 1 : Nat) : Int)) m5)
          generalize (w4.setCell ⟨B, 1, none⟩ (.int .i64 ((q + 1 + 1 + 1 : Nat) : Int))).drewN m5 = w5 at *
          clear hR4 bel4'
          go_wp2_with fail
          refine (l1Many_any t2 u w5 (by omega) (by omega)).mono ?_
          rintro e w6 ⟨⟨t3, rfl, ht3⟩, rfl⟩
          have ht3' : t3.size ≤ 400 := by rw [ht3]; exact Nat.le_trans (Nat.mul_le_mul (show u ≤ 40 by omega) ht2) (by decide)
          clear ht3
          go_wp2_with fail
          go_roundw
          case rel => exact ⟨k - 1, q + 3, _, by omega, by go_num, rfl, by rw [ByteArray.size_append]; omega, by omega, hR5, bel5⟩
          case measure => simp [intOf]; omega
        · have hc0 : ((c : Int) == 0) = false := by simp; omega
          by_cases c1 : c = 1
          · subst c1
            go_wp2_with fail
            go_roundw
            case rel => exact ⟨k - 1, q + 1, _, by omega, by go_num, rfl, by rw [ByteArray.size_append]; show t.size + 25 + _ ≤ _; omega, by omega, hR3, bel3⟩
            case measure => simp [intOf]; omega
          · have hc1 : ((c : Int) == 1) = false := by simp; omega
            by_cases c2 : c = 2
            · subst c2
              go_wp2_with fail
              refine (pick_any B (q + 1) 12 w3 hR3 (by omega) (by omega) (by omega)).mono ?_
              rintro e w4 ⟨n2, m4, rfl, hn2, rfl⟩
              have hR4 := hR3.step m4
              have bel4 := bel3.trans (step_only w3 B (.int .i64 ((q + 1 + 1 : Nat) : Int)) m4)
              generalize (w3.setCell ⟨B, 1, none⟩ (.int .i64 ((q + 1 + 1 : Nat) : Int))).drewN m4 = w4 at *
              clear hR3 bel3
              go_wp2_with fail
              go_loopw [3, 5] (fun o i wr => ∃ (j q2 : Nat) (t2 : ByteArray), j ≤ 11 ∧ i = .int .i64 j ∧ o = .string t2 ∧ t2.size + j ≤ t.size + 11 ∧ q2 + j ≤ q + 13 ∧ RdAt wr B q2 ∧ Only B w wr) (fun _ i _ => (intOf i).toNat)
              case atStart => exact ⟨n2, q + 2, t, by omega, rfl, rfl, by omega, by omega, hR4, bel4⟩
              case round =>
                obtain ⟨j, q2, t2, hj, rfl, rfl, ht2, hq2, hR5, bel5⟩ := hrel
                clear hR4 bel4
                by_cases hj0 : 0 < j
                · go_wp2_with fail
                  refine (pick_any B q2 256 _ hR5 (by omega) (by omega) (by omega)).mono ?_
                  rintro e w6 ⟨u, m6, rfl, hu, hw6⟩
                  have hR6 := hR5.step m6
                  rw [← hw6] at hR6
                  have bel6 := bel5.trans (step_only _ B (.int .i64 ((q2 + 1 : Nat) : Int)) m6)
                  rw [← hw6] at bel6
                  clear hw6 hR5 bel5
                  have htx := run_text1 w6 u w6.heap.size rfl
                  go_wp2_with fail
                  go_roundw
                  case rel => exact ⟨j - 1, q2 + 1, _, by omega, by go_num, rfl, by rw [ByteArray.size_append]; show t2.size + 1 + _ ≤ _; omega, by omega, hR6.alloc _, bel6.alloc hR6.lt _⟩
                  case measure => simp [intOf]; omega
                · have hj' : j = 0 := by omega
                  subst hj'
                  go_wp2_with fail
                  go_roundw
                  case rel => exact ⟨k - 1, q2, t2, by omega, by go_num, rfl, by omega, by omega, hR5, bel5⟩
                  case measure => simp [intOf]; omega
            · have hc2 : ((c : Int) == 2) = false := by simp; omega
              go_wp2_with fail
              refine (of_new B (q + 1) ⟨#[120]⟩ ⟨#[97, 98, 99]⟩ ⟨#[97, 98, 99, 97, 98, 99, 97, 98, 99, 100]⟩ ⟨#[32]⟩ w3 hR3 (by omega) (by decide) (by decide) (by decide) (by decide)).mono ?_
              rintro e w4 ⟨⟨t2, rfl, ht2⟩, hR4, bel4⟩
              have bel4' := bel3.trans bel4
              clear hR3 bel3 bel4
              go_wp2_with fail
              go_roundw
              case rel => exact ⟨k - 1, q + 2, _, by omega, by go_num, rfl, by rw [ByteArray.size_append]; omega, by omega, hR4, bel4'⟩
              case measure => simp [intOf]; omega
      · have hk' : k = 0 := by omega
        subst hk'
        go_wp2_with fail
        go_ret
        exact ⟨⟨t, rfl, by omega, .inl (by omega)⟩, ⟨q, by omega, hR⟩, bel⟩
theorem text_any (B p : Nat) (w : World) (hr : RdAt w B p) (hp : p ≤ 100000) :
    Calls Try.prog 51 #[.pointer (some ⟨B, 0, none⟩)] w fun e w' => (∃ t : ByteArray, e = .returned (.string t) ∧ t.size ≤ 9001) ∧ (∃ q, q ≤ p + 100 ∧ RdAt w' B q) ∧ Only B w w' := by
  refine (text_two B p w hr hp).mono ?_
  rintro e w' ⟨⟨t, h1, h2, _⟩, h3⟩
  exact ⟨⟨t, h1, h2⟩, h3⟩
end Go.Proofs.Ytcolgcddhchkhaa
