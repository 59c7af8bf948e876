/- Texts laid together: BpMove. -/
import Derived.Test.YtbfeonhokagdjaaDoorVEPnmPutBpNextL
import Derived.Test.YtbfeonhokagdjaaDoorVEPnmPutBpNextH
/- A number of so many bits goes into the writer, through the interface. -/
namespace Go.Proofs.YtbfeonhokagdjaaDoor
open Go.RowKit

theorem wmethod_room (a : Addr) (w : World) : (method 217 71 (.pointer (some a)) "loop.example/intarsia/impl.room").run Tryd.prog w = .ok (93, .pointer (some a)) w := by kernel_rfl
theorem wmethod_next (a : Addr) (w : World) : (method 217 71 (.pointer (some a)) "loop.example/intarsia/impl.next").run Tryd.prog w = .ok (92, .pointer (some a)) w := by kernel_rfl
theorem wahead_next (a : Addr) (w : World) : (nilAhead 217 71 (.pointer (some a)) "loop.example/intarsia/impl.next").run Tryd.prog w = .ok (some false) w := by kernel_rfl

theorem Writes.drew {w : World} {B N : Nat} {hi : Bool} {f : Nat → Nat} (h : Writes w B hi f N) : Writes w.drew B hi f N := ⟨h.c0, h.c1, h.c2, h.f1, h.f2, h.lt⟩

theorem and_bit' (x q : Nat) (h : x < 4294967296) : bits .and .i64 ((x : Int) / 2 ^ q) 1 = ((x / 2 ^ q % 2 : Nat) : Int) := by
  have e : (x : Int) / 2 ^ q = ((x / 2 ^ q : Nat) : Int) := by simp
  have hl : x / 2 ^ q ≤ x := Nat.div_le_self _ _
  have := i64_and_nat (x / 2 ^ q) 1 (by omega) (by omega)
  rw [show ((1 : Nat) : Int) = 1 from rfl] at this
  rw [e, this, nat_mask1]

set_option maxHeartbeats 1000000 in
theorem wmove_low (B N V S : Nat) (f : Nat → Nat) (w : World) (h : Writes w B false f N) (hNS : N + S ≤ 72000) (h24 : S ≤ 32) (hV : V < 4294967296) (hf : ∀ i, f i < 2) (hfb : ∀ q, q < S → f (N + q) = Bp.bitIn false V S q) :
    Calls Tryd.prog 43 #[.iface 71 (.pointer (some ⟨B, 0, none⟩)), .func (.func 54) #[] #[], .int .i64 V, .int .i64 S] w fun e w' => (∃ z, e = .returned (.tuple #[.int .i64 z, .bool true])) ∧ Writes w' B false f (N + S) ∧ Below B w w' := by
  have m1 := fun w => wmethod_room ⟨B, 0, none⟩ w
  have m2 := fun w => wmethod_next ⟨B, 0, none⟩ w
  have m3 := fun w => wahead_next ⟨B, 0, none⟩ w
  have HR : Hid (Writes w B false f N) := h
  have HF : Hid ((∀ i, f i < 2) ∧ ∀ q, q < S → f (N + q) = Bp.bitIn false V S q) := ⟨hf, hfb⟩
  clear h hf hfb
  go_enter Tryd.func43, Tryd.ntmps43
  go_wp2_with fail
  refine (wroom_any B N false f w HR.out (by omega)).mono ?_
  rintro e w1 ⟨rfl, hw1⟩
  subst hw1
  have hd : decide (72000 - (N : Int) < (S : Int)) = false := by simp; omega
  go_wp2_with fail
  go_loopw [10, 18] (fun n i wr => ∃ (k : Nat) (z : Int), k ≤ S ∧ i = .int .i64 k ∧ n = .int .i64 z ∧ Writes wr B false f (N + k) ∧ Below B w1 wr) (fun _ i _ => S - (intOf i).toNat)
  case atStart => exact ⟨0, 0, Nat.zero_le _, rfl, rfl, HR.out, Below.refl _ _⟩
  case round =>
    obtain ⟨k, z, hk, rfl, rfl, hWr, hbel⟩ := hrel
    clear HR
    by_cases hlt : k < S
    · obtain ⟨bb, hbb⟩ : ∃ bb, bb = Bp.bitIn false V S k := ⟨_, rfl⟩
      have hfk := HF.out.2 k hlt
      rw [← hbb] at hfk
      have HXX : Hid (∀ (w : World), Writes w B false f (N + k) → Calls Tryd.prog 92 #[.pointer (some ⟨B, 0, none⟩), .int .i64 (bb : Int)] w fun e w' => e = .returned (.int .i64 (bb : Int)) ∧ Writes w' B false f (N + k + 1) ∧ Below B w w') := by
        intro w hw
        exact wnext_low B (N + k) bb f w hw (by omega) HF.out.1 hfk
      have HRD : Hid (Writes _ B false f (N + k)) := hWr
      have hab : bits .and .i64 ((V : Int) / 2 ^ (k)) 1 = (bb : Int) := by
        rw [and_bit' V (k) hV, hbb]; rfl
      clear hWr hbb hfk
      go_wp2_with fail
      refine (order_low _ _ _).mono ?_
      rintro e w3 ⟨rfl, hw3⟩
      subst hw3
      go_wp2_with fail
      go_region_with (go_at_call 92; refine (HXX.out _ ?_).mono ?_; (repeat (first | exact HRD.out | refine Writes.drew ?_)); rintro e w4 ⟨rfl, hR4, b4⟩)
      all_goals have hb4 := hbel.trans ((Below.refl B w3).drew.trans b4)
      all_goals clear b4 hbel HRD HXX
      all_goals go_wp2_with fail
      all_goals
        go_roundw
        case rel => exact ⟨k + 1, _, by omega, by go_num, rfl, hR4, hb4⟩
        case measure => simp [intOf]; omega
    · have hk' : k = S := by omega
      subst hk'
      go_wp2_with fail
      go_ret2
      exact ⟨⟨_, rfl⟩, hWr, hbel⟩

set_option maxHeartbeats 1000000 in
theorem wmove_high (B N V S : Nat) (f : Nat → Nat) (w : World) (h : Writes w B true f N) (hNS : N + S ≤ 72000) (h24 : S ≤ 32) (hV : V < 4294967296) (hf : ∀ i, f i < 2) (hfb : ∀ q, q < S → f (N + q) = Bp.bitIn true V S q) :
    Calls Tryd.prog 43 #[.iface 71 (.pointer (some ⟨B, 0, none⟩)), .func (.func 53) #[] #[], .int .i64 V, .int .i64 S] w fun e w' => (∃ z, e = .returned (.tuple #[.int .i64 z, .bool true])) ∧ Writes w' B true f (N + S) ∧ Below B w w' := by
  have m1 := fun w => wmethod_room ⟨B, 0, none⟩ w
  have m2 := fun w => wmethod_next ⟨B, 0, none⟩ w
  have m3 := fun w => wahead_next ⟨B, 0, none⟩ w
  have HR : Hid (Writes w B true f N) := h
  have HF : Hid ((∀ i, f i < 2) ∧ ∀ q, q < S → f (N + q) = Bp.bitIn true V S q) := ⟨hf, hfb⟩
  clear h hf hfb
  go_enter Tryd.func43, Tryd.ntmps43
  go_wp2_with fail
  refine (wroom_any B N true f w HR.out (by omega)).mono ?_
  rintro e w1 ⟨rfl, hw1⟩
  subst hw1
  have hd : decide (72000 - (N : Int) < (S : Int)) = false := by simp; omega
  go_wp2_with fail
  go_loopw [10, 18] (fun n i wr => ∃ (k : Nat) (z : Int), k ≤ S ∧ i = .int .i64 k ∧ n = .int .i64 z ∧ Writes wr B true f (N + k) ∧ Below B w1 wr) (fun _ i _ => S - (intOf i).toNat)
  case atStart => exact ⟨0, 0, Nat.zero_le _, rfl, rfl, HR.out, Below.refl _ _⟩
  case round =>
    obtain ⟨k, z, hk, rfl, rfl, hWr, hbel⟩ := hrel
    clear HR
    by_cases hlt : k < S
    · obtain ⟨bb, hbb⟩ : ∃ bb, bb = Bp.bitIn true V S k := ⟨_, rfl⟩
      have hfk := HF.out.2 k hlt
      rw [← hbb] at hfk
      have HXX : Hid (∀ (w : World), Writes w B true f (N + k) → Calls Tryd.prog 92 #[.pointer (some ⟨B, 0, none⟩), .int .i64 (bb : Int)] w fun e w' => e = .returned (.int .i64 (bb : Int)) ∧ Writes w' B true f (N + k + 1) ∧ Below B w w') := by
        intro w hw
        exact wnext_high B (N + k) bb f w hw (by omega) HF.out.1 hfk
      have HRD : Hid (Writes _ B true f (N + k)) := hWr
      have hab : bits .and .i64 ((V : Int) / 2 ^ (S - 1 - k)) 1 = (bb : Int) := by
        rw [and_bit' V (S - 1 - k) hV, hbb]; rfl
      have hab2 : bits .and .i64 ((V : Int) / 2 ^ ((S : Int) - 1 - (k : Int)).toNat) 1 = (bb : Int) := by
        rw [show ((S : Int) - 1 - (k : Int)).toNat = S - 1 - k from by omega]; exact hab
      clear hWr hbb hfk
      go_wp2_with fail
      refine (order_high _ _ _ (by omega) (by omega) (by omega)).mono ?_
      rintro e w3 ⟨rfl, hw3⟩
      subst hw3
      go_wp2_with fail
      go_region_with (go_at_call 92; refine (HXX.out _ ?_).mono ?_; (repeat (first | exact HRD.out | refine Writes.drew ?_)); rintro e w4 ⟨rfl, hR4, b4⟩)
      all_goals have hb4 := hbel.trans ((Below.refl B w3).drew.trans b4)
      all_goals clear b4 hbel HRD HXX
      all_goals go_wp2_with fail
      all_goals
        go_roundw
        case rel => exact ⟨k + 1, _, by omega, by go_num, rfl, hR4, hb4⟩
        case measure => simp [intOf]; omega
    · have hk' : k = S := by omega
      subst hk'
      go_wp2_with fail
      go_ret2
      exact ⟨⟨_, rfl⟩, hWr, hbel⟩

theorem own_kept {w w' : World} {B L : Nat} {v : Value} {o : List Nat} (h : OwnB w B v L o) (hb : Below w.heap.size w w') : OwnB w' B v L o := by
  refine ⟨h.1, ?_⟩
  rcases h.2 with h2 | ⟨g, cap, cur, hv, hg, hh, r⟩
  · exact .inl h2
  · have hlt : g < w.heap.size := by
      rcases Nat.lt_or_ge g w.heap.size with hlt | hge
      · exact hlt
      · rw [Array.getElem?_eq_none hge] at hh; cases hh
    exact .inr ⟨g, cap, cur, hv, hg, by rw [hb.block g hlt]; exact hh, r⟩

theorem Writes.kept {w w' : World} {B N : Nat} {hi : Bool} {f : Nat → Nat} (h : Writes w B hi f N) (hb : Below w.heap.size w w') : Writes w' B hi f N := by
  obtain ⟨k0, ⟨v, L, k1, hown, hL⟩, k2, kf1, kf2, klt⟩ := h
  exact ⟨(hb.cell (p := ⟨B, 0, none⟩) klt).trans k0, ⟨v, L, (hb.cell (p := ⟨B, 1, none⟩) klt).trans k1, own_kept hown hb, hL⟩, (hb.cell (p := ⟨B, 2, none⟩) klt).trans k2,
    (hb.frozen (p := ⟨B, 1, none⟩) klt).trans kf1, (hb.frozen (p := ⟨B, 2, none⟩) klt).trans kf2, Nat.lt_of_lt_of_le klt hb.size⟩

theorem writes_new (w : World) (hi : Bool) (f : Nat → Nat) (T : TypeId) : Writes (w.alloc (.cells #[ordV hi, .slice none 0 0, .int .i64 0] T)) w.heap.size hi f 0 := by
  refine ⟨?_, ⟨.slice none 0 0, 0, ?_, ?_, rfl⟩, ?_, ?_, ?_, by simp⟩
  · rw [World.cell?_alloc_at _ _ _ _ rfl]; rfl
  · rw [World.cell?_alloc_at _ _ _ _ rfl]; rfl
  · exact World.ownsRow_nil _ _ _ _
  · rw [World.cell?_alloc_at _ _ _ _ rfl]; rfl
  · rw [World.frozen?_alloc_at _ _ _ _ rfl]
  · rw [World.frozen?_alloc_at _ _ _ _ rfl]

theorem wmove_any (hi : Bool) (B N V S : Nat) (f : Nat → Nat) (w : World) (h : Writes w B hi f N) (hNS : N + S ≤ 72000) (h24 : S ≤ 32) (hV : V < 4294967296) (hf : ∀ i, f i < 2) (hfb : ∀ q, q < S → f (N + q) = Bp.bitIn hi V S q) :
    Calls Tryd.prog 43 #[.iface 71 (.pointer (some ⟨B, 0, none⟩)), ordV hi, .int .i64 V, .int .i64 S] w fun e w' => (∃ z, e = .returned (.tuple #[.int .i64 z, .bool true])) ∧ Writes w' B hi f (N + S) ∧ Below B w w' := by
  cases hi
  · exact wmove_low B N V S f w h hNS h24 hV hf hfb
  · exact wmove_high B N V S f w h hNS h24 hV hf hfb
end Go.Proofs.YtbfeonhokagdjaaDoor
