/- RleGet of the specification. -/
import Derived.Test.YtlpfedhehfbfeaaQsRows
import Derived.Test.YtlpfedhehfbfeaaRlTop
import Derived.Test.YtlpfedhehfbfeaaInWalks
namespace Go.Proofs.Ytlpfedhehfbfeaa
open Go.RowKit

set_option maxHeartbeats 4000000 in
set_option maxRecDepth 20000 in
theorem spec_rleGet (s : ByteArray) (wd hi : Int) (w : World) (hs : s.size ≤ 1048576) :
    Calls Try.prog 13 #[.string s, .int .i64 wd, .int .i64 hi] w (RlAns w s wd hi) := by
  by_cases h2 : (s.size : Int) > 9000
  · have d2 : decide ((s.size : Int) > 9000) = true := decide_eq_true h2
    have HF : Hid (Rl.res s wd hi = none) := Rl.res_no (fun h => by unfold Rl.Valid at h; omega)
    go_enter Try.func13, Try.ntmps13
    go_wp2_with fail
    exact bodyPost_ret (v := .tuple #[.slice (some ⟨w.heap.size, 0, none⟩) 0 0, .bool false]) (by simp [results, Try.results13, go_sem]) rfl (rlAns_no HF.out rfl ((Below.refl _ _).alloc (Nat.le_refl _) _))
  have d2 : decide ((s.size : Int) > 9000) = false := decide_eq_false h2
  by_cases h0 : 0 ≤ wd ∧ wd ≤ 100
  rotate_left
  · have HI0 : Hid (∀ w : World, Calls Try.prog 25 #[.int .i64 wd, .int .i64 0, .int .i64 100] w fun e w' => e = .returned (.bool false) ∧ w' = w) := fun w => l1In_no _ _ _ w h0
    have HF : Hid (Rl.res s wd hi = none) := Rl.res_no (fun h => by unfold Rl.Valid at h; omega)
    go_enter Try.func13, Try.ntmps13
    go_wp2_with fail
    refine (HI0.out _).mono ?_
    rintro e v0 ⟨rfl, hv0⟩
    replace hv0 := hv0.symm
    subst hv0
    go_wp2_with fail
    exact bodyPost_ret (v := .tuple #[.slice (some ⟨w.heap.size, 0, none⟩) 0 0, .bool false]) (by simp [results, Try.results13, go_sem]) rfl (rlAns_no HF.out rfl ((Below.refl _ _).alloc (Nat.le_refl _) _))
  have HI0 : Hid (∀ w : World, Calls Try.prog 25 #[.int .i64 wd, .int .i64 0, .int .i64 100] w fun e w' => e = .returned (.bool true) ∧ w' = w) := fun w => l1In_yes _ _ _ w h0.1 h0.2
  by_cases h1 : 0 ≤ hi ∧ hi ≤ 100
  rotate_left
  · have HI1 : Hid (∀ w : World, Calls Try.prog 25 #[.int .i64 hi, .int .i64 0, .int .i64 100] w fun e w' => e = .returned (.bool false) ∧ w' = w) := fun w => l1In_no _ _ _ w h1
    have HF : Hid (Rl.res s wd hi = none) := Rl.res_no (fun h => by unfold Rl.Valid at h; omega)
    go_enter Try.func13, Try.ntmps13
    go_wp2_with fail
    refine (HI0.out _).mono ?_
    rintro e v0 ⟨rfl, hv0⟩
    replace hv0 := hv0.symm
    subst hv0
    go_wp2_with fail
    refine (HI1.out _).mono ?_
    rintro e v1 ⟨rfl, hv1⟩
    replace hv1 := hv1.symm
    subst hv1
    go_wp2_with fail
    exact bodyPost_ret (v := .tuple #[.slice (some ⟨w.heap.size, 0, none⟩) 0 0, .bool false]) (by simp [results, Try.results13, go_sem]) rfl (rlAns_no HF.out rfl ((Below.refl _ _).alloc (Nat.le_refl _) _))
  have HI1 : Hid (∀ w : World, Calls Try.prog 25 #[.int .i64 hi, .int .i64 0, .int .i64 100] w fun e w' => e = .returned (.bool true) ∧ w' = w) := fun w => l1In_yes _ _ _ w h1.1 h1.2
  obtain ⟨W, rfl⟩ := Int.eq_ofNat_of_zero_le h0.1
  obtain ⟨H, rfl⟩ := Int.eq_ofNat_of_zero_le h1.1
  have HRES : Hid (Rl.res s W H = Rl.get s W H 0 Rl.zero 0 0) := Rl.res_ok (by unfold Rl.Valid; omega)
  have HLR : Hid (∀ w : World, Calls Try.prog 34 #[.string s, .int .i64 (W : Int), .int .i64 (H : Int)] w (LrEnd w s W H)) := fun w => l7Rows_any s W H w (by omega) (by omega) (by omega)
  go_enter Try.func13, Try.ntmps13
  go_wp2_with fail
  refine (HI0.out _).mono ?_
  rintro e v0 ⟨rfl, hv0⟩
  replace hv0 := hv0.symm
  subst hv0
  go_wp2_with fail
  refine (HI1.out _).mono ?_
  rintro e v1 ⟨rfl, hv1⟩
  replace hv1 := hv1.symm
  subst hv1
  clear HI0 HI1
  go_wp2_with fail
  refine (HLR.out _).mono ?_
  rintro e w2 ⟨hb, ao, cap, (⟨hno, rfl⟩ | ⟨g, hyes, rfl, hrows⟩)⟩
  · have HF : Hid (Rl.res s W H = none) := HRES.out.trans hno
    have HBW : Hid (Below w.heap.size w w2) := hb
    clear hno hb HLR HRES
    go_wp2_with fail
    exact bodyPost_ret (v := .tuple #[.slice (some ⟨w2.heap.size, 0, none⟩) 0 0, .bool false]) (by simp [results, Try.results13, go_sem]) rfl (rlAns_no HF.out rfl (HBW.out.alloc HBW.out.size _))
  · have HF : Hid (RlAns w s W H (.returned (.tuple #[.slice ao H cap, .bool true])) w2) := by
      refine ⟨hb, .inr ⟨g, HRES.out.trans hyes, ao, cap, by rw [Int.toNat_natCast], ?_⟩⟩
      rw [Int.toNat_natCast, Int.toNat_natCast]
      exact hrows
    clear hyes hb hrows HLR HRES
    go_wp2_with fail
    exact bodyPost_ret (v := .tuple #[.slice ao H cap, .bool true]) (by simp [results, Try.results13, go_sem]) rfl HF.out
end Go.Proofs.Ytlpfedhehfbfeaa
