/- A picture that came in, copied; how great it is. -/
import Derived.Test.YtjmeaeimpkijmaaGreatDoorMarkRow
import Derived.Test.YtjmeaeimpkijmaaGreatDoorSzInts
import Derived.Below
namespace Go.Proofs.YtjmeaeimpkijmaaGreatDoor
open Go.RowKit

set_option maxHeartbeats 400000 in
theorem szImage_small (k d wd hi : Int) (ca : Option Addr) (cn cc : Nat) (pa : Option Addr) (pn pc : Nat) (w : World) (h : cn + pn ≤ 1048576) :
    Calls Tryz.prog 10 #[.agg #[.int .i64 k, .int .i64 d, .int .i64 wd, .int .i64 hi, .slice ca cn cc, .slice pa pn pc], .int .i64 1048576] w fun e w' => e = .returned (.int .i64 (1048576 - (cn : Int) - (pn : Int))) ∧ Below w.heap.size w w' := by
  have bel : Below w.heap.size w (w.alloc (.cells #[.int .i64 k, .int .i64 d, .int .i64 wd, .int .i64 hi, .slice ca cn cc, .slice pa pn pc] 28)) := (Below.refl _ _).alloc (Nat.le_refl _) _
  have H1 : Hid (∀ w : World, Calls Tryz.prog 19 #[.slice ca cn cc, .int .i64 1048576] w fun e w' => e = .returned (.int .i64 (1048576 - (cn : Int))) ∧ w' = w) := by
    intro w
    have := szInts_any ca cn cc 1048576 w (by omega) (by omega)
    rw [if_pos (by omega)] at this; exact this
  have H2 : Hid (∀ w : World, Calls Tryz.prog 19 #[.slice pa pn pc, .int .i64 (1048576 - (cn : Int))] w fun e w' => e = .returned (.int .i64 (1048576 - (cn : Int) - (pn : Int))) ∧ w' = w) := by
    intro w
    have := szInts_any pa pn pc (1048576 - (cn : Int)) w (by omega) (by omega)
    rw [if_pos (by omega)] at this; exact this
  have d1 : decide (1048576 - (cn : Int) < 0) = false := by simp; omega
  have d2 : decide (1048576 - (cn : Int) - (pn : Int) < 0) = false := by simp; omega
  go_enter Tryz.func10, Tryz.ntmps10
  go_wp2_with fail
  refine (H1.out _).mono ?_
  rintro e w1 ⟨rfl, hw1⟩
  subst hw1
  go_wp2_with fail
  refine (H2.out _).mono ?_
  rintro e w1 ⟨rfl, hw1⟩
  subst hw1
  go_wp2_with fail
  go_ret
  exact ⟨rfl, bel⟩

set_option maxHeartbeats 400000 in
theorem szImage_big (k d wd hi : Int) (ca : Option Addr) (cn cc : Nat) (pa : Option Addr) (pn pc : Nat) (w : World) (hc : cn ≤ 9223372036854775807) (hp : pn ≤ 9223372036854775807) (h : 1048576 < cn + pn) :
    Calls Tryz.prog 10 #[.agg #[.int .i64 k, .int .i64 d, .int .i64 wd, .int .i64 hi, .slice ca cn cc, .slice pa pn pc], .int .i64 1048576] w fun e w' => e = .returned (.int .i64 (-1)) ∧ Below w.heap.size w w' := by
  have bel : Below w.heap.size w (w.alloc (.cells #[.int .i64 k, .int .i64 d, .int .i64 wd, .int .i64 hi, .slice ca cn cc, .slice pa pn pc] 28)) := (Below.refl _ _).alloc (Nat.le_refl _) _
  by_cases hcb : cn ≤ 1048576
  · have H1 : Hid (∀ w : World, Calls Tryz.prog 19 #[.slice ca cn cc, .int .i64 1048576] w fun e w' => e = .returned (.int .i64 (1048576 - (cn : Int))) ∧ w' = w) := by
      intro w
      have := szInts_any ca cn cc 1048576 w (by omega) (by omega)
      rw [if_pos (by omega)] at this; exact this
    have H2 : Hid (∀ w : World, Calls Tryz.prog 19 #[.slice pa pn pc, .int .i64 (1048576 - (cn : Int))] w fun e w' => e = .returned (.int .i64 (-1)) ∧ w' = w) := by
      intro w
      have := szInts_any pa pn pc (1048576 - (cn : Int)) w (by omega) (by omega)
      rw [if_neg (by omega)] at this; exact this
    have d1 : decide (1048576 - (cn : Int) < 0) = false := by simp; omega
    go_enter Tryz.func10, Tryz.ntmps10
    go_wp2_with fail
    refine (H1.out _).mono ?_
    rintro e w1 ⟨rfl, hw1⟩
    subst hw1
    go_wp2_with fail
    refine (H2.out _).mono ?_
    rintro e w1 ⟨rfl, hw1⟩
    subst hw1
    go_wp2_with fail
    go_ret
    exact ⟨rfl, bel⟩
  · have H1 : Hid (∀ w : World, Calls Tryz.prog 19 #[.slice ca cn cc, .int .i64 1048576] w fun e w' => e = .returned (.int .i64 (-1)) ∧ w' = w) := by
      intro w
      have := szInts_any ca cn cc 1048576 w (by omega) (by omega)
      rw [if_neg (by omega)] at this; exact this
    go_enter Tryz.func10, Tryz.ntmps10
    go_wp2_with fail
    refine (H1.out _).mono ?_
    rintro e w1 ⟨rfl, hw1⟩
    subst hw1
    go_wp2_with fail
    go_ret
    exact ⟨rfl, bel⟩

/-- the blocks that a copy lays -/
def toW (w : World) (k d wd hi : Int) (ca : Option Addr) (cn cc : Nat) (pa : Option Addr) (pn pc : Nat) (cs ps : List Int) : World :=
  ((((w.alloc (.cells #[.int .i64 k, .int .i64 d, .int .i64 wd, .int .i64 hi, .slice ca cn cc, .slice pa pn pc] 28)).alloc
    (.cells #[.int .i64 k, .int .i64 d, .int .i64 wd, .int .i64 hi, .slice (some ⟨w.heap.size + 1 + 1 + 1, 0, none⟩) cn cn, .slice (some ⟨w.heap.size + 1 + 1 + 1 + 1, 0, none⟩) pn pn] 31)).alloc
    (.cells #[.int .i64 k, .int .i64 d, .int .i64 wd, .int .i64 hi, .slice (some ⟨w.heap.size + 1 + 1 + 1, 0, none⟩) cn cn, .slice (some ⟨w.heap.size + 1 + 1 + 1 + 1, 0, none⟩) pn pn] 31)).alloc
    (.cells (cp cs cn) 3)).alloc (.cells (cp ps pn) 3)

set_option maxHeartbeats 2000000 in
set_option maxRecDepth 20000 in
theorem toImage_exact (k d wd hi : Int) (ca : Option Addr) (cn cc : Nat) (pa : Option Addr) (pn pc : Nat) (cs ps : List Int) (w : World) (hc : Ints w ca cs) (hcn : cs.length = cn) (hcl : cn ≤ 1048576) (hp : Ints w pa ps) (hpn : ps.length = pn) (hpl : pn ≤ 1048576) :
    Calls Tryz.prog 12 #[.agg #[.int .i64 k, .int .i64 d, .int .i64 wd, .int .i64 hi, .slice ca cn cc, .slice pa pn pc]] w fun e w' => e = .returned (.agg #[.int .i64 k, .int .i64 d, .int .i64 wd, .int .i64 hi, .slice (some ⟨w.heap.size + 1 + 1 + 1, 0, none⟩) cn cn, .slice (some ⟨w.heap.size + 1 + 1 + 1 + 1, 0, none⟩) pn pn]) ∧ w' = toW w k d wd hi ca cn cc pa pn pc cs ps := by
  have H1 : Hid (∀ w' : World, Below w.heap.size w w' → Calls Tryz.prog 25 #[.slice ca cn cc] w' fun e w'' => e = .returned (.slice (some ⟨w'.heap.size, 0, none⟩) cn cn) ∧ w'' = w'.alloc (.cells (cp cs cn) 3)) := fun w' b => toInts_exact ca cn cc cs w' (hc.kept b) hcn (by omega)
  have H2 : Hid (∀ w' : World, Below w.heap.size w w' → Calls Tryz.prog 25 #[.slice pa pn pc] w' fun e w'' => e = .returned (.slice (some ⟨w'.heap.size, 0, none⟩) pn pn) ∧ w'' = w'.alloc (.cells (cp ps pn) 3)) := fun w' b => toInts_exact pa pn pc ps w' (hp.kept b) hpn (by omega)
  have HT : Hid (∀ w', w' = toW w k d wd hi ca cn cc pa pn pc cs ps → w' = toW w k d wd hi ca cn cc pa pn pc cs ps) := fun w' h => h
  clear hc hp hcn hpn
  generalize hA : cp cs cn = A at *
  generalize hB : cp ps pn = B at *
  have HA : Hid (cp cs cn = A) := hA
  have HB : Hid (cp ps pn = B) := hB
  clear hA hB
  go_enter Tryz.func12, Tryz.ntmps12
  go_wp2_with fail
  refine (H1.out _ ((((Below.refl w.heap.size w).alloc (Nat.le_refl _) _).alloc (by simp) _).alloc (by simp; omega) _)).mono ?_
  rintro e w1 ⟨rfl, hw1⟩
  subst hw1
  go_wp2_with fail
  refine (H2.out _ (((((Below.refl w.heap.size w).alloc (Nat.le_refl _) _).alloc (by simp) _).alloc (by simp; omega) _).alloc (by simp; omega) _)).mono ?_
  rintro e w1 ⟨rfl, hw1⟩
  subst hw1
  go_wp2_with fail
  refine bodyPost_ret (v := .agg #[.int .i64 k, .int .i64 d, .int .i64 wd, .int .i64 hi, .slice (some ⟨w.heap.size + 1 + 1 + 1, 0, none⟩) cn cn, .slice (some ⟨w.heap.size + 1 + 1 + 1 + 1, 0, none⟩) pn pn]) (by simp [results, Tryz.results12, go_sem]) rfl ⟨rfl, ?_⟩
  unfold toW
  rw [HA.out, HB.out]

theorem toW_below (w : World) (k d wd hi : Int) (ca : Option Addr) (cn cc : Nat) (pa : Option Addr) (pn pc : Nat) (cs ps : List Int) : Below w.heap.size w (toW w k d wd hi ca cn cc pa pn pc cs ps) :=
  (((((Below.refl w.heap.size w).alloc (Nat.le_refl _) _).alloc (by simp) _).alloc (by simp; omega) _).alloc (by simp; omega) _).alloc (by simp; omega) _

theorem two_copies (W : World) (cs ps : List Int) : Ints ((W.alloc (.cells (cp cs cs.length) 3)).alloc (.cells (cp ps ps.length) 3)) (some ⟨W.heap.size, 0, none⟩) cs ∧ Ints ((W.alloc (.cells (cp cs cs.length) 3)).alloc (.cells (cp ps ps.length) 3)) (some ⟨W.heap.size + 1, 0, none⟩) ps := by
  refine ⟨(ints_cp W cs).kept ((Below.refl _ _).alloc (Nat.le_refl _) _), ?_⟩
  have := ints_cp (W.alloc (.cells (cp cs cs.length) 3)) ps
  rw [World.size_alloc] at this
  exact this

theorem toW_ints (w : World) (k d wd hi : Int) (ca : Option Addr) (cn cc : Nat) (pa : Option Addr) (pn pc : Nat) (cs ps : List Int) (hcn : cs.length = cn) (hpn : ps.length = pn) :
    Ints (toW w k d wd hi ca cn cc pa pn pc cs ps) (some ⟨w.heap.size + 1 + 1 + 1, 0, none⟩) cs ∧ Ints (toW w k d wd hi ca cn cc pa pn pc cs ps) (some ⟨w.heap.size + 1 + 1 + 1 + 1, 0, none⟩) ps := by
  subst hcn hpn
  unfold toW
  generalize hW : ((w.alloc (.cells #[.int .i64 k, .int .i64 d, .int .i64 wd, .int .i64 hi, .slice ca cs.length cc, .slice pa ps.length pc] 28)).alloc
    (.cells #[.int .i64 k, .int .i64 d, .int .i64 wd, .int .i64 hi, .slice (some ⟨w.heap.size + 1 + 1 + 1, 0, none⟩) cs.length cs.length, .slice (some ⟨w.heap.size + 1 + 1 + 1 + 1, 0, none⟩) ps.length ps.length] 31)).alloc
    (.cells #[.int .i64 k, .int .i64 d, .int .i64 wd, .int .i64 hi, .slice (some ⟨w.heap.size + 1 + 1 + 1, 0, none⟩) cs.length cs.length, .slice (some ⟨w.heap.size + 1 + 1 + 1 + 1, 0, none⟩) ps.length ps.length] 31) = W
  have hs : W.heap.size = w.heap.size + 1 + 1 + 1 := by rw [← hW]; simp
  rw [← hs]
  exact two_copies W cs ps

theorem toImage_any (k d wd hi : Int) (ca : Option Addr) (cn cc : Nat) (pa : Option Addr) (pn pc : Nat) (cs ps : List Int) (w : World) (hc : Ints w ca cs) (hcn : cs.length = cn) (hcl : cn ≤ 1048576) (hp : Ints w pa ps) (hpn : ps.length = pn) (hpl : pn ≤ 1048576) :
    Calls Tryz.prog 12 #[.agg #[.int .i64 k, .int .i64 d, .int .i64 wd, .int .i64 hi, .slice ca cn cc, .slice pa pn pc]] w fun e w' => (∃ x y, e = .returned (.agg #[.int .i64 k, .int .i64 d, .int .i64 wd, .int .i64 hi, .slice x cn cn, .slice y pn pn]) ∧ Ints w' x cs ∧ Ints w' y ps) ∧ Below w.heap.size w w' := by
  refine (toImage_exact k d wd hi ca cn cc pa pn pc cs ps w hc hcn hcl hp hpn hpl).mono ?_
  rintro e w' ⟨rfl, rfl⟩
  have hI := toW_ints w k d wd hi ca cn cc pa pn pc cs ps hcn hpn
  exact ⟨⟨_, _, rfl, hI.1, hI.2⟩, toW_below _ _ _ _ _ _ _ _ _ _ _ _ _⟩

set_option maxHeartbeats 1000000 in
set_option maxRecDepth 20000 in
theorem eqImage_same (k d wd hi : Int) (ca : Option Addr) (cc : Nat) (pa : Option Addr) (pc : Nat) (cb : Option Addr) (cd : Nat) (pb : Option Addr) (pd cn pn : Nat) (cs ps : List Int) (w : World) (hc : Ints w ca cs) (hp : Ints w pa ps) (hcb : Ints w cb cs) (hpb : Ints w pb ps) (hcn : cs.length = cn) (hcl : cn ≤ 1048576) (hpn : ps.length = pn) (hpl : pn ≤ 1048576) :
    Calls Tryz.prog 14 #[.agg #[.int .i64 k, .int .i64 d, .int .i64 wd, .int .i64 hi, .slice ca cn cc, .slice pa pn pc], .agg #[.int .i64 k, .int .i64 d, .int .i64 wd, .int .i64 hi, .slice cb cn cd, .slice pb pn pd]] w fun e w' => e = .returned (.bool true) ∧ Below w.heap.size w w' := by
  obtain ⟨W, hW⟩ : ∃ W, W = (w.alloc (.cells #[.int .i64 k, .int .i64 d, .int .i64 wd, .int .i64 hi, .slice ca cn cc, .slice pa pn pc] 31)).alloc (.cells #[.int .i64 k, .int .i64 d, .int .i64 wd, .int .i64 hi, .slice cb cn cd, .slice pb pn pd] 31) := ⟨_, rfl⟩
  have hB : Below w.heap.size w W := by rw [hW]; exact ((Below.refl _ _).alloc (Nat.le_refl _) _).alloc (by simp) _
  have H1 : Hid (∀ m : Nat, Calls Tryz.prog 26 #[.slice ca cn cc, .slice cb cn cd] (W.drewN m) fun e w' => e = .returned (.bool true) ∧ ∃ m', w' = (W.drewN m).drewN m') := fun m => eqInts_same ca cc cb cd cn cs _ ((hc.kept hB).kept (drewN_below _ _)) ((hcb.kept hB).kept (drewN_below _ _)) hcn (by omega)
  have H2 : Hid (∀ m : Nat, Calls Tryz.prog 26 #[.slice pa pn pc, .slice pb pn pd] (W.drewN m) fun e w' => e = .returned (.bool true) ∧ ∃ m', w' = (W.drewN m).drewN m') := fun m => eqInts_same pa pc pb pd pn ps _ ((hp.kept hB).kept (drewN_below _ _)) ((hpb.kept hB).kept (drewN_below _ _)) hpn (by omega)
  have HB : Hid (∀ m, Below w.heap.size w (W.drewN m)) := fun m => below_drewN hB m
  rw [hW] at H1 H2 HB
  clear hc hp hcb hpb hcn hpn hB hW
  go_enter Tryz.func14, Tryz.ntmps14
  go_wp2_with fail
  refine (H1.out 0).mono ?_
  rintro e w1 ⟨rfl, m1, hw1⟩
  rw [World.drewN_drewN] at hw1
  subst hw1
  go_wp2_with fail
  refine (H2.out _).mono ?_
  rintro e w1 ⟨rfl, m2, hw1⟩
  rw [World.drewN_drewN] at hw1
  subst hw1
  go_wp2_with fail
  go_ret
  exact ⟨rfl, HB.out _⟩
end Go.Proofs.YtjmeaeimpkijmaaGreatDoor
