/- What each format can hold: both sides. -/
import Derived.Test.YtjmeaeimpkijmaaGreatDoorBase
import Derived.Test.YtjmeaeimpkijmaaGreatDoorPicLaw
import Derived.Test.YtjmeaeimpkijmaaGreatDoorInWalks
import Derived.Test.YtjmeaeimpkijmaaGreatDoorPowWalks
import Derived.Laws.BitsAllLaws
namespace Go.Proofs.YtjmeaeimpkijmaaGreatDoor
open Go.RowKit

/-- the number of a kind in a TGA -/
def Tg.sort (k d : Int) : Int := if k = 4 ∧ d = 8 then 1 else if k = 2 ∨ k = 3 then 2 else if k = 1 ∧ d = 8 then 3 else 0
set_option maxHeartbeats 1000000 in
theorem tgaSort_any (k d : Int) (w : World) :
    Calls Tryz.prog 67 #[.int .i64 k, .int .i64 d] w fun e w' => e = .returned (.int .i64 (Tg.sort k d)) ∧ w' = w := by
  by_cases h4 : k = 4
  · subst h4
    by_cases h8 : d = 8
    · subst h8
      have HV : Hid (Tg.sort 4 8 = 1) := rfl
      go_enter Tryz.func67, Tryz.ntmps67
      go_wp2_with fail
      go_ret
      exact ⟨ret_int (by rw [HV.out]), rfl⟩
    · have f1 : (d == 8) = false := by rw [beq_eq_false_iff_ne]; exact h8
      have f2 : decide (d = 8) = false := by simpa using h8
      have HV : Hid (Tg.sort 4 d = 0) := by show _ = _; unfold Tg.sort; simp [h8]
      go_enter Tryz.func67, Tryz.ntmps67
      go_wp2_with fail
      go_ret
      exact ⟨ret_int (by rw [HV.out]), rfl⟩
  · by_cases h2 : k = 2
    · subst h2
      have HV : Hid (Tg.sort 2 d = 2) := by show _ = _; unfold Tg.sort; simp
      go_enter Tryz.func67, Tryz.ntmps67
      go_wp2_with fail
      go_ret
      exact ⟨ret_int (by rw [HV.out]), rfl⟩
    · by_cases h3 : k = 3
      · subst h3
        have HV : Hid (Tg.sort 3 d = 2) := by show _ = _; unfold Tg.sort; simp
        go_enter Tryz.func67, Tryz.ntmps67
        go_wp2_with fail
        go_ret
        exact ⟨ret_int (by rw [HV.out]), rfl⟩
      · by_cases h1 : k = 1
        · subst h1
          by_cases h8 : d = 8
          · subst h8
            have HV : Hid (Tg.sort 1 8 = 3) := rfl
            go_enter Tryz.func67, Tryz.ntmps67
            go_wp2_with fail
            go_ret
            exact ⟨ret_int (by rw [HV.out]), rfl⟩
          · have f1 : (d == 8) = false := by rw [beq_eq_false_iff_ne]; exact h8
            have f2 : decide (d = 8) = false := by simpa using h8
            have HV : Hid (Tg.sort 1 d = 0) := by show _ = _; unfold Tg.sort; simp [h8]
            go_enter Tryz.func67, Tryz.ntmps67
            go_wp2_with fail
            go_ret
            exact ⟨ret_int (by rw [HV.out]), rfl⟩
        · have g1 : (k == 4) = false := by rw [beq_eq_false_iff_ne]; exact h4
          have g2 : (k == 2) = false := by rw [beq_eq_false_iff_ne]; exact h2
          have g3 : (k == 3) = false := by rw [beq_eq_false_iff_ne]; exact h3
          have g4 : (k == 1) = false := by rw [beq_eq_false_iff_ne]; exact h1
          have HV : Hid (Tg.sort k d = 0) := by show _ = _; unfold Tg.sort; simp [h1, h2, h3, h4]
          go_enter Tryz.func67, Tryz.ntmps67
          go_wp2_with fail
          go_ret
          exact ⟨ret_int (by rw [HV.out]), rfl⟩
set_option maxHeartbeats 1000000 in
theorem l11Tga_any (k d wd hi : Int) (ca : Option Addr) (cn cc : Nat) (pa : Option Addr) (pn pc : Nat) (w : World) :
    Calls Tryz.prog 23 #[.agg #[.int .i64 k, .int .i64 d, .int .i64 wd, .int .i64 hi, .slice ca cn cc, .slice pa pn pc]] w fun e w' => e = .returned (.int .i64 (Tg.sort k d)) ∧ Below w.heap.size w w' := by
  by_cases h4 : k = 4
  · subst h4
    by_cases h8 : d = 8
    · subst h8
      have HV : Hid (Tg.sort 4 8 = 1) := rfl
      go_enter Tryz.func23, Tryz.ntmps23
      go_wp2_with fail
      go_ret
      exact ⟨ret_int (by rw [HV.out]), (Below.refl _ _).alloc (Nat.le_refl _) _⟩
    · have f1 : (d == 8) = false := by rw [beq_eq_false_iff_ne]; exact h8
      have f2 : decide (d = 8) = false := by simpa using h8
      have HV : Hid (Tg.sort 4 d = 0) := by show _ = _; unfold Tg.sort; simp [h8]
      go_enter Tryz.func23, Tryz.ntmps23
      go_wp2_with fail
      go_ret
      exact ⟨ret_int (by rw [HV.out]), (Below.refl _ _).alloc (Nat.le_refl _) _⟩
  · by_cases h2 : k = 2
    · subst h2
      have HV : Hid (Tg.sort 2 d = 2) := by show _ = _; unfold Tg.sort; simp
      go_enter Tryz.func23, Tryz.ntmps23
      go_wp2_with fail
      go_ret
      exact ⟨ret_int (by rw [HV.out]), (Below.refl _ _).alloc (Nat.le_refl _) _⟩
    · by_cases h3 : k = 3
      · subst h3
        have HV : Hid (Tg.sort 3 d = 2) := by show _ = _; unfold Tg.sort; simp
        go_enter Tryz.func23, Tryz.ntmps23
        go_wp2_with fail
        go_ret
        exact ⟨ret_int (by rw [HV.out]), (Below.refl _ _).alloc (Nat.le_refl _) _⟩
      · by_cases h1 : k = 1
        · subst h1
          by_cases h8 : d = 8
          · subst h8
            have HV : Hid (Tg.sort 1 8 = 3) := rfl
            go_enter Tryz.func23, Tryz.ntmps23
            go_wp2_with fail
            go_ret
            exact ⟨ret_int (by rw [HV.out]), (Below.refl _ _).alloc (Nat.le_refl _) _⟩
          · have f1 : (d == 8) = false := by rw [beq_eq_false_iff_ne]; exact h8
            have f2 : decide (d = 8) = false := by simpa using h8
            have HV : Hid (Tg.sort 1 d = 0) := by show _ = _; unfold Tg.sort; simp [h8]
            go_enter Tryz.func23, Tryz.ntmps23
            go_wp2_with fail
            go_ret
            exact ⟨ret_int (by rw [HV.out]), (Below.refl _ _).alloc (Nat.le_refl _) _⟩
        · have g1 : (k == 4) = false := by rw [beq_eq_false_iff_ne]; exact h4
          have g2 : (k == 2) = false := by rw [beq_eq_false_iff_ne]; exact h2
          have g3 : (k == 3) = false := by rw [beq_eq_false_iff_ne]; exact h3
          have g4 : (k == 1) = false := by rw [beq_eq_false_iff_ne]; exact h1
          have HV : Hid (Tg.sort k d = 0) := by show _ = _; unfold Tg.sort; simp [h1, h2, h3, h4]
          go_enter Tryz.func23, Tryz.ntmps23
          go_wp2_with fail
          go_ret
          exact ⟨ret_int (by rw [HV.out]), (Below.refl _ _).alloc (Nat.le_refl _) _⟩

set_option maxHeartbeats 1000000 in
theorem tgaHolds_any (k d wd hi : Int) (ca : Option Addr) (cn cc : Nat) (pa : Option Addr) (pn pc : Nat) (ok : Bool) (w : World)
    (hO : ∀ w', Below w.heap.size w w' → Calls Tryz.prog 28 #[.agg #[.int .i64 k, .int .i64 d, .int .i64 wd, .int .i64 hi, .slice ca cn cc, .slice pa pn pc]] w' fun e w'' => e = .returned (.bool ok) ∧ Below w'.heap.size w' w'') :
    Calls Tryz.prog 37 #[.agg #[.int .i64 k, .int .i64 d, .int .i64 wd, .int .i64 hi, .slice ca cn cc, .slice pa pn pc]] w fun e w' => e = .returned (.bool (ok && (Tg.sort k d != 0))) ∧ Below w.heap.size w w' := by
  have hB0 : Below w.heap.size w (w.alloc (.cells #[.int .i64 k, .int .i64 d, .int .i64 wd, .int .i64 hi, .slice ca cn cc, .slice pa pn pc] 31)) := (Below.refl _ _).alloc (Nat.le_refl _) _
  have A0 := bx_new w (.int .i64 k) (.int .i64 d) (.int .i64 wd) (.int .i64 hi) (.slice ca cn cc) (.slice pa pn pc) 31
  have HO : Hid (∀ w', Below w.heap.size w w' → Calls Tryz.prog 28 #[.agg #[.int .i64 k, .int .i64 d, .int .i64 wd, .int .i64 hi, .slice ca cn cc, .slice pa pn pc]] w' fun e w'' => e = .returned (.bool ok) ∧ Below w'.heap.size w' w'') := hO
  have HS : Hid (∀ w' : World, Calls Tryz.prog 67 #[.int .i64 k, .int .i64 d] w' fun e w'' => e = .returned (.int .i64 (Tg.sort k d)) ∧ w'' = w') := fun w' => tgaSort_any k d w'
  clear hO
  generalize Tg.sort k d = srt at *
  have HA : Hid (Bx (w.alloc (.cells #[.int .i64 k, .int .i64 d, .int .i64 wd, .int .i64 hi, .slice ca cn cc, .slice pa pn pc] 31)) w.heap.size (.int .i64 k) (.int .i64 d) (.int .i64 wd) (.int .i64 hi) (.slice ca cn cc) (.slice pa pn pc)) := A0
  clear A0
  go_enter Tryz.func37, Tryz.ntmps37
  go_wp2_with fail
  refine (HO.out _ hB0).mono ?_
  rintro e w1 ⟨rfl, b1⟩
  have bel1 := hB0.trans (b1.mono hB0.size)
  obtain ⟨_, a0, a1, a2, a3, a4, a5⟩ := HA.out.kept b1
  clear b1 hB0 HA HO
  cases ok with
  | false =>
    go_wp2_with fail
    go_ret
    exact ⟨rfl, bel1⟩
  | true =>
    go_wp2_with fail
    refine (HS.out _).mono ?_
    rintro e w2 ⟨rfl, rfl⟩
    go_wp2_with fail
    go_ret
    exact ⟨by simp, bel1⟩

def Bm.hold (k d : Int) : Bool := decide (k = 2) || (decide (k = 4) && decide (d = 8))

set_option maxHeartbeats 1000000 in
theorem bmpHolds_any (k d wd hi : Int) (ca : Option Addr) (cn cc : Nat) (pa : Option Addr) (pn pc : Nat) (ok : Bool) (w : World)
    (hO : ∀ w', Below w.heap.size w w' → Calls Tryz.prog 28 #[.agg #[.int .i64 k, .int .i64 d, .int .i64 wd, .int .i64 hi, .slice ca cn cc, .slice pa pn pc]] w' fun e w'' => e = .returned (.bool ok) ∧ Below w'.heap.size w' w'') :
    Calls Tryz.prog 34 #[.agg #[.int .i64 k, .int .i64 d, .int .i64 wd, .int .i64 hi, .slice ca cn cc, .slice pa pn pc]] w fun e w' => e = .returned (.bool (ok && Bm.hold k d)) ∧ Below w.heap.size w w' := by
  have hB0 : Below w.heap.size w (w.alloc (.cells #[.int .i64 k, .int .i64 d, .int .i64 wd, .int .i64 hi, .slice ca cn cc, .slice pa pn pc] 31)) := (Below.refl _ _).alloc (Nat.le_refl _) _
  have HA : Hid (Bx (w.alloc (.cells #[.int .i64 k, .int .i64 d, .int .i64 wd, .int .i64 hi, .slice ca cn cc, .slice pa pn pc] 31)) w.heap.size (.int .i64 k) (.int .i64 d) (.int .i64 wd) (.int .i64 hi) (.slice ca cn cc) (.slice pa pn pc)) := bx_new w _ _ _ _ _ _ 31
  have HO : Hid (∀ w', Below w.heap.size w w' → Calls Tryz.prog 28 #[.agg #[.int .i64 k, .int .i64 d, .int .i64 wd, .int .i64 hi, .slice ca cn cc, .slice pa pn pc]] w' fun e w'' => e = .returned (.bool ok) ∧ Below w'.heap.size w' w'') := hO
  clear hO
  go_enter Tryz.func34, Tryz.ntmps34
  go_wp2_with fail
  refine (HO.out _ hB0).mono ?_
  rintro e w1 ⟨rfl, b1⟩
  have bel1 := hB0.trans (b1.mono hB0.size)
  obtain ⟨_, a0, a1, a2, a3, a4, a5⟩ := HA.out.kept b1
  clear b1 hB0 HA HO
  cases ok with
  | false =>
    go_wp2_with fail
    go_ret
    exact ⟨rfl, bel1⟩
  | true =>
    by_cases h2 : k = 2
    · have HE : Hid ((true && Bm.hold k d) = true) := by show _ = _; unfold Bm.hold; simp [h2]
      have h2b : (k == 2) = true := by simp [h2]
      have h2d : decide (k = 2) = true := by simp [h2]
      subst h2
      go_wp2_with fail
      go_ret
      exact ⟨by rw [HE.out]; rfl, bel1⟩
    · by_cases h4 : k = 4
      · by_cases h8 : d = 8
        · have HE : Hid ((true && Bm.hold k d) = true) := by show _ = _; unfold Bm.hold; simp [h4, h8]
          subst h4
          subst h8
          go_wp2_with fail
          go_ret
          exact ⟨by rw [HE.out]; rfl, bel1⟩
        · have HE : Hid ((true && Bm.hold k d) = false) := by show _ = _; unfold Bm.hold; simp [h4, h8]
          subst h4
          have h8b : (d == 8) = false := beq_eq_false_iff_ne.2 h8
          go_wp2_with fail
          go_ret
          exact ⟨by rw [HE.out]; rfl, bel1⟩
      · have h2b : (k == 2) = false := beq_eq_false_iff_ne.2 h2
        have h4b : (k == 4) = false := beq_eq_false_iff_ne.2 h4
        have HE : Hid ((true && Bm.hold k d) = false) := by show _ = _; unfold Bm.hold; simp [h4, h2]
        go_wp2_with fail
        go_ret
        exact ⟨by rw [HE.out]; rfl, bel1⟩

def Bm.rep (k d : Int) (runs : Bool) : Bool := (decide (k = 2) && !runs) || (decide (k = 4) && decide (d = 8))
set_option maxHeartbeats 1000000 in
theorem l11Rep_any (k d wd hi : Int) (ca : Option Addr) (cn cc : Nat) (pa : Option Addr) (pn pc : Nat) (runs : Bool) (w : World) :
    Calls Tryz.prog 22 #[.agg #[.int .i64 k, .int .i64 d, .int .i64 wd, .int .i64 hi, .slice ca cn cc, .slice pa pn pc], .bool runs] w fun e w' => e = .returned (.bool (Bm.rep k d runs)) ∧ Below w.heap.size w w' := by
  have hB0 : Below w.heap.size w (w.alloc (.cells #[.int .i64 k, .int .i64 d, .int .i64 wd, .int .i64 hi, .slice ca cn cc, .slice pa pn pc] 31)) := (Below.refl _ _).alloc (Nat.le_refl _) _
  obtain ⟨_, a0, a1, a2, a3, a4, a5⟩ := bx_new w (.int .i64 k) (.int .i64 d) (.int .i64 wd) (.int .i64 hi) (.slice ca cn cc) (.slice pa pn pc) 31
  by_cases h2 : k = 2
  · have h24 : ¬ k = 4 := by omega
    cases runs with
    | false =>
      have HE : Hid (Bm.rep k d false = true) := by show _ = _; unfold Bm.rep; simp [h2]
      subst h2
      go_enter Tryz.func22, Tryz.ntmps22
      go_wp2_with fail
      go_ret
      exact ⟨by rw [HE.out]; rfl, hB0⟩
    | true =>
      have HE : Hid (Bm.rep k d true = false) := by show _ = _; unfold Bm.rep; simp [h24]
      subst h2
      go_enter Tryz.func22, Tryz.ntmps22
      go_wp2_with fail
      go_ret
      exact ⟨by rw [HE.out]; rfl, hB0⟩
  · have h2b : (k == 2) = false := beq_eq_false_iff_ne.2 h2
    by_cases h4 : k = 4
    · by_cases h8 : d = 8
      · have HE : Hid (Bm.rep k d runs = true) := by show _ = _; unfold Bm.rep; simp [h4, h8]
        subst h4
        subst h8
        go_enter Tryz.func22, Tryz.ntmps22
        go_wp2_with fail
        go_ret
        exact ⟨by rw [HE.out]; rfl, hB0⟩
      · have HE : Hid (Bm.rep k d runs = false) := by show _ = _; unfold Bm.rep; simp [h4, h8]
        have h8b : (d == 8) = false := beq_eq_false_iff_ne.2 h8
        subst h4
        go_enter Tryz.func22, Tryz.ntmps22
        go_wp2_with fail
        go_ret
        exact ⟨by rw [HE.out]; rfl, hB0⟩
    · have HE : Hid (Bm.rep k d runs = false) := by show _ = _; unfold Bm.rep; simp [h4, h2]
      have h4b : (k == 4) = false := beq_eq_false_iff_ne.2 h4
      go_enter Tryz.func22, Tryz.ntmps22
      go_wp2_with fail
      go_ret
      exact ⟨by rw [HE.out]; rfl, hB0⟩

def Pn.sort (k d : Int) : Int := if k = 1 then (if d = 1 then 1 else 2) else if k = 2 then 3 else 0
set_option maxHeartbeats 1000000 in
theorem pnmSort_any (k d : Int) (w : World) : Calls Tryz.prog 70 #[.int .i64 k, .int .i64 d] w fun e w' => e = .returned (.int .i64 (Pn.sort k d)) ∧ w' = w := by
  by_cases h1 : k = 1
  · subst h1
    by_cases hd : d = 1
    · subst hd
      have HV : Hid (Pn.sort 1 1 = 1) := rfl
      go_enter Tryz.func70, Tryz.ntmps70
      go_wp2_with fail
      go_ret
      exact ⟨ret_int (by rw [HV.out]), rfl⟩
    · have f1 : (d == 1) = false := by rw [beq_eq_false_iff_ne]; exact hd
      have f2 : decide (d = 1) = false := by simpa using hd
      have HV : Hid (Pn.sort 1 d = 2) := by show _ = _; unfold Pn.sort; simp [hd]
      go_enter Tryz.func70, Tryz.ntmps70
      go_wp2_with fail
      go_ret
      exact ⟨ret_int (by rw [HV.out]), rfl⟩
  · by_cases h2 : k = 2
    · subst h2
      have HV : Hid (Pn.sort 2 d = 3) := by show _ = _; unfold Pn.sort; simp
      go_enter Tryz.func70, Tryz.ntmps70
      go_wp2_with fail
      go_ret
      exact ⟨ret_int (by rw [HV.out]), rfl⟩
    · have g1 : (k == 1) = false := by rw [beq_eq_false_iff_ne]; exact h1
      have g2 : (k == 2) = false := by rw [beq_eq_false_iff_ne]; exact h2
      have HV : Hid (Pn.sort k d = 0) := by show _ = _; unfold Pn.sort; simp [h1, h2]
      go_enter Tryz.func70, Tryz.ntmps70
      go_wp2_with fail
      go_ret
      exact ⟨ret_int (by rw [HV.out]), rfl⟩
set_option maxHeartbeats 1000000 in
theorem pnmHolds_any (k d wd hi : Int) (ca : Option Addr) (cn cc : Nat) (pa : Option Addr) (pn pc : Nat) (ok : Bool) (w : World)
    (hO : ∀ w', Below w.heap.size w w' → Calls Tryz.prog 28 #[.agg #[.int .i64 k, .int .i64 d, .int .i64 wd, .int .i64 hi, .slice ca cn cc, .slice pa pn pc]] w' fun e w'' => e = .returned (.bool ok) ∧ Below w'.heap.size w' w'') :
    Calls Tryz.prog 40 #[.agg #[.int .i64 k, .int .i64 d, .int .i64 wd, .int .i64 hi, .slice ca cn cc, .slice pa pn pc]] w fun e w' => e = .returned (.bool (ok && (Pn.sort k d != 0))) ∧ Below w.heap.size w w' := by
  have hB0 : Below w.heap.size w (w.alloc (.cells #[.int .i64 k, .int .i64 d, .int .i64 wd, .int .i64 hi, .slice ca cn cc, .slice pa pn pc] 31)) := (Below.refl _ _).alloc (Nat.le_refl _) _
  have A0 := bx_new w (.int .i64 k) (.int .i64 d) (.int .i64 wd) (.int .i64 hi) (.slice ca cn cc) (.slice pa pn pc) 31
  have HO : Hid (∀ w', Below w.heap.size w w' → Calls Tryz.prog 28 #[.agg #[.int .i64 k, .int .i64 d, .int .i64 wd, .int .i64 hi, .slice ca cn cc, .slice pa pn pc]] w' fun e w'' => e = .returned (.bool ok) ∧ Below w'.heap.size w' w'') := hO
  have HS : Hid (∀ w' : World, Calls Tryz.prog 70 #[.int .i64 k, .int .i64 d] w' fun e w'' => e = .returned (.int .i64 (Pn.sort k d)) ∧ w'' = w') := fun w' => pnmSort_any k d w'
  clear hO
  generalize Pn.sort k d = srt at *
  have HA : Hid (Bx (w.alloc (.cells #[.int .i64 k, .int .i64 d, .int .i64 wd, .int .i64 hi, .slice ca cn cc, .slice pa pn pc] 31)) w.heap.size (.int .i64 k) (.int .i64 d) (.int .i64 wd) (.int .i64 hi) (.slice ca cn cc) (.slice pa pn pc)) := A0
  clear A0
  go_enter Tryz.func40, Tryz.ntmps40
  go_wp2_with fail
  refine (HO.out _ hB0).mono ?_
  rintro e w1 ⟨rfl, b1⟩
  have bel1 := hB0.trans (b1.mono hB0.size)
  obtain ⟨_, a0, a1, a2, a3, a4, a5⟩ := HA.out.kept b1
  clear b1 hB0 HA HO
  cases ok with
  | false =>
    go_wp2_with fail
    go_ret
    exact ⟨rfl, bel1⟩
  | true =>
    go_wp2_with fail
    refine (HS.out _).mono ?_
    rintro e w2 ⟨rfl, rfl⟩
    go_wp2_with fail
    go_ret
    exact ⟨by simp, bel1⟩

def Pn.rep (k : Int) : Bool := decide (k = 1) || decide (k = 2)
set_option maxHeartbeats 1000000 in
theorem l12Rep_any (k d wd hi : Int) (ca : Option Addr) (cn cc : Nat) (pa : Option Addr) (pn pc : Nat) (w : World) :
    Calls Tryz.prog 24 #[.agg #[.int .i64 k, .int .i64 d, .int .i64 wd, .int .i64 hi, .slice ca cn cc, .slice pa pn pc]] w fun e w' => e = .returned (.bool (Pn.rep k)) ∧ Below w.heap.size w w' := by
  have hB0 : Below w.heap.size w (w.alloc (.cells #[.int .i64 k, .int .i64 d, .int .i64 wd, .int .i64 hi, .slice ca cn cc, .slice pa pn pc] 31)) := (Below.refl _ _).alloc (Nat.le_refl _) _
  obtain ⟨_, a0, a1, a2, a3, a4, a5⟩ := bx_new w (.int .i64 k) (.int .i64 d) (.int .i64 wd) (.int .i64 hi) (.slice ca cn cc) (.slice pa pn pc) 31
  by_cases h1 : k = 1
  · have HE : Hid (Pn.rep k = true) := by show _ = _; unfold Pn.rep; simp [h1]
    subst h1
    go_enter Tryz.func24, Tryz.ntmps24
    go_wp2_with fail
    go_ret
    exact ⟨by rw [HE.out]; rfl, hB0⟩
  · have g1 : (k == 1) = false := by rw [beq_eq_false_iff_ne]; exact h1
    by_cases h2 : k = 2
    · have HE : Hid (Pn.rep k = true) := by show _ = _; unfold Pn.rep; simp [h2]
      subst h2
      go_enter Tryz.func24, Tryz.ntmps24
      go_wp2_with fail
      go_ret
      exact ⟨by rw [HE.out]; rfl, hB0⟩
    · have HE : Hid (Pn.rep k = false) := by show _ = _; unfold Pn.rep; simp [h1, h2]
      have g2 : (k == 2) = false := by rw [beq_eq_false_iff_ne]; exact h2
      go_enter Tryz.func24, Tryz.ntmps24
      go_wp2_with fail
      go_ret
      exact ⟨by rw [HE.out]; rfl, hB0⟩
end Go.Proofs.YtjmeaeimpkijmaaGreatDoor
