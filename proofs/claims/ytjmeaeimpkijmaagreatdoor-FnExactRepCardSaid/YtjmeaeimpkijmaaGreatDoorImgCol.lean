/- The colours of a picture, as the program looks at them. -/
import Derived.Test.YtjmeaeimpkijmaaGreatDoorImgDef
import Derived.Deep.RegionHeld3
namespace Go.Proofs.YtjmeaeimpkijmaaGreatDoor
open Go.RowKit

set_option maxHeartbeats 400000 in
theorem sizeOk_any (z : Int) (w : World) :
    Calls Tryz.prog 56 #[.int .i64 z] w fun e w' => e = .returned (.bool (!beyB (z - 1) 19)) ∧ w' = w := by
  by_cases h1 : 1 ≤ z
  · have d1 : decide (1 ≤ z) = true := by simpa using h1
    by_cases h2 : z ≤ 20
    · have d2 : decide (z ≤ 20) = true := by simpa using h2
      have HB : Hid (beyB (z - 1) 19 = false) := beyB_no (by omega)
      go_enter Tryz.func56, Tryz.ntmps56
      go_wp2_with fail
      go_ret
      exact ⟨by rw [HB.out]; rfl, rfl⟩
    · have d2 : decide (z ≤ 20) = false := by simpa using h2
      have HB : Hid (beyB (z - 1) 19 = true) := beyB_yes (by omega)
      go_enter Tryz.func56, Tryz.ntmps56
      go_wp2_with fail
      go_ret
      exact ⟨by rw [HB.out]; rfl, rfl⟩
  · have d1 : decide (1 ≤ z) = false := by simpa using h1
    have HB : Hid (beyB (z - 1) 19 = true) := beyB_yes (by omega)
    go_enter Tryz.func56, Tryz.ntmps56
    go_wp2_with fail
    go_ret
    exact ⟨by rw [HB.out]; rfl, rfl⟩

set_option maxHeartbeats 1000000 in
theorem colorsOk_four (D : Nat) (wd hi : Int) (ca : Option Addr) (cn cc : Nat) (pa : Option Addr) (pn pc : Nat) (cs : List Int) (w : World) (h : Ints w ca cs) (hn : cs.length = cn) (hl : cn ≤ 1048576) (hD : D = 1 ∨ D = 2 ∨ D = 4 ∨ D = 8) :
    Calls Tryz.prog 57 #[.agg #[.int .i64 4, .int .i64 (D : Int), .int .i64 wd, .int .i64 hi, .slice ca cn cc, .slice pa pn pc]] w fun e w' => e = .returned (.bool (Im.colB 4 (D : Int) cs)) ∧ Below w.heap.size w w' := by
  have bel : Below w.heap.size w (w.alloc (.cells #[.int .i64 4, .int .i64 (D : Int), .int .i64 wd, .int .i64 hi, .slice ca cn cc, .slice pa pn pc] 31)) := (Below.refl _ _).alloc (Nat.le_refl _) _
  by_cases h1 : 1 ≤ cn
  · by_cases h2 : cn ≤ 2 ^ D
    · have HI : Hid (∀ w', Below w.heap.size w w' → Ints w' ca cs) := fun w' b => h.kept b
      have HN : Hid (cs.length = cn) := hn
      have HC : Hid (Im.colB 4 (D : Int) cs = withinB 16777215 cs) := by
        show _ = _
        by_cases g : Within 16777215 cs
        · rw [withinB_yes g]; exact Im.colB_yes ⟨fun e => absurd rfl e, fun _ => ⟨by omega, by rw [Int.toNat_natCast]; omega, g⟩⟩
        · rw [withinB_no g]; exact Im.colB_no (fun q => g (q.2 rfl).2.2)
      have HW : Hid (∀ w' : World, Ints w' ca cs → Calls Tryz.prog 58 #[.slice ca cn cc, .int .i64 16777215] w' fun e w'' => e = .returned (.bool (withinB 16777215 cs)) ∧ Below w'.heap.size w' w'') := fun w' hI => allWithin_any ca cn cc cs 16777215 w' hI HN.out (by omega)
      have d1 : decide ((1 : Int) ≤ (cn : Int)) = true := by simp; omega
      clear h hn
      generalize withinB 16777215 cs = bb at *
      rcases hD with rfl | rfl | rfl | rfl
      · have d2 : decide ((cn : Int) ≤ 2) = true := by simp; omega
        have d3 : decide ((cn : Int) ≤ IntKind.i64.wrap 2) = true := by rw [show IntKind.i64.wrap 2 = 2 from by decide]; exact d2
        go_enter Tryz.func57, Tryz.ntmps57
        go_wp2_with fail
        go_region_held3 (fun w' => w'.cell? ⟨w.heap.size, 4, none⟩ = some (.slice ca cn cc) ∧ w'.cell? ⟨w.heap.size, 1, none⟩ = some (.int .i64 1)) (go_keep) ((go_at_call 58; refine (HW.out _ (HI.out _ (((Below.refl _ _).alloc (Nat.le_refl _) _).drew))).mono ?_; rintro e w3 ⟨rfl, b3⟩; have k4 : w3.cell? ⟨w.heap.size, 4, none⟩ = some (.slice ca cn cc) := (b3.cell (p := ⟨w.heap.size, 4, none⟩) (by simp)).trans (by show (w.alloc _).cell? _ = _; rw [World.cell?_alloc_at _ _ _ _ rfl]; rfl); have k1 : w3.cell? ⟨w.heap.size, 1, none⟩ = some (.int .i64 1) := (b3.cell (p := ⟨w.heap.size, 1, none⟩) (by simp)).trans (by show (w.alloc _).cell? _ = _; rw [World.cell?_alloc_at _ _ _ _ rfl]; rfl)))
        all_goals
          have bel3 : Below w.heap.size w w3 := (((Below.refl w.heap.size w).alloc (Nat.le_refl _) _).drew).trans (b3.mono (by simp))
          clear b3
          go_wp2_with fail
          go_ret
          exact ⟨by rw [HC.out]; rfl, bel3⟩
      · have d2 : decide ((cn : Int) ≤ 4) = true := by simp; omega
        have d3 : decide ((cn : Int) ≤ IntKind.i64.wrap 4) = true := by rw [show IntKind.i64.wrap 4 = 4 from by decide]; exact d2
        go_enter Tryz.func57, Tryz.ntmps57
        go_wp2_with fail
        go_region_held3 (fun w' => w'.cell? ⟨w.heap.size, 4, none⟩ = some (.slice ca cn cc) ∧ w'.cell? ⟨w.heap.size, 1, none⟩ = some (.int .i64 2)) (go_keep) ((go_at_call 58; refine (HW.out _ (HI.out _ (((Below.refl _ _).alloc (Nat.le_refl _) _).drew))).mono ?_; rintro e w3 ⟨rfl, b3⟩; have k4 : w3.cell? ⟨w.heap.size, 4, none⟩ = some (.slice ca cn cc) := (b3.cell (p := ⟨w.heap.size, 4, none⟩) (by simp)).trans (by show (w.alloc _).cell? _ = _; rw [World.cell?_alloc_at _ _ _ _ rfl]; rfl); have k1 : w3.cell? ⟨w.heap.size, 1, none⟩ = some (.int .i64 2) := (b3.cell (p := ⟨w.heap.size, 1, none⟩) (by simp)).trans (by show (w.alloc _).cell? _ = _; rw [World.cell?_alloc_at _ _ _ _ rfl]; rfl)))
        all_goals
          have bel3 : Below w.heap.size w w3 := (((Below.refl w.heap.size w).alloc (Nat.le_refl _) _).drew).trans (b3.mono (by simp))
          clear b3
          go_wp2_with fail
          go_ret
          exact ⟨by rw [HC.out]; rfl, bel3⟩
      · have d2 : decide ((cn : Int) ≤ 16) = true := by simp; omega
        have d3 : decide ((cn : Int) ≤ IntKind.i64.wrap 16) = true := by rw [show IntKind.i64.wrap 16 = 16 from by decide]; exact d2
        go_enter Tryz.func57, Tryz.ntmps57
        go_wp2_with fail
        go_region_held3 (fun w' => w'.cell? ⟨w.heap.size, 4, none⟩ = some (.slice ca cn cc) ∧ w'.cell? ⟨w.heap.size, 1, none⟩ = some (.int .i64 4)) (go_keep) ((go_at_call 58; refine (HW.out _ (HI.out _ (((Below.refl _ _).alloc (Nat.le_refl _) _).drew))).mono ?_; rintro e w3 ⟨rfl, b3⟩; have k4 : w3.cell? ⟨w.heap.size, 4, none⟩ = some (.slice ca cn cc) := (b3.cell (p := ⟨w.heap.size, 4, none⟩) (by simp)).trans (by show (w.alloc _).cell? _ = _; rw [World.cell?_alloc_at _ _ _ _ rfl]; rfl); have k1 : w3.cell? ⟨w.heap.size, 1, none⟩ = some (.int .i64 4) := (b3.cell (p := ⟨w.heap.size, 1, none⟩) (by simp)).trans (by show (w.alloc _).cell? _ = _; rw [World.cell?_alloc_at _ _ _ _ rfl]; rfl)))
        all_goals
          have bel3 : Below w.heap.size w w3 := (((Below.refl w.heap.size w).alloc (Nat.le_refl _) _).drew).trans (b3.mono (by simp))
          clear b3
          go_wp2_with fail
          go_ret
          exact ⟨by rw [HC.out]; rfl, bel3⟩
      · have d2 : decide ((cn : Int) ≤ 256) = true := by simp; omega
        have d3 : decide ((cn : Int) ≤ IntKind.i64.wrap 256) = true := by rw [show IntKind.i64.wrap 256 = 256 from by decide]; exact d2
        go_enter Tryz.func57, Tryz.ntmps57
        go_wp2_with fail
        go_region_held3 (fun w' => w'.cell? ⟨w.heap.size, 4, none⟩ = some (.slice ca cn cc) ∧ w'.cell? ⟨w.heap.size, 1, none⟩ = some (.int .i64 8)) (go_keep) ((go_at_call 58; refine (HW.out _ (HI.out _ (((Below.refl _ _).alloc (Nat.le_refl _) _).drew))).mono ?_; rintro e w3 ⟨rfl, b3⟩; have k4 : w3.cell? ⟨w.heap.size, 4, none⟩ = some (.slice ca cn cc) := (b3.cell (p := ⟨w.heap.size, 4, none⟩) (by simp)).trans (by show (w.alloc _).cell? _ = _; rw [World.cell?_alloc_at _ _ _ _ rfl]; rfl); have k1 : w3.cell? ⟨w.heap.size, 1, none⟩ = some (.int .i64 8) := (b3.cell (p := ⟨w.heap.size, 1, none⟩) (by simp)).trans (by show (w.alloc _).cell? _ = _; rw [World.cell?_alloc_at _ _ _ _ rfl]; rfl)))
        all_goals
          have bel3 : Below w.heap.size w w3 := (((Below.refl w.heap.size w).alloc (Nat.le_refl _) _).drew).trans (b3.mono (by simp))
          clear b3
          go_wp2_with fail
          go_ret
          exact ⟨by rw [HC.out]; rfl, bel3⟩
    · have HC : Hid (Im.colB 4 (D : Int) cs = false) := Im.colB_no (fun g => h2 (by have := (g.2 rfl).2.1; rw [Int.toNat_natCast] at this; omega))
      have d1 : decide ((1 : Int) ≤ (cn : Int)) = true := by simp; omega
      rcases hD with rfl | rfl | rfl | rfl
      · have d2 : decide ((cn : Int) ≤ 2) = false := by simp; omega
        go_enter Tryz.func57, Tryz.ntmps57
        go_wp2_with fail
        go_quiet (fail)
        go_wp2_with fail
        go_ret
        exact ⟨by rw [HC.out]; rfl, below_drewN bel _⟩
      · have d2 : decide ((cn : Int) ≤ 4) = false := by simp; omega
        go_enter Tryz.func57, Tryz.ntmps57
        go_wp2_with fail
        go_quiet (fail)
        go_wp2_with fail
        go_ret
        exact ⟨by rw [HC.out]; rfl, below_drewN bel _⟩
      · have d2 : decide ((cn : Int) ≤ 16) = false := by simp; omega
        go_enter Tryz.func57, Tryz.ntmps57
        go_wp2_with fail
        go_quiet (fail)
        go_wp2_with fail
        go_ret
        exact ⟨by rw [HC.out]; rfl, below_drewN bel _⟩
      · have d2 : decide ((cn : Int) ≤ 256) = false := by simp; omega
        go_enter Tryz.func57, Tryz.ntmps57
        go_wp2_with fail
        go_quiet (fail)
        go_wp2_with fail
        go_ret
        exact ⟨by rw [HC.out]; rfl, below_drewN bel _⟩
  · have HC : Hid (Im.colB 4 (D : Int) cs = false) := Im.colB_no (fun g => h1 (by have := (g.2 rfl).1; omega))
    have d1 : decide ((1 : Int) ≤ (cn : Int)) = false := by simp; omega
    go_enter Tryz.func57, Tryz.ntmps57
    go_wp2_with fail
    go_quiet (fail)
    go_wp2_with fail
    go_ret
    exact ⟨by rw [HC.out]; rfl, below_drewN bel _⟩
end Go.Proofs.YtjmeaeimpkijmaaGreatDoor
