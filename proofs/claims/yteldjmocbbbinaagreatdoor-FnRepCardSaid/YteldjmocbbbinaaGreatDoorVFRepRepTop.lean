/- Rep: both sides. -/
import Derived.Test.YteldjmocbbbinaaGreatDoorKFRepx0
import Derived.Test.YteldjmocbbbinaaGreatDoorVFRepRepGif
namespace Go.Proofs.YteldjmocbbbinaaGreatDoor
open Go.RowKit

def holdB (h : Nat) (k d : Int) (cn : Nat) : Bool := if h = 0 then true else if h = 1 then Gf.rep k d cn else if h = 2 then Bm.hold k d else if h = 3 then (Tg.sort k d != 0) else (Pn.sort k d != 0)
def repB (n k d : Int) (cn : Nat) : Bool := if 1 ≤ n ∧ n ≤ 5 then holdB (n.toNat - 1) k d cn else false
theorem hold_any (k d wd hi : Int) (ca : Option Addr) (cn cc : Nat) (pa : Option Addr) (pn pc : Nat) (ok : Bool) (hd : ok = true → k = 4 → d = 1 ∨ d = 2 ∨ d = 4 ∨ d = 8) (w : World)
    (hO : (∀ w', Below w.heap.size w w' → Calls Tryz.prog 7 #[.agg #[.int .i64 k, .int .i64 d, .int .i64 wd, .int .i64 hi, .slice ca cn cc, .slice pa pn pc]] w' fun e w'' => e = .returned (.bool ok) ∧ Below w'.heap.size w' w'')) (h : Nat) (hh : h < 5) (w' : World) (b : Below w.heap.size w w') :
    Calls Tryz.prog (fmtHolds h) #[.agg #[.int .i64 k, .int .i64 d, .int .i64 wd, .int .i64 hi, .slice ca cn cc, .slice pa pn pc]] w' fun e w'' => e = .returned (.bool (ok && holdB h k d cn)) ∧ Below w'.heap.size w' w'' := by
  have hO' : ∀ u, Below w'.heap.size w' u → Calls Tryz.prog 7 #[.agg #[.int .i64 k, .int .i64 d, .int .i64 wd, .int .i64 hi, .slice ca cn cc, .slice pa pn pc]] u fun e w'' => e = .returned (.bool ok) ∧ Below u.heap.size u w'' := fun u b2 => hO u (b.trans (b2.mono b.size))
  rcases (by omega : h = 0 ∨ h = 1 ∨ h = 2 ∨ h = 3 ∨ h = 4) with rfl | rfl | rfl | rfl | rfl
  · have e : (ok && holdB 0 k d cn) = ok := by show (ok && true) = ok; rw [Bool.and_true]
    rw [e]; exact hO' w' (Below.refl _ _)
  · exact gifHolds_any k d wd hi ca cn cc pa pn pc ok hd w' hO'
  · exact bmpHolds_any k d wd hi ca cn cc pa pn pc ok w' hO'
  · exact tgaHolds_any k d wd hi ca cn cc pa pn pc ok w' hO'
  · exact pnmHolds_any k d wd hi ca cn cc pa pn pc ok w' hO'
set_option maxHeartbeats 4000000 in
set_option maxRecDepth 20000 in
theorem impl_rep (n : Int) (k d wd hi : Int) (ca : Option Addr) (cn cc : Nat) (pa : Option Addr) (pn pc : Nat) (ok : Bool) (hd : ok = true → k = 4 → d = 1 ∨ d = 2 ∨ d = 4 ∨ d = 8) (w : World)
    (hO : (∀ w', Below w.heap.size w w' → Calls Tryz.prog 7 #[.agg #[.int .i64 k, .int .i64 d, .int .i64 wd, .int .i64 hi, .slice ca cn cc, .slice pa pn pc]] w' fun e w'' => e = .returned (.bool ok) ∧ Below w'.heap.size w' w'')) :
    Calls Tryz.prog 5 #[.int .i64 n, .agg #[.int .i64 k, .int .i64 d, .int .i64 wd, .int .i64 hi, .slice ca cn cc, .slice pa pn pc]] w fun e w' => e = .returned (.bool (ok && repB n k d cn)) ∧ Below w.heap.size w w' := by
  have HFO : Hid (∀ w, Calls Tryz.prog 14 #[.int .i64 n] w (FoEnd n w)) := formatOf_any n
  have HH : Hid (∀ h, h < 5 → ∀ w', Below w.heap.size w w' → Calls Tryz.prog (fmtHolds h) #[.agg #[.int .i64 k, .int .i64 d, .int .i64 wd, .int .i64 hi, .slice ca cn cc, .slice pa pn pc]] w' fun e w'' => e = .returned (.bool (ok && holdB h k d cn)) ∧ Below w'.heap.size w' w'') := hold_any k d wd hi ca cn cc pa pn pc ok hd w hO
  have HB0 : Hid (Below w.heap.size w (w.alloc (.cells #[.int .i64 k, .int .i64 d, .int .i64 wd, .int .i64 hi, .slice ca cn cc, .slice pa pn pc] 25)) ∧ Bx (w.alloc (.cells #[.int .i64 k, .int .i64 d, .int .i64 wd, .int .i64 hi, .slice ca cn cc, .slice pa pn pc] 25)) w.heap.size (.int .i64 k) (.int .i64 d) (.int .i64 wd) (.int .i64 hi) (.slice ca cn cc) (.slice pa pn pc)) := ⟨(Below.refl _ _).alloc (Nat.le_refl _) _, bx_new w _ _ _ _ _ _ 25⟩
  clear hO hd
  obtain ⟨r, hr⟩ : ∃ r, r = (ok && repB n k d cn) := ⟨_, rfl⟩
  have HR : Hid (r = (ok && repB n k d cn)) := hr
  rw [← hr]
  clear hr
  go_enter Tryz.func5, Tryz.ntmps5
  go_wp2_with fail
  refine (HFO.out _).mono ?_
  rintro e w1 ⟨⟨v, okf, rfl, hv⟩, b1⟩
  have HB1 : Hid (Below w.heap.size w w1 ∧ Bx w1 w.heap.size (.int .i64 k) (.int .i64 d) (.int .i64 wd) (.int .i64 hi) (.slice ca cn cc) (.slice pa pn pc)) := ⟨HB0.out.1.trans (b1.mono HB0.out.1.size), HB0.out.2.kept b1⟩
  clear b1 HB0 HFO
  rcases hv with ⟨h1, h5, rfl, nm, bx, rfl⟩ | ⟨hn, rfl, rfl⟩
  · have hp : n.toNat - 1 < 5 := by omega
    have HQ : Hid (r = (ok && holdB (n.toNat - 1) k d cn)) := by have h := HR.out; unfold repB at h; rw [if_pos ⟨h1, h5⟩] at h; exact h
    have HH1 : Hid (∀ w', Below w.heap.size w w' → Calls Tryz.prog (fmtHolds (n.toNat - 1)) #[.agg #[.int .i64 k, .int .i64 d, .int .i64 wd, .int .i64 hi, .slice ca cn cc, .slice pa pn pc]] w' fun e w'' => e = .returned (.bool (ok && holdB (n.toNat - 1) k d cn)) ∧ Below w'.heap.size w' w'') := HH.out _ hp
    rw [← HQ.out] at HH1
    have hfc : fmtHolds (n.toNat - 1) = 7 ∨ fmtHolds (n.toNat - 1) = 45 ∨ fmtHolds (n.toNat - 1) = 48 ∨ fmtHolds (n.toNat - 1) = 51 ∨ fmtHolds (n.toNat - 1) = 54 := by
      rcases (by omega : n.toNat - 1 = 0 ∨ n.toNat - 1 = 1 ∨ n.toNat - 1 = 2 ∨ n.toNat - 1 = 3 ∨ n.toNat - 1 = 4) with e | e | e | e | e <;> rw [e] <;> simp [fmtHolds]
    clear HR HQ HH h1 h5 hp
    generalize fmtWays (n.toNat - 1) = wy at *
    generalize fmtHolds (n.toNat - 1) = hf at *
    generalize fmtPut (n.toNat - 1) = pf at *
    generalize fmtGet (n.toNat - 1) = gf at *
    rcases hfc with rfl | rfl | rfl | rfl | rfl
    · have hg : (w1.alloc (.cells #[.int .i64 0, .string ⟨#[]⟩, .int .i64 0, .nilFunc, .nilFunc, .nilFunc, .nilFunc] 41)).heap[w1.heap.size]? = some (.cells #[.int .i64 0, .string ⟨#[]⟩, .int .i64 0, .nilFunc, .nilFunc, .nilFunc, .nilFunc] 41 (0, 0)) := heap_alloc_new _ _
      have hs := setRow_heap _ _ _ #[.int .i64 n, .string nm, .int .i64 wy, .func (.func 62) #[] #[.pointer (some ⟨bx, 0, none⟩)], .func (.func 7) #[] #[], .func (.func pf) #[] #[], .func (.func gf) #[] #[]] _ _ hg
      have k4 : ((w1.alloc (.cells #[.int .i64 0, .string ⟨#[]⟩, .int .i64 0, .nilFunc, .nilFunc, .nilFunc, .nilFunc] 41)).setRow w1.heap.size #[.int .i64 n, .string nm, .int .i64 wy, .func (.func 62) #[] #[.pointer (some ⟨bx, 0, none⟩)], .func (.func 7) #[] #[], .func (.func pf) #[] #[], .func (.func gf) #[] #[]]).cell? ⟨w1.heap.size, 4, none⟩ = some (.func (.func 7) #[] #[]) := by simp only [World.cell?, hs]; rfl
      have hI7 : (Tryz.prog.info? 41).map (·.size) = some (#[Value.int .i64 n, .string nm, .int .i64 wy, .func (.func 62) #[] #[.pointer (some ⟨bx, 0, none⟩)], .func (.func 7) #[] #[], .func (.func pf) #[] #[], .func (.func gf) #[] #[]]).size := by kernel_rfl
      have h17 : (#[Value.int .i64 n, .string nm, .int .i64 wy, .func (.func 62) #[] #[.pointer (some ⟨bx, 0, none⟩)], .func (.func 7) #[] #[], .func (.func pf) #[] #[], .func (.func gf) #[] #[]]).all (·.oneCell') = true := by simp [Value.oneCell']
      have bV : Below w1.heap.size w1 ((w1.alloc (.cells #[.int .i64 0, .string ⟨#[]⟩, .int .i64 0, .nilFunc, .nilFunc, .nilFunc, .nilFunc] 41)).setRow w1.heap.size #[.int .i64 n, .string nm, .int .i64 wy, .func (.func 62) #[] #[.pointer (some ⟨bx, 0, none⟩)], .func (.func 7) #[] #[], .func (.func pf) #[] #[], .func (.func gf) #[] #[]]) := by
        have b2 : Below w1.heap.size w1 (w1.alloc (.cells #[.int .i64 0, .string ⟨#[]⟩, .int .i64 0, .nilFunc, .nilFunc, .nilFunc, .nilFunc] 41)) := (Below.refl _ _).alloc (Nat.le_refl _) _
        exact b2.trans ⟨rfl, rfl, rfl, by simp, fun i hi => setRow_other _ w1.heap.size i _ (by omega)⟩
      have HBV : Hid (Below w.heap.size w ((w1.alloc (.cells #[.int .i64 0, .string ⟨#[]⟩, .int .i64 0, .nilFunc, .nilFunc, .nilFunc, .nilFunc] 41)).setRow w1.heap.size #[.int .i64 n, .string nm, .int .i64 wy, .func (.func 62) #[] #[.pointer (some ⟨bx, 0, none⟩)], .func (.func 7) #[] #[], .func (.func pf) #[] #[], .func (.func gf) #[] #[]])) := HB1.out.1.trans (bV.mono HB1.out.1.size)
      obtain ⟨_, c0, c1, c2, c3, c4, c5⟩ := HB1.out.2.kept bV
      have HC := HH1.out _ HBV.out
      have HCH : Hid (Calls Tryz.prog 7 #[.agg #[.int .i64 k, .int .i64 d, .int .i64 wd, .int .i64 hi, .slice ca cn cc, .slice pa pn pc]] ((w1.alloc (.cells #[.int .i64 0, .string ⟨#[]⟩, .int .i64 0, .nilFunc, .nilFunc, .nilFunc, .nilFunc] 41)).setRow w1.heap.size #[.int .i64 n, .string nm, .int .i64 wy, .func (.func 62) #[] #[.pointer (some ⟨bx, 0, none⟩)], .func (.func 7) #[] #[], .func (.func pf) #[] #[], .func (.func gf) #[] #[]]) fun e w'' => e = .returned (.bool r) ∧ Below ((w1.alloc (.cells #[.int .i64 0, .string ⟨#[]⟩, .int .i64 0, .nilFunc, .nilFunc, .nilFunc, .nilFunc] 41)).setRow w1.heap.size #[.int .i64 n, .string nm, .int .i64 wy, .func (.func 62) #[] #[.pointer (some ⟨bx, 0, none⟩)], .func (.func 7) #[] #[], .func (.func pf) #[] #[], .func (.func gf) #[] #[]]).heap.size ((w1.alloc (.cells #[.int .i64 0, .string ⟨#[]⟩, .int .i64 0, .nilFunc, .nilFunc, .nilFunc, .nilFunc] 41)).setRow w1.heap.size #[.int .i64 n, .string nm, .int .i64 wy, .func (.func 62) #[] #[.pointer (some ⟨bx, 0, none⟩)], .func (.func 7) #[] #[], .func (.func pf) #[] #[], .func (.func gf) #[] #[]]) w'') := HC
      clear hs bV HC HH1
      go_wp2_with (refine wpList_store_row rfl 41 (.tmp 5) (.tmp 10) rfl w1.heap.size #[.int .i64 n, .string nm, .int .i64 wy, .func (.func 62) #[] #[.pointer (some ⟨bx, 0, none⟩)], .func (.func 7) #[] #[], .func (.func pf) #[] #[], .func (.func gf) #[] #[]] rfl rfl 41 #[.int .i64 0, .string ⟨#[]⟩, .int .i64 0, .nilFunc, .nilFunc, .nilFunc, .nilFunc] hg hI7 rfl h17 ?_)
      refine HCH.out.mono ?_
      rintro e w2 ⟨rfl, b2⟩
      have HB2 : Hid (Below w.heap.size w w2) := HBV.out.trans (b2.mono HBV.out.size)
      clear b2 HCH HBV k4 c0 c1 c2 c3 c4 c5 hg
      go_wp2_with fail
      go_ret
      exact ⟨rfl, HB2.out⟩
    · have hg : (w1.alloc (.cells #[.int .i64 0, .string ⟨#[]⟩, .int .i64 0, .nilFunc, .nilFunc, .nilFunc, .nilFunc] 41)).heap[w1.heap.size]? = some (.cells #[.int .i64 0, .string ⟨#[]⟩, .int .i64 0, .nilFunc, .nilFunc, .nilFunc, .nilFunc] 41 (0, 0)) := heap_alloc_new _ _
      have hs := setRow_heap _ _ _ #[.int .i64 n, .string nm, .int .i64 wy, .func (.func 62) #[] #[.pointer (some ⟨bx, 0, none⟩)], .func (.func 45) #[] #[], .func (.func pf) #[] #[], .func (.func gf) #[] #[]] _ _ hg
      have k4 : ((w1.alloc (.cells #[.int .i64 0, .string ⟨#[]⟩, .int .i64 0, .nilFunc, .nilFunc, .nilFunc, .nilFunc] 41)).setRow w1.heap.size #[.int .i64 n, .string nm, .int .i64 wy, .func (.func 62) #[] #[.pointer (some ⟨bx, 0, none⟩)], .func (.func 45) #[] #[], .func (.func pf) #[] #[], .func (.func gf) #[] #[]]).cell? ⟨w1.heap.size, 4, none⟩ = some (.func (.func 45) #[] #[]) := by simp only [World.cell?, hs]; rfl
      have hI7 : (Tryz.prog.info? 41).map (·.size) = some (#[Value.int .i64 n, .string nm, .int .i64 wy, .func (.func 62) #[] #[.pointer (some ⟨bx, 0, none⟩)], .func (.func 45) #[] #[], .func (.func pf) #[] #[], .func (.func gf) #[] #[]]).size := by kernel_rfl
      have h17 : (#[Value.int .i64 n, .string nm, .int .i64 wy, .func (.func 62) #[] #[.pointer (some ⟨bx, 0, none⟩)], .func (.func 45) #[] #[], .func (.func pf) #[] #[], .func (.func gf) #[] #[]]).all (·.oneCell') = true := by simp [Value.oneCell']
      have bV : Below w1.heap.size w1 ((w1.alloc (.cells #[.int .i64 0, .string ⟨#[]⟩, .int .i64 0, .nilFunc, .nilFunc, .nilFunc, .nilFunc] 41)).setRow w1.heap.size #[.int .i64 n, .string nm, .int .i64 wy, .func (.func 62) #[] #[.pointer (some ⟨bx, 0, none⟩)], .func (.func 45) #[] #[], .func (.func pf) #[] #[], .func (.func gf) #[] #[]]) := by
        have b2 : Below w1.heap.size w1 (w1.alloc (.cells #[.int .i64 0, .string ⟨#[]⟩, .int .i64 0, .nilFunc, .nilFunc, .nilFunc, .nilFunc] 41)) := (Below.refl _ _).alloc (Nat.le_refl _) _
        exact b2.trans ⟨rfl, rfl, rfl, by simp, fun i hi => setRow_other _ w1.heap.size i _ (by omega)⟩
      have HBV : Hid (Below w.heap.size w ((w1.alloc (.cells #[.int .i64 0, .string ⟨#[]⟩, .int .i64 0, .nilFunc, .nilFunc, .nilFunc, .nilFunc] 41)).setRow w1.heap.size #[.int .i64 n, .string nm, .int .i64 wy, .func (.func 62) #[] #[.pointer (some ⟨bx, 0, none⟩)], .func (.func 45) #[] #[], .func (.func pf) #[] #[], .func (.func gf) #[] #[]])) := HB1.out.1.trans (bV.mono HB1.out.1.size)
      obtain ⟨_, c0, c1, c2, c3, c4, c5⟩ := HB1.out.2.kept bV
      have HC := HH1.out _ HBV.out
      have HCH : Hid (Calls Tryz.prog 45 #[.agg #[.int .i64 k, .int .i64 d, .int .i64 wd, .int .i64 hi, .slice ca cn cc, .slice pa pn pc]] ((w1.alloc (.cells #[.int .i64 0, .string ⟨#[]⟩, .int .i64 0, .nilFunc, .nilFunc, .nilFunc, .nilFunc] 41)).setRow w1.heap.size #[.int .i64 n, .string nm, .int .i64 wy, .func (.func 62) #[] #[.pointer (some ⟨bx, 0, none⟩)], .func (.func 45) #[] #[], .func (.func pf) #[] #[], .func (.func gf) #[] #[]]) fun e w'' => e = .returned (.bool r) ∧ Below ((w1.alloc (.cells #[.int .i64 0, .string ⟨#[]⟩, .int .i64 0, .nilFunc, .nilFunc, .nilFunc, .nilFunc] 41)).setRow w1.heap.size #[.int .i64 n, .string nm, .int .i64 wy, .func (.func 62) #[] #[.pointer (some ⟨bx, 0, none⟩)], .func (.func 45) #[] #[], .func (.func pf) #[] #[], .func (.func gf) #[] #[]]).heap.size ((w1.alloc (.cells #[.int .i64 0, .string ⟨#[]⟩, .int .i64 0, .nilFunc, .nilFunc, .nilFunc, .nilFunc] 41)).setRow w1.heap.size #[.int .i64 n, .string nm, .int .i64 wy, .func (.func 62) #[] #[.pointer (some ⟨bx, 0, none⟩)], .func (.func 45) #[] #[], .func (.func pf) #[] #[], .func (.func gf) #[] #[]]) w'') := HC
      clear hs bV HC HH1
      go_wp2_with (refine wpList_store_row rfl 41 (.tmp 5) (.tmp 10) rfl w1.heap.size #[.int .i64 n, .string nm, .int .i64 wy, .func (.func 62) #[] #[.pointer (some ⟨bx, 0, none⟩)], .func (.func 45) #[] #[], .func (.func pf) #[] #[], .func (.func gf) #[] #[]] rfl rfl 41 #[.int .i64 0, .string ⟨#[]⟩, .int .i64 0, .nilFunc, .nilFunc, .nilFunc, .nilFunc] hg hI7 rfl h17 ?_)
      refine HCH.out.mono ?_
      rintro e w2 ⟨rfl, b2⟩
      have HB2 : Hid (Below w.heap.size w w2) := HBV.out.trans (b2.mono HBV.out.size)
      clear b2 HCH HBV k4 c0 c1 c2 c3 c4 c5 hg
      go_wp2_with fail
      go_ret
      exact ⟨rfl, HB2.out⟩
    · have hg : (w1.alloc (.cells #[.int .i64 0, .string ⟨#[]⟩, .int .i64 0, .nilFunc, .nilFunc, .nilFunc, .nilFunc] 41)).heap[w1.heap.size]? = some (.cells #[.int .i64 0, .string ⟨#[]⟩, .int .i64 0, .nilFunc, .nilFunc, .nilFunc, .nilFunc] 41 (0, 0)) := heap_alloc_new _ _
      have hs := setRow_heap _ _ _ #[.int .i64 n, .string nm, .int .i64 wy, .func (.func 62) #[] #[.pointer (some ⟨bx, 0, none⟩)], .func (.func 48) #[] #[], .func (.func pf) #[] #[], .func (.func gf) #[] #[]] _ _ hg
      have k4 : ((w1.alloc (.cells #[.int .i64 0, .string ⟨#[]⟩, .int .i64 0, .nilFunc, .nilFunc, .nilFunc, .nilFunc] 41)).setRow w1.heap.size #[.int .i64 n, .string nm, .int .i64 wy, .func (.func 62) #[] #[.pointer (some ⟨bx, 0, none⟩)], .func (.func 48) #[] #[], .func (.func pf) #[] #[], .func (.func gf) #[] #[]]).cell? ⟨w1.heap.size, 4, none⟩ = some (.func (.func 48) #[] #[]) := by simp only [World.cell?, hs]; rfl
      have hI7 : (Tryz.prog.info? 41).map (·.size) = some (#[Value.int .i64 n, .string nm, .int .i64 wy, .func (.func 62) #[] #[.pointer (some ⟨bx, 0, none⟩)], .func (.func 48) #[] #[], .func (.func pf) #[] #[], .func (.func gf) #[] #[]]).size := by kernel_rfl
      have h17 : (#[Value.int .i64 n, .string nm, .int .i64 wy, .func (.func 62) #[] #[.pointer (some ⟨bx, 0, none⟩)], .func (.func 48) #[] #[], .func (.func pf) #[] #[], .func (.func gf) #[] #[]]).all (·.oneCell') = true := by simp [Value.oneCell']
      have bV : Below w1.heap.size w1 ((w1.alloc (.cells #[.int .i64 0, .string ⟨#[]⟩, .int .i64 0, .nilFunc, .nilFunc, .nilFunc, .nilFunc] 41)).setRow w1.heap.size #[.int .i64 n, .string nm, .int .i64 wy, .func (.func 62) #[] #[.pointer (some ⟨bx, 0, none⟩)], .func (.func 48) #[] #[], .func (.func pf) #[] #[], .func (.func gf) #[] #[]]) := by
        have b2 : Below w1.heap.size w1 (w1.alloc (.cells #[.int .i64 0, .string ⟨#[]⟩, .int .i64 0, .nilFunc, .nilFunc, .nilFunc, .nilFunc] 41)) := (Below.refl _ _).alloc (Nat.le_refl _) _
        exact b2.trans ⟨rfl, rfl, rfl, by simp, fun i hi => setRow_other _ w1.heap.size i _ (by omega)⟩
      have HBV : Hid (Below w.heap.size w ((w1.alloc (.cells #[.int .i64 0, .string ⟨#[]⟩, .int .i64 0, .nilFunc, .nilFunc, .nilFunc, .nilFunc] 41)).setRow w1.heap.size #[.int .i64 n, .string nm, .int .i64 wy, .func (.func 62) #[] #[.pointer (some ⟨bx, 0, none⟩)], .func (.func 48) #[] #[], .func (.func pf) #[] #[], .func (.func gf) #[] #[]])) := HB1.out.1.trans (bV.mono HB1.out.1.size)
      obtain ⟨_, c0, c1, c2, c3, c4, c5⟩ := HB1.out.2.kept bV
      have HC := HH1.out _ HBV.out
      have HCH : Hid (Calls Tryz.prog 48 #[.agg #[.int .i64 k, .int .i64 d, .int .i64 wd, .int .i64 hi, .slice ca cn cc, .slice pa pn pc]] ((w1.alloc (.cells #[.int .i64 0, .string ⟨#[]⟩, .int .i64 0, .nilFunc, .nilFunc, .nilFunc, .nilFunc] 41)).setRow w1.heap.size #[.int .i64 n, .string nm, .int .i64 wy, .func (.func 62) #[] #[.pointer (some ⟨bx, 0, none⟩)], .func (.func 48) #[] #[], .func (.func pf) #[] #[], .func (.func gf) #[] #[]]) fun e w'' => e = .returned (.bool r) ∧ Below ((w1.alloc (.cells #[.int .i64 0, .string ⟨#[]⟩, .int .i64 0, .nilFunc, .nilFunc, .nilFunc, .nilFunc] 41)).setRow w1.heap.size #[.int .i64 n, .string nm, .int .i64 wy, .func (.func 62) #[] #[.pointer (some ⟨bx, 0, none⟩)], .func (.func 48) #[] #[], .func (.func pf) #[] #[], .func (.func gf) #[] #[]]).heap.size ((w1.alloc (.cells #[.int .i64 0, .string ⟨#[]⟩, .int .i64 0, .nilFunc, .nilFunc, .nilFunc, .nilFunc] 41)).setRow w1.heap.size #[.int .i64 n, .string nm, .int .i64 wy, .func (.func 62) #[] #[.pointer (some ⟨bx, 0, none⟩)], .func (.func 48) #[] #[], .func (.func pf) #[] #[], .func (.func gf) #[] #[]]) w'') := HC
      clear hs bV HC HH1
      go_wp2_with (refine wpList_store_row rfl 41 (.tmp 5) (.tmp 10) rfl w1.heap.size #[.int .i64 n, .string nm, .int .i64 wy, .func (.func 62) #[] #[.pointer (some ⟨bx, 0, none⟩)], .func (.func 48) #[] #[], .func (.func pf) #[] #[], .func (.func gf) #[] #[]] rfl rfl 41 #[.int .i64 0, .string ⟨#[]⟩, .int .i64 0, .nilFunc, .nilFunc, .nilFunc, .nilFunc] hg hI7 rfl h17 ?_)
      refine HCH.out.mono ?_
      rintro e w2 ⟨rfl, b2⟩
      have HB2 : Hid (Below w.heap.size w w2) := HBV.out.trans (b2.mono HBV.out.size)
      clear b2 HCH HBV k4 c0 c1 c2 c3 c4 c5 hg
      go_wp2_with fail
      go_ret
      exact ⟨rfl, HB2.out⟩
    · have hg : (w1.alloc (.cells #[.int .i64 0, .string ⟨#[]⟩, .int .i64 0, .nilFunc, .nilFunc, .nilFunc, .nilFunc] 41)).heap[w1.heap.size]? = some (.cells #[.int .i64 0, .string ⟨#[]⟩, .int .i64 0, .nilFunc, .nilFunc, .nilFunc, .nilFunc] 41 (0, 0)) := heap_alloc_new _ _
      have hs := setRow_heap _ _ _ #[.int .i64 n, .string nm, .int .i64 wy, .func (.func 62) #[] #[.pointer (some ⟨bx, 0, none⟩)], .func (.func 51) #[] #[], .func (.func pf) #[] #[], .func (.func gf) #[] #[]] _ _ hg
      have k4 : ((w1.alloc (.cells #[.int .i64 0, .string ⟨#[]⟩, .int .i64 0, .nilFunc, .nilFunc, .nilFunc, .nilFunc] 41)).setRow w1.heap.size #[.int .i64 n, .string nm, .int .i64 wy, .func (.func 62) #[] #[.pointer (some ⟨bx, 0, none⟩)], .func (.func 51) #[] #[], .func (.func pf) #[] #[], .func (.func gf) #[] #[]]).cell? ⟨w1.heap.size, 4, none⟩ = some (.func (.func 51) #[] #[]) := by simp only [World.cell?, hs]; rfl
      have hI7 : (Tryz.prog.info? 41).map (·.size) = some (#[Value.int .i64 n, .string nm, .int .i64 wy, .func (.func 62) #[] #[.pointer (some ⟨bx, 0, none⟩)], .func (.func 51) #[] #[], .func (.func pf) #[] #[], .func (.func gf) #[] #[]]).size := by kernel_rfl
      have h17 : (#[Value.int .i64 n, .string nm, .int .i64 wy, .func (.func 62) #[] #[.pointer (some ⟨bx, 0, none⟩)], .func (.func 51) #[] #[], .func (.func pf) #[] #[], .func (.func gf) #[] #[]]).all (·.oneCell') = true := by simp [Value.oneCell']
      have bV : Below w1.heap.size w1 ((w1.alloc (.cells #[.int .i64 0, .string ⟨#[]⟩, .int .i64 0, .nilFunc, .nilFunc, .nilFunc, .nilFunc] 41)).setRow w1.heap.size #[.int .i64 n, .string nm, .int .i64 wy, .func (.func 62) #[] #[.pointer (some ⟨bx, 0, none⟩)], .func (.func 51) #[] #[], .func (.func pf) #[] #[], .func (.func gf) #[] #[]]) := by
        have b2 : Below w1.heap.size w1 (w1.alloc (.cells #[.int .i64 0, .string ⟨#[]⟩, .int .i64 0, .nilFunc, .nilFunc, .nilFunc, .nilFunc] 41)) := (Below.refl _ _).alloc (Nat.le_refl _) _
        exact b2.trans ⟨rfl, rfl, rfl, by simp, fun i hi => setRow_other _ w1.heap.size i _ (by omega)⟩
      have HBV : Hid (Below w.heap.size w ((w1.alloc (.cells #[.int .i64 0, .string ⟨#[]⟩, .int .i64 0, .nilFunc, .nilFunc, .nilFunc, .nilFunc] 41)).setRow w1.heap.size #[.int .i64 n, .string nm, .int .i64 wy, .func (.func 62) #[] #[.pointer (some ⟨bx, 0, none⟩)], .func (.func 51) #[] #[], .func (.func pf) #[] #[], .func (.func gf) #[] #[]])) := HB1.out.1.trans (bV.mono HB1.out.1.size)
      obtain ⟨_, c0, c1, c2, c3, c4, c5⟩ := HB1.out.2.kept bV
      have HC := HH1.out _ HBV.out
      have HCH : Hid (Calls Tryz.prog 51 #[.agg #[.int .i64 k, .int .i64 d, .int .i64 wd, .int .i64 hi, .slice ca cn cc, .slice pa pn pc]] ((w1.alloc (.cells #[.int .i64 0, .string ⟨#[]⟩, .int .i64 0, .nilFunc, .nilFunc, .nilFunc, .nilFunc] 41)).setRow w1.heap.size #[.int .i64 n, .string nm, .int .i64 wy, .func (.func 62) #[] #[.pointer (some ⟨bx, 0, none⟩)], .func (.func 51) #[] #[], .func (.func pf) #[] #[], .func (.func gf) #[] #[]]) fun e w'' => e = .returned (.bool r) ∧ Below ((w1.alloc (.cells #[.int .i64 0, .string ⟨#[]⟩, .int .i64 0, .nilFunc, .nilFunc, .nilFunc, .nilFunc] 41)).setRow w1.heap.size #[.int .i64 n, .string nm, .int .i64 wy, .func (.func 62) #[] #[.pointer (some ⟨bx, 0, none⟩)], .func (.func 51) #[] #[], .func (.func pf) #[] #[], .func (.func gf) #[] #[]]).heap.size ((w1.alloc (.cells #[.int .i64 0, .string ⟨#[]⟩, .int .i64 0, .nilFunc, .nilFunc, .nilFunc, .nilFunc] 41)).setRow w1.heap.size #[.int .i64 n, .string nm, .int .i64 wy, .func (.func 62) #[] #[.pointer (some ⟨bx, 0, none⟩)], .func (.func 51) #[] #[], .func (.func pf) #[] #[], .func (.func gf) #[] #[]]) w'') := HC
      clear hs bV HC HH1
      go_wp2_with (refine wpList_store_row rfl 41 (.tmp 5) (.tmp 10) rfl w1.heap.size #[.int .i64 n, .string nm, .int .i64 wy, .func (.func 62) #[] #[.pointer (some ⟨bx, 0, none⟩)], .func (.func 51) #[] #[], .func (.func pf) #[] #[], .func (.func gf) #[] #[]] rfl rfl 41 #[.int .i64 0, .string ⟨#[]⟩, .int .i64 0, .nilFunc, .nilFunc, .nilFunc, .nilFunc] hg hI7 rfl h17 ?_)
      refine HCH.out.mono ?_
      rintro e w2 ⟨rfl, b2⟩
      have HB2 : Hid (Below w.heap.size w w2) := HBV.out.trans (b2.mono HBV.out.size)
      clear b2 HCH HBV k4 c0 c1 c2 c3 c4 c5 hg
      go_wp2_with fail
      go_ret
      exact ⟨rfl, HB2.out⟩
    · have hg : (w1.alloc (.cells #[.int .i64 0, .string ⟨#[]⟩, .int .i64 0, .nilFunc, .nilFunc, .nilFunc, .nilFunc] 41)).heap[w1.heap.size]? = some (.cells #[.int .i64 0, .string ⟨#[]⟩, .int .i64 0, .nilFunc, .nilFunc, .nilFunc, .nilFunc] 41 (0, 0)) := heap_alloc_new _ _
      have hs := setRow_heap _ _ _ #[.int .i64 n, .string nm, .int .i64 wy, .func (.func 62) #[] #[.pointer (some ⟨bx, 0, none⟩)], .func (.func 54) #[] #[], .func (.func pf) #[] #[], .func (.func gf) #[] #[]] _ _ hg
      have k4 : ((w1.alloc (.cells #[.int .i64 0, .string ⟨#[]⟩, .int .i64 0, .nilFunc, .nilFunc, .nilFunc, .nilFunc] 41)).setRow w1.heap.size #[.int .i64 n, .string nm, .int .i64 wy, .func (.func 62) #[] #[.pointer (some ⟨bx, 0, none⟩)], .func (.func 54) #[] #[], .func (.func pf) #[] #[], .func (.func gf) #[] #[]]).cell? ⟨w1.heap.size, 4, none⟩ = some (.func (.func 54) #[] #[]) := by simp only [World.cell?, hs]; rfl
      have hI7 : (Tryz.prog.info? 41).map (·.size) = some (#[Value.int .i64 n, .string nm, .int .i64 wy, .func (.func 62) #[] #[.pointer (some ⟨bx, 0, none⟩)], .func (.func 54) #[] #[], .func (.func pf) #[] #[], .func (.func gf) #[] #[]]).size := by kernel_rfl
      have h17 : (#[Value.int .i64 n, .string nm, .int .i64 wy, .func (.func 62) #[] #[.pointer (some ⟨bx, 0, none⟩)], .func (.func 54) #[] #[], .func (.func pf) #[] #[], .func (.func gf) #[] #[]]).all (·.oneCell') = true := by simp [Value.oneCell']
      have bV : Below w1.heap.size w1 ((w1.alloc (.cells #[.int .i64 0, .string ⟨#[]⟩, .int .i64 0, .nilFunc, .nilFunc, .nilFunc, .nilFunc] 41)).setRow w1.heap.size #[.int .i64 n, .string nm, .int .i64 wy, .func (.func 62) #[] #[.pointer (some ⟨bx, 0, none⟩)], .func (.func 54) #[] #[], .func (.func pf) #[] #[], .func (.func gf) #[] #[]]) := by
        have b2 : Below w1.heap.size w1 (w1.alloc (.cells #[.int .i64 0, .string ⟨#[]⟩, .int .i64 0, .nilFunc, .nilFunc, .nilFunc, .nilFunc] 41)) := (Below.refl _ _).alloc (Nat.le_refl _) _
        exact b2.trans ⟨rfl, rfl, rfl, by simp, fun i hi => setRow_other _ w1.heap.size i _ (by omega)⟩
      have HBV : Hid (Below w.heap.size w ((w1.alloc (.cells #[.int .i64 0, .string ⟨#[]⟩, .int .i64 0, .nilFunc, .nilFunc, .nilFunc, .nilFunc] 41)).setRow w1.heap.size #[.int .i64 n, .string nm, .int .i64 wy, .func (.func 62) #[] #[.pointer (some ⟨bx, 0, none⟩)], .func (.func 54) #[] #[], .func (.func pf) #[] #[], .func (.func gf) #[] #[]])) := HB1.out.1.trans (bV.mono HB1.out.1.size)
      obtain ⟨_, c0, c1, c2, c3, c4, c5⟩ := HB1.out.2.kept bV
      have HC := HH1.out _ HBV.out
      have HCH : Hid (Calls Tryz.prog 54 #[.agg #[.int .i64 k, .int .i64 d, .int .i64 wd, .int .i64 hi, .slice ca cn cc, .slice pa pn pc]] ((w1.alloc (.cells #[.int .i64 0, .string ⟨#[]⟩, .int .i64 0, .nilFunc, .nilFunc, .nilFunc, .nilFunc] 41)).setRow w1.heap.size #[.int .i64 n, .string nm, .int .i64 wy, .func (.func 62) #[] #[.pointer (some ⟨bx, 0, none⟩)], .func (.func 54) #[] #[], .func (.func pf) #[] #[], .func (.func gf) #[] #[]]) fun e w'' => e = .returned (.bool r) ∧ Below ((w1.alloc (.cells #[.int .i64 0, .string ⟨#[]⟩, .int .i64 0, .nilFunc, .nilFunc, .nilFunc, .nilFunc] 41)).setRow w1.heap.size #[.int .i64 n, .string nm, .int .i64 wy, .func (.func 62) #[] #[.pointer (some ⟨bx, 0, none⟩)], .func (.func 54) #[] #[], .func (.func pf) #[] #[], .func (.func gf) #[] #[]]).heap.size ((w1.alloc (.cells #[.int .i64 0, .string ⟨#[]⟩, .int .i64 0, .nilFunc, .nilFunc, .nilFunc, .nilFunc] 41)).setRow w1.heap.size #[.int .i64 n, .string nm, .int .i64 wy, .func (.func 62) #[] #[.pointer (some ⟨bx, 0, none⟩)], .func (.func 54) #[] #[], .func (.func pf) #[] #[], .func (.func gf) #[] #[]]) w'') := HC
      clear hs bV HC HH1
      go_wp2_with (refine wpList_store_row rfl 41 (.tmp 5) (.tmp 10) rfl w1.heap.size #[.int .i64 n, .string nm, .int .i64 wy, .func (.func 62) #[] #[.pointer (some ⟨bx, 0, none⟩)], .func (.func 54) #[] #[], .func (.func pf) #[] #[], .func (.func gf) #[] #[]] rfl rfl 41 #[.int .i64 0, .string ⟨#[]⟩, .int .i64 0, .nilFunc, .nilFunc, .nilFunc, .nilFunc] hg hI7 rfl h17 ?_)
      refine HCH.out.mono ?_
      rintro e w2 ⟨rfl, b2⟩
      have HB2 : Hid (Below w.heap.size w w2) := HBV.out.trans (b2.mono HBV.out.size)
      clear b2 HCH HBV k4 c0 c1 c2 c3 c4 c5 hg
      go_wp2_with fail
      go_ret
      exact ⟨rfl, HB2.out⟩
  · have HQ : Hid (r = false) := by have h := HR.out; unfold repB at h; rw [if_neg hn, Bool.and_false] at h; exact h
    clear hn HR HH
    have hg : (w1.alloc (.cells #[.int .i64 0, .string ⟨#[]⟩, .int .i64 0, .nilFunc, .nilFunc, .nilFunc, .nilFunc] 41)).heap[w1.heap.size]? = some (.cells #[.int .i64 0, .string ⟨#[]⟩, .int .i64 0, .nilFunc, .nilFunc, .nilFunc, .nilFunc] 41 (0, 0)) := heap_alloc_new _ _
    have hI7 : (Tryz.prog.info? 41).map (·.size) = some (#[Value.int .i64 0, .string ⟨#[]⟩, .int .i64 0, .nilFunc, .nilFunc, .nilFunc, .nilFunc]).size := by kernel_rfl
    have h17 : (#[Value.int .i64 0, .string ⟨#[]⟩, .int .i64 0, .nilFunc, .nilFunc, .nilFunc, .nilFunc]).all (·.oneCell') = true := by simp [Value.oneCell']
    have bV : Below w1.heap.size w1 ((w1.alloc (.cells #[.int .i64 0, .string ⟨#[]⟩, .int .i64 0, .nilFunc, .nilFunc, .nilFunc, .nilFunc] 41)).setRow w1.heap.size #[.int .i64 0, .string ⟨#[]⟩, .int .i64 0, .nilFunc, .nilFunc, .nilFunc, .nilFunc]) := by
      have b2 : Below w1.heap.size w1 (w1.alloc (.cells #[.int .i64 0, .string ⟨#[]⟩, .int .i64 0, .nilFunc, .nilFunc, .nilFunc, .nilFunc] 41)) := (Below.refl _ _).alloc (Nat.le_refl _) _
      exact b2.trans ⟨rfl, rfl, rfl, by simp, fun i hi => setRow_other _ w1.heap.size i _ (by omega)⟩
    have HBV : Hid (Below w.heap.size w ((w1.alloc (.cells #[.int .i64 0, .string ⟨#[]⟩, .int .i64 0, .nilFunc, .nilFunc, .nilFunc, .nilFunc] 41)).setRow w1.heap.size #[.int .i64 0, .string ⟨#[]⟩, .int .i64 0, .nilFunc, .nilFunc, .nilFunc, .nilFunc])) := HB1.out.1.trans (bV.mono HB1.out.1.size)
    clear bV
    go_wp2_with (refine wpList_store_row rfl 41 (.tmp 5) (.tmp 10) rfl w1.heap.size #[.int .i64 0, .string ⟨#[]⟩, .int .i64 0, .nilFunc, .nilFunc, .nilFunc, .nilFunc] rfl rfl 41 #[.int .i64 0, .string ⟨#[]⟩, .int .i64 0, .nilFunc, .nilFunc, .nilFunc, .nilFunc] hg hI7 rfl h17 ?_)
    go_ret
    exact ⟨by rw [HQ.out]; rfl, HBV.out⟩
theorem Bm.rep_hold (k d : Int) : Bm.rep k d false = Bm.hold k d := by unfold Bm.rep Bm.hold; simp
theorem Tg.pos (k d : Int) : decide (0 < Tg.sort k d) = (Tg.sort k d != 0) := by
  have h : 0 ≤ Tg.sort k d := by unfold Tg.sort; repeat' split <;> omega
  rw [Bool.eq_iff_iff]; simp; omega
theorem Pn.pos (k d : Int) : Pn.rep k = (Pn.sort k d != 0) := by
  unfold Pn.rep Pn.sort
  by_cases h1 : k = 1
  · subst h1; simp; split <;> omega
  · by_cases h2 : k = 2
    · subst h2; simp
    · simp [h1, h2]
set_option maxHeartbeats 4000000 in
set_option maxRecDepth 20000 in
theorem spec_rep (n : Int) (k d wd hi : Int) (ca : Option Addr) (cn cc : Nat) (pa : Option Addr) (pn pc : Nat) (ok : Bool) (hd : ok = true → k = 4 → d = 1 ∨ d = 2 ∨ d = 4 ∨ d = 8) (w : World)
    (hO : (∀ w', Below w.heap.size w w' → Calls Tryz.prog 8 #[.agg #[.int .i64 k, .int .i64 d, .int .i64 wd, .int .i64 hi, .slice ca cn cc, .slice pa pn pc]] w' fun e w'' => e = .returned (.bool ok) ∧ Below w'.heap.size w' w'')) :
    Calls Tryz.prog 6 #[.int .i64 n, .agg #[.int .i64 k, .int .i64 d, .int .i64 wd, .int .i64 hi, .slice ca cn cc, .slice pa pn pc]] w fun e w' => e = .returned (.bool (ok && repB n k d cn)) ∧ Below w.heap.size w w' := by
  have HO : Hid (∀ w', Below w.heap.size w w' → Calls Tryz.prog 8 #[.agg #[.int .i64 k, .int .i64 d, .int .i64 wd, .int .i64 hi, .slice ca cn cc, .slice pa pn pc]] w' fun e w'' => e = .returned (.bool ok) ∧ Below w'.heap.size w' w'') := hO
  have HB0 : Hid (Below w.heap.size w (w.alloc (.cells #[.int .i64 k, .int .i64 d, .int .i64 wd, .int .i64 hi, .slice ca cn cc, .slice pa pn pc] 25)) ∧ Bx (w.alloc (.cells #[.int .i64 k, .int .i64 d, .int .i64 wd, .int .i64 hi, .slice ca cn cc, .slice pa pn pc] 25)) w.heap.size (.int .i64 k) (.int .i64 d) (.int .i64 wd) (.int .i64 hi) (.slice ca cn cc) (.slice pa pn pc)) := ⟨(Below.refl _ _).alloc (Nat.le_refl _) _, bx_new w _ _ _ _ _ _ 25⟩
  have HG : Hid (ok = true → ∀ w' : World, Calls Tryz.prog 15 #[.agg #[.int .i64 k, .int .i64 d, .int .i64 wd, .int .i64 hi, .slice ca cn cc, .slice pa pn pc]] w' fun e w'' => e = .returned (.bool (Gf.rep k d cn)) ∧ Below w'.heap.size w' w'') := fun h w' => l10Rep_any k d wd hi ca cn cc pa pn pc (hd h) w'
  have HBm : Hid (∀ w' : World, Calls Tryz.prog 16 #[.agg #[.int .i64 k, .int .i64 d, .int .i64 wd, .int .i64 hi, .slice ca cn cc, .slice pa pn pc], .bool false] w' fun e w'' => e = .returned (.bool (Bm.hold k d)) ∧ Below w'.heap.size w' w'') := fun w' => by rw [← Bm.rep_hold]; exact l11Rep_any k d wd hi ca cn cc pa pn pc false w'
  have HT : Hid (∀ w' : World, Calls Tryz.prog 17 #[.agg #[.int .i64 k, .int .i64 d, .int .i64 wd, .int .i64 hi, .slice ca cn cc, .slice pa pn pc]] w' fun e w'' => e = .returned (.int .i64 (Tg.sort k d)) ∧ Below w'.heap.size w' w'') := fun w' => l11Tga_any k d wd hi ca cn cc pa pn pc w'
  have HP : Hid (∀ w' : World, Calls Tryz.prog 18 #[.agg #[.int .i64 k, .int .i64 d, .int .i64 wd, .int .i64 hi, .slice ca cn cc, .slice pa pn pc]] w' fun e w'' => e = .returned (.bool (Pn.sort k d != 0)) ∧ Below w'.heap.size w' w'') := fun w' => by rw [← Pn.pos]; exact l12Rep_any k d wd hi ca cn cc pa pn pc w'
  have HTP : Hid (decide (0 < Tg.sort k d) = (Tg.sort k d != 0)) := Tg.pos k d
  obtain ⟨_, a0, a1, a2, a3, a4, a5⟩ := HB0.out.2
  clear hO hd
  cases ok with
  | false =>
    go_enter Tryz.func6, Tryz.ntmps6
    go_wp2_with fail
    refine (HO.out _ HB0.out.1).mono ?_
    rintro e w1 ⟨rfl, b1⟩
    have HB1 : Hid (Below w.heap.size w w1) := HB0.out.1.trans (b1.mono HB0.out.1.size)
    clear b1
    go_wp2_with fail
    go_ret
    exact ⟨rfl, HB1.out⟩
  | true =>
    have HGT : Hid (∀ w' : World, Calls Tryz.prog 15 #[.agg #[.int .i64 k, .int .i64 d, .int .i64 wd, .int .i64 hi, .slice ca cn cc, .slice pa pn pc]] w' fun e w'' => e = .returned (.bool (Gf.rep k d cn)) ∧ Below w'.heap.size w' w'') := HG.out rfl
    clear HG
    by_cases hn1 : n = 1
    · subst hn1
      have HE : Hid ((true && repB 1 k d cn) = true) := by show _ = _; rfl
      go_enter Tryz.func6, Tryz.ntmps6
      go_wp2_with fail
      refine (HO.out _ HB0.out.1).mono ?_
      rintro e w1 ⟨rfl, b1⟩
      have HB1 : Hid (Below w.heap.size w w1) := HB0.out.1.trans (b1.mono HB0.out.1.size)
      obtain ⟨_, c0, c1, c2, c3, c4, c5⟩ := HB0.out.2.kept b1
      clear b1 a0 a1 a2 a3 a4 a5
      go_wp2_with fail
      go_ret
      exact ⟨by rw [HE.out]; rfl, HB1.out⟩
    · by_cases hn2 : n = 2
      · subst hn2
        have HE : Hid ((true && repB 2 k d cn) = Gf.rep k d cn) := by show _ = _; rfl
        go_enter Tryz.func6, Tryz.ntmps6
        go_wp2_with fail
        refine (HO.out _ HB0.out.1).mono ?_
        rintro e w1 ⟨rfl, b1⟩
        have HB1 : Hid (Below w.heap.size w w1) := HB0.out.1.trans (b1.mono HB0.out.1.size)
        obtain ⟨_, c0, c1, c2, c3, c4, c5⟩ := HB0.out.2.kept b1
        clear b1 a0 a1 a2 a3 a4 a5
        go_wp2_with fail
        refine (HGT.out _).mono ?_
        rintro e w2 ⟨rfl, b2⟩
        have HB2 : Hid (Below w.heap.size w w2) := HB1.out.trans (b2.mono HB1.out.size)
        clear b2 c0 c1 c2 c3 c4 c5
        go_wp2_with fail
        go_ret
        exact ⟨by rw [HE.out]; rfl, HB2.out⟩
      · by_cases hn3 : n = 3
        · subst hn3
          have HE : Hid ((true && repB 3 k d cn) = Bm.hold k d) := by show _ = _; rfl
          go_enter Tryz.func6, Tryz.ntmps6
          go_wp2_with fail
          refine (HO.out _ HB0.out.1).mono ?_
          rintro e w1 ⟨rfl, b1⟩
          have HB1 : Hid (Below w.heap.size w w1) := HB0.out.1.trans (b1.mono HB0.out.1.size)
          obtain ⟨_, c0, c1, c2, c3, c4, c5⟩ := HB0.out.2.kept b1
          clear b1 a0 a1 a2 a3 a4 a5
          go_wp2_with fail
          refine (HBm.out _).mono ?_
          rintro e w2 ⟨rfl, b2⟩
          have HB2 : Hid (Below w.heap.size w w2) := HB1.out.trans (b2.mono HB1.out.size)
          clear b2 c0 c1 c2 c3 c4 c5
          go_wp2_with fail
          go_ret
          exact ⟨by rw [HE.out]; rfl, HB2.out⟩
        · by_cases hn4 : n = 4
          · subst hn4
            have HE : Hid ((true && repB 4 k d cn) = (Tg.sort k d != 0)) := by show _ = _; rfl
            go_enter Tryz.func6, Tryz.ntmps6
            go_wp2_with fail
            refine (HO.out _ HB0.out.1).mono ?_
            rintro e w1 ⟨rfl, b1⟩
            have HB1 : Hid (Below w.heap.size w w1) := HB0.out.1.trans (b1.mono HB0.out.1.size)
            obtain ⟨_, c0, c1, c2, c3, c4, c5⟩ := HB0.out.2.kept b1
            clear b1 a0 a1 a2 a3 a4 a5
            go_wp2_with fail
            refine (HT.out _).mono ?_
            rintro e w2 ⟨rfl, b2⟩
            have HB2 : Hid (Below w.heap.size w w2) := HB1.out.trans (b2.mono HB1.out.size)
            clear b2 c0 c1 c2 c3 c4 c5
            go_wp2_with fail
            go_ret
            exact ⟨by rw [HE.out, ← HTP.out]; rfl, HB2.out⟩
          · by_cases hn5 : n = 5
            · subst hn5
              have HE : Hid ((true && repB 5 k d cn) = (Pn.sort k d != 0)) := by show _ = _; rfl
              go_enter Tryz.func6, Tryz.ntmps6
              go_wp2_with fail
              refine (HO.out _ HB0.out.1).mono ?_
              rintro e w1 ⟨rfl, b1⟩
              have HB1 : Hid (Below w.heap.size w w1) := HB0.out.1.trans (b1.mono HB0.out.1.size)
              obtain ⟨_, c0, c1, c2, c3, c4, c5⟩ := HB0.out.2.kept b1
              clear b1 a0 a1 a2 a3 a4 a5
              go_wp2_with fail
              refine (HP.out _).mono ?_
              rintro e w2 ⟨rfl, b2⟩
              have HB2 : Hid (Below w.heap.size w w2) := HB1.out.trans (b2.mono HB1.out.size)
              clear b2 c0 c1 c2 c3 c4 c5
              go_wp2_with fail
              go_ret
              exact ⟨by rw [HE.out]; rfl, HB2.out⟩
            · have HE : Hid ((true && repB n k d cn) = false) := by
                show _ = _
                unfold repB
                rw [if_neg (by omega)]
                rfl
              go_enter Tryz.func6, Tryz.ntmps6
              go_wp2_with fail
              refine (HO.out _ HB0.out.1).mono ?_
              rintro e w1 ⟨rfl, b1⟩
              have HB1 : Hid (Below w.heap.size w w1) := HB0.out.1.trans (b1.mono HB0.out.1.size)
              obtain ⟨_, c0, c1, c2, c3, c4, c5⟩ := HB0.out.2.kept b1
              clear b1 a0 a1 a2 a3 a4 a5
              go_wp2_with fail
              go_ret
              exact ⟨by rw [HE.out]; rfl, HB1.out⟩
end Go.Proofs.YteldjmocbbbinaaGreatDoor
