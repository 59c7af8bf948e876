/- ImageWrite at every picture. -/
import Derived.Test.YtgfknlnpnnjkoaaDoorFgImplTop
import Derived.Test.YtgfknlnpnnjkoaaDoorImgOk3
import Derived.Test.YtgfknlnpnnjkoaaDoorCoreFg
namespace Go.Proofs.YtgfknlnpnnjkoaaDoor
open Go.RowKit

theorem fg_ok {k d wd hi : Int} {cs ps : List Int} (h : Im.okB k d wd hi cs ps = true) : Im.Ok k d wd hi cs ps := @of_decide_eq_true _ (Classical.propDecidable _) h
theorem fg_two : ∀ n : Nat, n ≤ 32 → 2 ^ n ≤ 4294967296 := fun n hn => Nat.le_trans (Nat.pow_le_pow_right (by decide) hn) (by decide)
theorem fg_kind {k d : Int} (h : d ∈ depL k) : 1 ≤ k ∧ k ≤ 4 := by
  unfold depL at h
  split at h
  · omega
  · split at h
    · omega
    · split at h
      · omega
      · simp at h
theorem fg_eight {d : Int} (h : d ∈ depL 4) : 2 ^ d.toNat ≤ 256 := by
  rcases Im.dep4 h with rfl | rfl | rfl | rfl <;> decide
theorem fg_open {k d wd hi : Int} {cs ps : List Int} (h : Im.Ok k d wd hi cs ps) : (1 ≤ k ∧ k ≤ 4) ∧ (0 ≤ d ∧ d ≤ 32) ∧ cs.length ≤ 256 ∧ ps.length ≤ 400 ∧ Figs cs ∧ Figs ps := by
  obtain ⟨hd, hw, hh, ⟨hc1, hc2⟩, hp, hm⟩ := h
  have hk := fg_kind hd
  obtain ⟨D, rfl, hD, _⟩ := Im.dep_all hd
  have hcl : cs.length ≤ 256 := by
    by_cases h4 : k = 4
    · subst h4
      have := (hc2 rfl).2.1
      have := fg_eight hd
      omega
    · have := hc1 h4; omega
  refine ⟨hk, by omega, hcl, ?_, fun n hn => ?_, fun n hn => ?_⟩
  · have h1 : wd * hi ≤ 20 * 20 := Int.mul_le_mul hw.2 hh.2 (by omega) (by omega)
    omega
  · by_cases h4 : k = 4
    · have := (hc2 h4).2.2 n hn
      omega
    · have := hc1 h4
      rw [List.eq_nil_of_length_eq_zero this] at hn
      cases hn
  · have h1 := hm n hn
    have h2 := fg_two D hD
    unfold Im.most at h1
    rw [Int.toNat_natCast] at h1
    split at h1 <;> omega
noncomputable def fgAns (k d wd hi : Int) (cs ps : List Int) : List UInt8 := if Im.okB k d wd hi cs ps = true then fgAll k d wd hi cs ps else []
set_option maxHeartbeats 2000000 in
theorem spec_imageWrite_no (k d wd hi : Int) (ca : Option Addr) (cn cc : Nat) (pa : Option Addr) (pn pc : Nat) (w : World)
    (hO : ∀ w', Below w.heap.size w w' → Calls Tryd.prog 18 #[.agg #[.int .i64 k, .int .i64 d, .int .i64 wd, .int .i64 hi, .slice ca cn cc, .slice pa pn pc]] w' fun e w'' => e = .returned (.bool false) ∧ Below w'.heap.size w' w'') :
    Calls Tryd.prog 15 #[.agg #[.int .i64 k, .int .i64 d, .int .i64 wd, .int .i64 hi, .slice ca cn cc, .slice pa pn pc]] w fun e w' => e = .returned (.string ⟨#[]⟩) ∧ Below w.heap.size w w' := by
  have hB0 : Below w.heap.size w (w.alloc (.cells #[.int .i64 k, .int .i64 d, .int .i64 wd, .int .i64 hi, .slice ca cn cc, .slice pa pn pc] 27)) := (Below.refl _ _).alloc (Nat.le_refl _) _
  have HA : Hid (Bx (w.alloc (.cells #[.int .i64 k, .int .i64 d, .int .i64 wd, .int .i64 hi, .slice ca cn cc, .slice pa pn pc] 27)) w.heap.size (.int .i64 k) (.int .i64 d) (.int .i64 wd) (.int .i64 hi) (.slice ca cn cc) (.slice pa pn pc)) := bx_new w _ _ _ _ _ _ 27
  have HO := hO _ hB0
  have HO' : Hid _ := HO
  clear hO HO
  go_enter Tryd.func15, Tryd.ntmps15
  go_wp2_with fail
  refine (show Calls _ _ _ _ _ from HO'.out).mono ?_
  rintro e w1 ⟨rfl, b1⟩
  have bel1 := hB0.trans (b1.mono hB0.size)
  clear b1 hB0 HO' HA
  go_wp2_with fail
  go_ret
  exact ⟨rfl, bel1⟩
set_option maxHeartbeats 2000000 in
theorem impl_imageWrite_no (k d wd hi : Int) (ca : Option Addr) (cn cc : Nat) (pa : Option Addr) (pn pc : Nat) (w : World)
    (hO : ∀ w', Below w.heap.size w w' → Calls Tryd.prog 44 #[.agg #[.int .i64 k, .int .i64 d, .int .i64 wd, .int .i64 hi, .slice ca cn cc, .slice pa pn pc]] w' fun e w'' => e = .returned (.bool false) ∧ Below w'.heap.size w' w'') :
    Calls Tryd.prog 16 #[.agg #[.int .i64 k, .int .i64 d, .int .i64 wd, .int .i64 hi, .slice ca cn cc, .slice pa pn pc]] w fun e w' => e = .returned (.string ⟨#[]⟩) ∧ Below w.heap.size w w' := by
  have hB0 : Below w.heap.size w (w.alloc (.cells #[.int .i64 k, .int .i64 d, .int .i64 wd, .int .i64 hi, .slice ca cn cc, .slice pa pn pc] 27)) := (Below.refl _ _).alloc (Nat.le_refl _) _
  have HA : Hid (Bx (w.alloc (.cells #[.int .i64 k, .int .i64 d, .int .i64 wd, .int .i64 hi, .slice ca cn cc, .slice pa pn pc] 27)) w.heap.size (.int .i64 k) (.int .i64 d) (.int .i64 wd) (.int .i64 hi) (.slice ca cn cc) (.slice pa pn pc)) := bx_new w _ _ _ _ _ _ 27
  have HO := hO _ hB0
  have HO' : Hid _ := HO
  clear hO HO
  go_enter Tryd.func16, Tryd.ntmps16
  go_wp2_with fail
  refine (show Calls _ _ _ _ _ from HO'.out).mono ?_
  rintro e w1 ⟨rfl, b1⟩
  have bel1 := hB0.trans (b1.mono hB0.size)
  clear b1 hB0 HO' HA
  go_wp2_with fail
  go_ret
  exact ⟨rfl, bel1⟩
theorem spec_imageWrite (k d wd hi : Int) (ca : Option Addr) (cn cc : Nat) (pa : Option Addr) (pn pc : Nat) (cs ps : List Int) (w : World) (hc : Ints w ca cs) (hcn : cs.length = cn) (hcl : cn ≤ 1048576) (hp : Ints w pa ps) (hpn : ps.length = pn) :
    Calls Tryd.prog 15 #[.agg #[.int .i64 k, .int .i64 d, .int .i64 wd, .int .i64 hi, .slice ca cn cc, .slice pa pn pc]] w fun e w' => e = .returned (.string ⟨(fgAns k d wd hi cs ps).toArray⟩) ∧ Below w.heap.size w w' := by
  have hO : ∀ w', Below w.heap.size w w' → Calls Tryd.prog 18 #[.agg #[.int .i64 k, .int .i64 d, .int .i64 wd, .int .i64 hi, .slice ca cn cc, .slice pa pn pc]] w' fun e w'' => e = .returned (.bool (Im.okB k d wd hi cs ps)) ∧ Below w'.heap.size w' w'' := fun w' b => spec_imageOk k d wd hi ca cn cc pa pn pc w' cs ps (hc.kept b) hcn hcl (hp.kept b) hpn
  unfold fgAns
  cases hB : Im.okB k d wd hi cs ps with
  | false =>
    rw [hB] at hO
    exact spec_imageWrite_no k d wd hi ca cn cc pa pn pc w hO
  | true =>
    rw [hB] at hO
    obtain ⟨hk, hd, h1, h2, h3, h4⟩ := fg_open (fg_ok hB)
    obtain ⟨_, hw, hh, _⟩ := fg_ok hB
    obtain ⟨Kd, rfl⟩ := Int.eq_ofNat_of_zero_le (show 0 ≤ k by omega)
    obtain ⟨D, rfl⟩ := Int.eq_ofNat_of_zero_le hd.1
    obtain ⟨Wd, rfl⟩ := Int.eq_ofNat_of_zero_le (show 0 ≤ wd by omega)
    obtain ⟨Hi, rfl⟩ := Int.eq_ofNat_of_zero_le (show 0 ≤ hi by omega)
    rw [if_pos rfl]
    exact spec_imageWrite_yes Kd D Wd Hi ca cn cc pa pn pc cs ps w hc hcn (by omega) hp hpn (by omega) h3 h4 ⟨by omega, by omega, by omega, by omega⟩ hO
theorem impl_imageWrite (k d wd hi : Int) (ca : Option Addr) (cn cc : Nat) (pa : Option Addr) (pn pc : Nat) (cs ps : List Int) (w : World) (hc : Ints w ca cs) (hcn : cs.length = cn) (hcl : cn ≤ 1048576) (hp : Ints w pa ps) (hpn : ps.length = pn) (hpl : pn ≤ 1048576) (ht : Tens w) :
    Calls Tryd.prog 16 #[.agg #[.int .i64 k, .int .i64 d, .int .i64 wd, .int .i64 hi, .slice ca cn cc, .slice pa pn pc]] w fun e w' => e = .returned (.string ⟨(fgAns k d wd hi cs ps).toArray⟩) ∧ Below w.heap.size w w' := by
  have hO : ∀ w', Below w.heap.size w w' → Calls Tryd.prog 44 #[.agg #[.int .i64 k, .int .i64 d, .int .i64 wd, .int .i64 hi, .slice ca cn cc, .slice pa pn pc]] w' fun e w'' => e = .returned (.bool (Im.okB k d wd hi cs ps)) ∧ Below w'.heap.size w' w'' := fun w' b => impl_imageOk k d wd hi ca cn cc pa pn pc w' cs ps (hc.kept b) hcn hcl (hp.kept b) hpn hpl
  unfold fgAns
  cases hB : Im.okB k d wd hi cs ps with
  | false =>
    rw [hB] at hO
    exact impl_imageWrite_no k d wd hi ca cn cc pa pn pc w hO
  | true =>
    rw [hB] at hO
    obtain ⟨hk, hd, h1, h2, h3, h4⟩ := fg_open (fg_ok hB)
    obtain ⟨_, hw, hh, _⟩ := fg_ok hB
    obtain ⟨Kd, rfl⟩ := Int.eq_ofNat_of_zero_le (show 0 ≤ k by omega)
    obtain ⟨D, rfl⟩ := Int.eq_ofNat_of_zero_le hd.1
    obtain ⟨Wd, rfl⟩ := Int.eq_ofNat_of_zero_le (show 0 ≤ wd by omega)
    obtain ⟨Hi, rfl⟩ := Int.eq_ofNat_of_zero_le (show 0 ≤ hi by omega)
    rw [if_pos rfl]
    exact impl_imageWrite_yes Kd D Wd Hi ca cn cc pa pn pc cs ps w hc hcn (by omega) hp hpn (by omega) h3 h4 ⟨by omega, by omega, by omega, by omega⟩ ht hO
theorem exImageWrite (k d wd hi : Int) (ca : Option Addr) (cn cc : Nat) (pa : Option Addr) (pn pc : Nat) (w : World) (hc : Row64 w ca cn cc) (hp : Row64 w pa pn pc) (ht : Tens w) :
    Calls Tryd.prog 5 #[.agg #[.int .i64 k, .int .i64 d, .int .i64 wd, .int .i64 hi, .slice ca cn cc, .slice pa pn pc]] w fun e w' => e = .returned (.bool true) ∧ Below w.heap.size w w' := by
  obtain ⟨_, hcm, cs, hcn, hIc, _⟩ := hc
  obtain ⟨_, hpm, ps, hpn, hIp, _⟩ := hp
  unfold maxLen at hcm hpm
  have hB0 : Below w.heap.size w (w.alloc (.cells #[.int .i64 k, .int .i64 d, .int .i64 wd, .int .i64 hi, .slice ca cn cc, .slice pa pn pc] 24)) := (Below.refl _ _).alloc (Nat.le_refl _) _
  by_cases hbig : 1048576 < cn + pn
  · have HZ : Hid (Calls Tryd.prog 6 #[.agg #[.int .i64 k, .int .i64 d, .int .i64 wd, .int .i64 hi, .slice ca cn cc, .slice pa pn pc], .int .i64 1048576] (w.alloc (.cells #[.int .i64 k, .int .i64 d, .int .i64 wd, .int .i64 hi, .slice ca cn cc, .slice pa pn pc] 24)) fun e w' => e = .returned (.int .i64 (-1)) ∧ Below (w.alloc (.cells #[.int .i64 k, .int .i64 d, .int .i64 wd, .int .i64 hi, .slice ca cn cc, .slice pa pn pc] 24)).heap.size (w.alloc (.cells #[.int .i64 k, .int .i64 d, .int .i64 wd, .int .i64 hi, .slice ca cn cc, .slice pa pn pc] 24)) w') := szImage_big k d wd hi ca cn cc pa pn pc _ (by omega) (by omega) hbig
    clear hIc hIp hcn hpn ht
    go_enter Tryd.func5, Tryd.ntmps5
    go_wp2_with fail
    refine HZ.out.mono ?_
    rintro e w1 ⟨rfl, b1⟩
    have bel1 := hB0.trans (b1.mono (by simp))
    clear b1 HZ hB0
    go_wp2_with fail
    go_ret
    exact ⟨rfl, bel1⟩
  · refine exImageWrite_core k d wd hi ca cn cc pa pn pc ⟨(fgAns k d wd hi cs ps).toArray⟩ cs ps w hIc hIp hcn hpn (by omega) ?_ ?_
    · exact fun x y w' h1 h2 => spec_imageWrite k d wd hi x cn cn y pn pn cs ps w' h1 hcn (by omega) h2 hpn
    · exact fun x y w' b h1 h2 => impl_imageWrite k d wd hi x cn cn y pn pn cs ps w' h1 hcn (by omega) h2 hpn (by omega) (ht.below b)
end Go.Proofs.YtgfknlnpnnjkoaaDoor
