/- ImageRgb at every picture, of both. -/
import Derived.Test.YtchaepkdpbiffaaImplRgb
import Derived.Test.YtchaepkdpbiffaaSpecRgb
import Derived.Test.YtchaepkdpbiffaaImgOk3
import Derived.Test.YtchaepkdpbiffaaImgSpec3
namespace Go.Proofs.Ytchaepkdpbiffaa
open Go.RowKit

theorem Im.okB_open {k d wd hi : Int} {cs ps : List Int} (h : Im.okB k d wd hi cs ps = true) : Im.Ok k d wd hi cs ps := @of_decide_eq_true _ (Classical.propDecidable _) h

/-- whether a picture can be made one of red, green and blue -/
noncomputable def rgB (k d wd hi : Int) (cs ps : List Int) : Bool := Im.okB k d wd hi cs ps && denseB (cols k d.toNat cs ps)
/-- a field of what comes out -/
noncomputable def rgK (k d wd hi : Int) (cs ps : List Int) (v : Int) : Int := if rgB k d wd hi cs ps then v else 0
/-- its points -/
noncomputable def rgL (k d wd hi : Int) (cs ps : List Int) : List Int := if rgB k d wd hi cs ps then bares (cols k d.toNat cs ps) else []
theorem bares_len (l : List Int) : (bares l).length = l.length := by simp [bares]
theorem cols_len (k : Int) (D : Nat) (cs ps : List Int) : (cols k D cs ps).length = ps.length := by simp [cols]

theorem rg_yes {k wd hi : Int} {D : Nat} {cs ps : List Int} (h : Im.okB k (D : Int) wd hi cs ps = true) (hd : denseB (cols k D cs ps) = true) :
    rgB k (D : Int) wd hi cs ps = true ∧ rgL k (D : Int) wd hi cs ps = bares (cols k D cs ps) ∧ ∀ v, rgK k (D : Int) wd hi cs ps v = v := by
  have hB : rgB k (D : Int) wd hi cs ps = true := by unfold rgB; rw [h, Int.toNat_natCast, hd]; rfl
  exact ⟨hB, by unfold rgL; rw [hB, Int.toNat_natCast]; rfl, fun v => by unfold rgK; rw [hB]; rfl⟩
theorem rg_no {k d wd hi : Int} {cs ps : List Int} (h : Im.okB k d wd hi cs ps = false ∨ denseB (cols k d.toNat cs ps) = false) :
    rgB k d wd hi cs ps = false ∧ rgL k d wd hi cs ps = [] ∧ ∀ v, rgK k d wd hi cs ps v = 0 := by
  have hB : rgB k d wd hi cs ps = false := by
    unfold rgB
    rcases h with h | h <;> rw [h] <;> simp
  exact ⟨hB, by unfold rgL; rw [hB]; rfl, fun v => by unfold rgK; rw [hB]; rfl⟩
theorem rgL_len (k d wd hi : Int) (cs ps : List Int) : (rgL k d wd hi cs ps).length ≤ 1048576 := by
  unfold rgL
  split
  · next h =>
    unfold rgB at h
    rw [Bool.and_eq_true] at h
    obtain ⟨_, hw, hh, _, hm, _⟩ := Im.okB_open h.1
    rw [bares_len, cols_len]
    obtain ⟨Wd, rfl⟩ := Int.eq_ofNat_of_zero_le (show 0 ≤ wd by omega)
    obtain ⟨Hi, rfl⟩ := Int.eq_ofNat_of_zero_le (show 0 ≤ hi by omega)
    have e : ((Wd * Hi : Nat) : Int) = (Wd : Int) * (Hi : Int) := by simp
    have : Wd * Hi ≤ 20 * 20 := Nat.mul_le_mul (by omega) (by omega)
    omega
  · simp
theorem rgb_upto (k : Int) (D : Nat) (cs ps : List Int) (Wd Hi : Nat) (h : ps.length = Wd * Hi) : upto (ptF Wd (fun x y => colF k D cs Wd ps x y / 256)) (Wd * Hi) = bares (cols k D cs ps) := by
  rw [← cols_upto k D cs ps Wd Hi h]
  unfold bares upto
  rw [List.map_map]; rfl
theorem tmod_col {k wd hi : Int} {D : Nat} {cs ps : List Int} (hok : Im.Ok k (D : Int) wd hi cs ps) {c : Int} (hc : c ∈ cols k D cs ps) : c.tmod 256 = c % 256 := by
  unfold cols at hc
  obtain ⟨p, hp, rfl⟩ := List.mem_map.1 hc
  exact Int.tmod_eq_emod_of_nonneg (col_bounds hok hp).1

theorem spec_rgb (k d wd hi : Int) (ca : Option Addr) (cn cc : Nat) (pa : Option Addr) (pn pc : Nat) (cs ps : List Int) (w : World) (hc : Ints w ca cs) (hcn : cs.length = cn) (hcl : cn ≤ 1048576) (hp : Ints w pa ps) (hpn : ps.length = pn) (_hpl : pn ≤ 1048576) :
    Calls Try.prog 10 #[.agg #[.int .i64 k, .int .i64 d, .int .i64 wd, .int .i64 hi, .slice ca cn cc, .slice pa pn pc]] w fun e w'' => (∃ x cx y cy, e = .returned (.tuple #[.agg #[.int .i64 (rgK k d wd hi cs ps 2), .int .i64 (rgK k d wd hi cs ps 24), .int .i64 (rgK k d wd hi cs ps wd), .int .i64 (rgK k d wd hi cs ps hi), .slice x 0 cx, .slice y (rgL k d wd hi cs ps).length cy], .bool (rgB k d wd hi cs ps)]) ∧ Ints w'' x [] ∧ Ints w'' y (rgL k d wd hi cs ps)) ∧ Below w.heap.size w w'' := by
  rcases hok : Im.okB k d wd hi cs ps with _ | _
  · refine (spec_rgb_no k d wd hi ca cn cc pa pn pc w (fun w'' b => by have := spec_imageOk k d wd hi ca cn cc pa pn pc w'' cs ps (hc.kept b) hcn hcl (hp.kept b) hpn; rw [hok] at this; exact this)).mono ?_
    rintro e w'' ⟨rfl, b⟩
    obtain ⟨hB, hL, hK⟩ := rg_no (k := k) (d := d) (wd := wd) (hi := hi) (cs := cs) (ps := ps) (.inl hok)
    refine ⟨⟨none, 0, none, 0, ?_, .inl rfl, .inl hL⟩, b⟩
    rw [hB, hK, hK, hK, hK, hL]; rfl
  · have hOk := Im.okB_open hok
    obtain ⟨hd, hw, hh, _, hm, _⟩ := hOk
    obtain ⟨Wd, rfl⟩ := Int.eq_ofNat_of_zero_le (show 0 ≤ wd by omega)
    obtain ⟨Hi, rfl⟩ := Int.eq_ofNat_of_zero_le (show 0 ≤ hi by omega)
    obtain ⟨D, rfl, _, _⟩ := Im.dep_all hd
    have e : ((Wd * Hi : Nat) : Int) = (Wd : Int) * (Hi : Int) := by simp
    have hmm : pn = Wd * Hi := by omega
    have hOk := Im.okB_open hok
    · skip
      refine (spec_rgb_ok k D Wd Hi ca cn cc pa pn pc cs ps w hOk hc hcn hp hpn (by omega) (by omega) hmm (fun w'' b => by
        have := spec_imageOk k D Wd Hi ca cn cc pa pn pc w'' cs ps (hc.kept b) hcn hcl (hp.kept b) hpn
        rw [hok] at this; exact this)).mono ?_
      rintro e w'' ⟨h | h, b⟩
      · obtain ⟨hd, y, cy, rfl, hy⟩ := h
        obtain ⟨hB, hL, hK⟩ := rg_yes hok hd
        refine ⟨⟨none, 0, y, cy, ?_, .inl rfl, ?_⟩, b⟩
        · rw [hB, hK, hK, hK, hK, hL, bares_len, cols_len, hpn]
        · rw [hL]; exact hy
      · obtain ⟨hd, rfl⟩ := h
        obtain ⟨hB, hL, hK⟩ := rg_no (d := (D : Int)) (wd := (Wd : Int)) (hi := (Hi : Int)) (k := k) (cs := cs) (ps := ps) (.inr hd)
        refine ⟨⟨none, 0, none, 0, ?_, .inl rfl, .inl hL⟩, b⟩
        rw [hB, hK, hK, hK, hK, hL]; rfl

theorem impl_rgb (k d wd hi : Int) (ca : Option Addr) (cn cc : Nat) (pa : Option Addr) (pn pc : Nat) (cs ps : List Int) (w : World) (hc : Ints w ca cs) (hcn : cs.length = cn) (hcl : cn ≤ 1048576) (hp : Ints w pa ps) (hpn : ps.length = pn) (hpl : pn ≤ 1048576) :
    Calls Try.prog 9 #[.agg #[.int .i64 k, .int .i64 d, .int .i64 wd, .int .i64 hi, .slice ca cn cc, .slice pa pn pc]] w fun e w'' => (∃ x cx y cy, e = .returned (.tuple #[.agg #[.int .i64 (rgK k d wd hi cs ps 2), .int .i64 (rgK k d wd hi cs ps 24), .int .i64 (rgK k d wd hi cs ps wd), .int .i64 (rgK k d wd hi cs ps hi), .slice x 0 cx, .slice y (rgL k d wd hi cs ps).length cy], .bool (rgB k d wd hi cs ps)]) ∧ Pair2 w'' w.heap.size x [] y (rgL k d wd hi cs ps)) ∧ Below w.heap.size w w'' := by
  rcases hok : Im.okB k d wd hi cs ps with _ | _
  · refine (impl_rgb_no k d wd hi ca cn cc pa pn pc w (fun w'' b => by have := impl_imageOk k d wd hi ca cn cc pa pn pc w'' cs ps (hc.kept b) hcn hcl (hp.kept b) hpn (by omega); rw [hok] at this; exact this)).mono ?_
    rintro e w'' ⟨rfl, b⟩
    obtain ⟨hB, hL, hK⟩ := rg_no (k := k) (d := d) (wd := wd) (hi := hi) (cs := cs) (ps := ps) (.inl hok)
    refine ⟨⟨none, 0, none, 0, ?_, ⟨w.heap.size, Nat.le_refl _, .inl rfl, .inl rfl, .inl hL⟩⟩, b⟩
    rw [hB, hK, hK, hK, hK, hL]; rfl
  · have hOk := Im.okB_open hok
    obtain ⟨hd, hw, hh, _, hm, _⟩ := hOk
    obtain ⟨Wd, rfl⟩ := Int.eq_ofNat_of_zero_le (show 0 ≤ wd by omega)
    obtain ⟨Hi, rfl⟩ := Int.eq_ofNat_of_zero_le (show 0 ≤ hi by omega)
    obtain ⟨D, rfl, _, _⟩ := Im.dep_all hd
    have e : ((Wd * Hi : Nat) : Int) = (Wd : Int) * (Hi : Int) := by simp
    have hmm : pn = Wd * Hi := by omega
    have hOk := Im.okB_open hok
    · skip
      refine (callsIn_wide.1 (impl_rgb_in k D Wd Hi ca cn cc pa pn pc cs ps w hOk hc hcn hp hpn (by omega) (by omega) hmm (fun w'' b => by
        have := impl_imageOk k D Wd Hi ca cn cc pa pn pc w'' cs ps (hc.kept b) hcn hcl (hp.kept b) hpn (by omega)
        rw [hok] at this; exact this))).mono ?_
      rintro e w'' ⟨h | h, b⟩
      · obtain ⟨hd, x, cx, y, cy, rfl, hP⟩ := h
        have hd' : denseB (cols k D cs ps) = true := denseB_yes (fun c hc => by
          have h1 := hd c hc
          rwa [tmod_col hOk hc] at h1)
        obtain ⟨hB, hL, hK⟩ := rg_yes hok hd'
        refine ⟨⟨x, cx, y, cy, ?_, ?_⟩, b⟩
        · rw [hB, hK, hK, hK, hK, hL, bares_len, cols_len, hpn, hmm]
        · rw [hL, ← rgb_upto k D cs ps Wd Hi (by rw [hpn, hmm])]; exact hP
      · obtain ⟨⟨z, hz, hz2⟩, rfl⟩ := h
        have hd' : denseB (cols k D cs ps) = false := denseB_no hz (by rwa [tmod_col hOk hz] at hz2)
        obtain ⟨hB, hL, hK⟩ := rg_no (d := (D : Int)) (wd := (Wd : Int)) (hi := (Hi : Int)) (k := k) (cs := cs) (ps := ps) (.inr hd')
        refine ⟨⟨none, 0, none, 0, ?_, ⟨w.heap.size, Nat.le_refl _, .inl rfl, .inl rfl, .inl hL⟩⟩, b⟩
        rw [hB, hK, hK, hK, hK, hL]; rfl
end Go.Proofs.Ytchaepkdpbiffaa
