/- A picture upside down: what the law on it wants. -/
import Derived.Test.YtgeepemhmkoknaaNoFlip
import Derived.Test.YtgeepemhmkoknaaWiImage
import Derived.Test.YtgeepemhmkoknaaAtTop
namespace Go.Proofs.Ytgeepemhmkoknaa
open Go.RowKit

def flipL (Wd Hi : Nat) (ps : List Int) : List Int := upto (ptF Wd (flipF Wd Hi ps)) (Wd * Hi)
theorem flipL_len (Wd Hi : Nat) (ps : List Int) : (flipL Wd Hi ps).length = Wd * Hi := upto_length _ _
theorem upto_getD (F : Nat → Int) {n j : Nat} (h : j < n) : (upto F n).getD j 0 = F j := by simp [upto, h]
theorem spot_lt {Wd Hi x y : Nat} (hx : x < Wd) (hy : y < Hi) : y * Wd + x < Wd * Hi := by
  have := Nat.mul_le_mul_right Wd (show y + 1 ≤ Hi by omega)
  rw [Nat.add_mul, Nat.one_mul, Nat.mul_comm Hi Wd] at this; omega
theorem flipL_at {Wd Hi x y : Nat} (ps : List Int) (hx : x < Wd) (hy : y < Hi) : (flipL Wd Hi ps).getD (y * Wd + x) 0 = ps.getD ((Hi - 1 - y) * Wd + x) 0 := by
  unfold flipL; rw [upto_getD _ (spot_lt hx hy), ptF_at _ hx]; rfl
theorem split_at {Wd Hi j : Nat} (h : j < Wd * Hi) : ∃ x y, x < Wd ∧ y < Hi ∧ j = y * Wd + x := by
  have hW : 0 < Wd := by
    rcases Nat.eq_zero_or_pos Wd with e | e
    · subst e; omega
    · exact e
  refine ⟨j % Wd, j / Wd, Nat.mod_lt _ hW, ?_, ?_⟩
  · exact Nat.div_lt_of_lt_mul h
  · have := Nat.div_add_mod j Wd; rw [Nat.mul_comm] at this; omega
theorem getD_of {l : List Int} {j : Nat} (h : j < l.length) : l[j] = l.getD j 0 := by
  rw [List.getD_eq_getElem?_getD, List.getElem?_eq_getElem h]; rfl
theorem flipL_flipL {Wd Hi : Nat} {ps : List Int} (h : ps.length = Wd * Hi) : flipL Wd Hi (flipL Wd Hi ps) = ps := by
  apply List.ext_getElem (by rw [flipL_len, h])
  intro j h1 h2
  rw [flipL_len] at h1
  obtain ⟨x, y, hx, hy, rfl⟩ := split_at h1
  rw [getD_of, getD_of, flipL_at _ hx hy, flipL_at _ hx (show Hi - 1 - y < Hi by omega)]
  rw [show Hi - 1 - (Hi - 1 - y) = y by omega]
theorem mem_getD {l : List Int} {j : Nat} (h : j < l.length) : l.getD j 0 ∈ l := by rw [← getD_of h]; exact List.getElem_mem h
theorem flipL_mem {Wd Hi : Nat} {ps : List Int} (h : ps.length = Wd * Hi) {z : Int} (hz : z ∈ flipL Wd Hi ps) : z ∈ ps := by
  obtain ⟨j, hj, rfl⟩ := List.getElem_of_mem hz
  have hj' := hj
  rw [flipL_len] at hj'
  obtain ⟨x, y, hx, hy, rfl⟩ := split_at hj'
  rw [getD_of, flipL_at _ hx hy]
  exact mem_getD (by rw [h]; exact spot_lt hx (by omega))
theorem ok_flip {k d : Int} {Wd Hi : Nat} {cs ps : List Int} (h : Im.okB k d Wd Hi cs ps = true) : Im.okB k d Wd Hi cs (flipL Wd Hi ps) = true := by
  obtain ⟨h1, h2, h3, h4, h5, h6⟩ := ok_open h
  have e : ((Wd * Hi : Nat) : Int) = (Wd : Int) * (Hi : Int) := by simp
  exact Im.okB_yes ⟨h1, h2, h3, h4, by rw [flipL_len]; exact e, fun z hz => h6 z (flipL_mem (by omega) hz)⟩

theorem implFlip_ok (k d : Int) (Wd Hi : Nat) (ca : Option Addr) (cn cc : Nat) (pa : Option Addr) (pn pc : Nat) (cs ps : List Int) (w : World) (hc : Ints w ca cs) (hcn : cs.length = cn) (hcl : cn ≤ 1000) (hp : Ints w pa ps) (hpn : ps.length = pn) (hok : Im.okB k d Wd Hi cs ps = true) :
    Calls Try.prog 10 #[.agg #[.int .i64 k, .int .i64 d, .int .i64 (Wd : Int), .int .i64 (Hi : Int), .slice ca cn cc, .slice pa pn pc]] w fun e w' => (∃ x cx y cy, e = .returned (.agg #[.int .i64 k, .int .i64 d, .int .i64 (Wd : Int), .int .i64 (Hi : Int), .slice x cn cx, .slice y pn cy]) ∧ Ints w' x cs ∧ Ints w' y (flipL Wd Hi ps)) ∧ Below w.heap.size w w' := by
  obtain ⟨_, hw, hh, _, hm, _⟩ := ok_open hok
  have e : ((Wd * Hi : Nat) : Int) = (Wd : Int) * (Hi : Int) := by simp
  have hmm : pn = Wd * Hi := by omega
  have hmul : Wd * Hi ≤ 20 * 20 := Nat.mul_le_mul (by omega) (by omega)
  have hO := impl_imageOk k d Wd Hi ca cn cc pa pn pc ((w.alloc (.cells #[.int .i64 k, .int .i64 d, .int .i64 (Wd : Int), .int .i64 (Hi : Int), .slice ca cn cc, .slice pa pn pc] 25)).alloc (.cells #[.int .i64 0, .int .i64 0, .int .i64 0, .int .i64 0, .slice none 0 0, .slice none 0 0] 25)) cs ps (hc.kept (below_two _ _ _)) hcn (by omega) (hp.kept (below_two _ _ _)) hpn (by omega)
  rw [hok] at hO
  refine (impl_flip_yes k d Wd Hi ca cn cc pa pn pc cs ps w hc hcn (by omega) hp hpn (by omega) (by omega) hmm hO).mono ?_
  rintro e w' ⟨⟨x, cx, y, cy, rfl, hT⟩, b⟩
  rw [hmm]
  exact ⟨⟨x, cx, y, cy, rfl, (hT.two b.size).ints.1, (hT.two b.size).ints.2⟩, b⟩
theorem specFlip_ok (k d : Int) (Wd Hi : Nat) (ca : Option Addr) (cn cc : Nat) (pa : Option Addr) (pn pc : Nat) (cs ps : List Int) (w : World) (hc : Ints w ca cs) (hcn : cs.length = cn) (hcl : cn ≤ 1000) (hp : Ints w pa ps) (hpn : ps.length = pn) (hpc : pn ≤ pc) (hok : Im.okB k d Wd Hi cs ps = true) :
    Calls Try.prog 12 #[.agg #[.int .i64 k, .int .i64 d, .int .i64 (Wd : Int), .int .i64 (Hi : Int), .slice ca cn cc, .slice pa pn pc]] w fun e w' => (∃ x cx y cy, e = .returned (.agg #[.int .i64 k, .int .i64 d, .int .i64 (Wd : Int), .int .i64 (Hi : Int), .slice x cn cx, .slice y pn cy]) ∧ Ints w' x cs ∧ Ints w' y (flipL Wd Hi ps)) ∧ Below w.heap.size w w' := by
  obtain ⟨_, hw, hh, _, hm, _⟩ := ok_open hok
  have e : ((Wd * Hi : Nat) : Int) = (Wd : Int) * (Hi : Int) := by simp
  have hmm : pn = Wd * Hi := by omega
  have hO := spec_imageOk k d Wd Hi ca cn cc pa pn pc ((w.alloc (.cells #[.int .i64 k, .int .i64 d, .int .i64 (Wd : Int), .int .i64 (Hi : Int), .slice ca cn cc, .slice pa pn pc] 25)).alloc (.cells #[.int .i64 0, .int .i64 0, .int .i64 0, .int .i64 0, .slice none 0 0, .slice none 0 0] 25)) cs ps (hc.kept (below_two _ _ _)) hcn (by omega) (hp.kept (below_two _ _ _)) hpn
  rw [hok] at hO
  refine (spec_flip_yes k d Wd Hi ca cn cc pa pn pc cs ps w hc hcn (by omega) hp hpn (by omega) (by omega) hmm hpc (by omega) hO).mono ?_
  rintro e w' ⟨⟨x, cx, y, cy, rfl, h1, h2⟩, b⟩
  rw [hmm]
  exact ⟨⟨x, cx, y, cy, rfl, h1, h2⟩, b⟩
theorem implFlip_bad (k d wd hi : Int) (ca : Option Addr) (cn cc : Nat) (pa : Option Addr) (pn pc : Nat) (cs ps : List Int) (w : World) (hc : Ints w ca cs) (hcn : cs.length = cn) (hcl : cn ≤ 1000) (hp : Ints w pa ps) (hpn : ps.length = pn) (hpl : pn ≤ 1000) (hok : Im.okB k d wd hi cs ps = false) :
    Calls Try.prog 10 #[.agg #[.int .i64 k, .int .i64 d, .int .i64 wd, .int .i64 hi, .slice ca cn cc, .slice pa pn pc]] w fun e w' => e = .returned (.agg #[.int .i64 0, .int .i64 0, .int .i64 0, .int .i64 0, .slice none 0 0, .slice none 0 0]) ∧ Below w.heap.size w w' := by
  have hO := impl_imageOk k d wd hi ca cn cc pa pn pc ((w.alloc (.cells #[.int .i64 k, .int .i64 d, .int .i64 wd, .int .i64 hi, .slice ca cn cc, .slice pa pn pc] 25)).alloc (.cells #[.int .i64 0, .int .i64 0, .int .i64 0, .int .i64 0, .slice none 0 0, .slice none 0 0] 25)) cs ps (hc.kept (below_two _ _ _)) hcn (by omega) (hp.kept (below_two _ _ _)) hpn (by omega)
  rw [hok] at hO
  exact impl_flip_no k d wd hi ca cn cc pa pn pc w hO
theorem specFlip_bad (k d wd hi : Int) (ca : Option Addr) (cn cc : Nat) (pa : Option Addr) (pn pc : Nat) (cs ps : List Int) (w : World) (hc : Ints w ca cs) (hcn : cs.length = cn) (hcl : cn ≤ 1000) (hp : Ints w pa ps) (hpn : ps.length = pn) (hok : Im.okB k d wd hi cs ps = false) :
    Calls Try.prog 12 #[.agg #[.int .i64 k, .int .i64 d, .int .i64 wd, .int .i64 hi, .slice ca cn cc, .slice pa pn pc]] w fun e w' => e = .returned (.agg #[.int .i64 0, .int .i64 0, .int .i64 0, .int .i64 0, .slice none 0 0, .slice none 0 0]) ∧ Below w.heap.size w w' := by
  have hO := spec_imageOk k d wd hi ca cn cc pa pn pc ((w.alloc (.cells #[.int .i64 k, .int .i64 d, .int .i64 wd, .int .i64 hi, .slice ca cn cc, .slice pa pn pc] 25)).alloc (.cells #[.int .i64 0, .int .i64 0, .int .i64 0, .int .i64 0, .slice none 0 0, .slice none 0 0] 25)) cs ps (hc.kept (below_two _ _ _)) hcn (by omega) (hp.kept (below_two _ _ _)) hpn
  rw [hok] at hO
  exact spec_flip_no k d wd hi ca cn cc pa pn pc w hO

/-- a point of a picture that is ok -/
theorem implAt_ok (k d : Int) (Wd Hi X Y : Nat) (ca : Option Addr) (cn cc : Nat) (pa : Option Addr) (pn pc : Nat) (cs ps : List Int) (w : World) (hc : Ints w ca cs) (hcn : cs.length = cn) (hcl : cn ≤ 1000) (hp : Ints w pa ps) (hpn : ps.length = pn) (hpl : pn ≤ 1000) (hok : Im.okB k d Wd Hi cs ps = true) (hX : X < Wd) (hY : Y < Hi) :
    Calls Try.prog 15 #[.agg #[.int .i64 k, .int .i64 d, .int .i64 (Wd : Int), .int .i64 (Hi : Int), .slice ca cn cc, .slice pa pn pc], .int .i64 (X : Int), .int .i64 (Y : Int)] w fun e w' => e = .returned (.tuple #[.int .i64 (ps.getD (Y * Wd + X) 0), .bool true]) ∧ Below w.heap.size w w' := by
  have hB : Im.atB k d Wd Hi X Y cs ps = true := by unfold Im.atB; rw [hok, inB_yes (by omega)]; rfl
  have hV : Im.atV k d Wd Hi X Y cs ps = ps.getD (Y * Wd + X) 0 := by
    unfold Im.atV; rw [if_pos hB]
    congr 1
  have := impl_imageAt k d Wd Hi X Y ca cn cc pa pn pc w cs ps hc hcn (by omega) hp hpn (by omega)
  rw [hB, hV] at this
  exact this
end Go.Proofs.Ytgeepemhmkoknaa
