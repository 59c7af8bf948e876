/- A picture turned to the right: what the law on it wants. -/
import Derived.Test.YtgeepemhmkoknaaNoTurn
import Derived.Test.YtgeepemhmkoknaaWiImage
namespace Go.Proofs.Ytgeepemhmkoknaa
open Go.RowKit

def turnL (Wd Hi : Nat) (ps : List Int) : List Int := upto (ptF Hi (turnF Wd Hi ps)) (Hi * Wd)
theorem turnL_len (Wd Hi : Nat) (ps : List Int) : (turnL Wd Hi ps).length = Hi * Wd := upto_length _ _
theorem upto_getD (F : Nat → Int) {n j : Nat} (h : j < n) : (upto F n).getD j 0 = F j := by simp [upto, h]
theorem spot_lt {Wd Hi x y : Nat} (hx : x < Wd) (hy : y < Hi) : y * Wd + x < Wd * Hi := by
  have := Nat.mul_le_mul_right Wd (show y + 1 ≤ Hi by omega)
  rw [Nat.add_mul, Nat.one_mul, Nat.mul_comm Hi Wd] at this; omega
theorem turnL_at {Wd Hi x y : Nat} (ps : List Int) (hx : x < Hi) (hy : y < Wd) : (turnL Wd Hi ps).getD (y * Hi + x) 0 = ps.getD ((Hi - 1 - x) * Wd + y) 0 := by
  unfold turnL; rw [upto_getD _ (spot_lt hx hy), ptF_at _ hx]; rfl
theorem split_at {Wd Hi j : Nat} (h : j < Wd * Hi) : ∃ x y, x < Wd ∧ y < Hi ∧ j = y * Wd + x := by
  have hW : 0 < Wd := by
    rcases Nat.eq_zero_or_pos Wd with e | e
    · subst e; omega
    · exact e
  refine ⟨j % Wd, j / Wd, Nat.mod_lt _ hW, ?_, ?_⟩
  · exact Nat.div_lt_of_lt_mul h
  · have := Nat.div_add_mod j Wd; rw [Nat.mul_comm] at this; omega
theorem getD_of {l : List Int} {j : Nat} (h : j < l.length) : l[j] = l.getD j 0 := by
  rw [List.getD_eq_getElem?_getD, List.getElem?_eq_getElem h]; rfl
theorem mem_getD {l : List Int} {j : Nat} (h : j < l.length) : l.getD j 0 ∈ l := by rw [← getD_of h]; exact List.getElem_mem h
/-- twice turned it stands the other way round -/
theorem turn2_at {Wd Hi j : Nat} (ps : List Int) (h : j < Wd * Hi) : (turnL Hi Wd (turnL Wd Hi ps)).getD j 0 = ps.getD (Wd * Hi - 1 - j) 0 := by
  obtain ⟨x, y, hx, hy, rfl⟩ := split_at h
  rw [turnL_at _ hx hy, turnL_at _ hy (show Wd - 1 - x < Wd by omega)]
  congr 1
  obtain ⟨q, rfl⟩ : ∃ q, Hi = y + 1 + q := ⟨Hi - 1 - y, by omega⟩
  rw [show y + 1 + q - 1 - y = q by omega, Nat.mul_add, Nat.mul_add, Nat.mul_one, Nat.mul_comm Wd y, Nat.mul_comm Wd q]
  omega
theorem turn2_len (Wd Hi : Nat) (ps : List Int) : (turnL Hi Wd (turnL Wd Hi ps)).length = Wd * Hi := turnL_len _ _ _
theorem turn4 {Wd Hi : Nat} {ps : List Int} (h : ps.length = Wd * Hi) : turnL Hi Wd (turnL Wd Hi (turnL Hi Wd (turnL Wd Hi ps))) = ps := by
  apply List.ext_getElem (by rw [turn2_len, h])
  intro j h1 h2
  rw [turn2_len] at h1
  rw [getD_of, getD_of, turn2_at _ h1, turn2_at _ (show Wd * Hi - 1 - j < Wd * Hi by omega)]
  congr 1; omega
theorem turnL_mem {Wd Hi : Nat} {ps : List Int} (h : ps.length = Wd * Hi) {z : Int} (hz : z ∈ turnL Wd Hi ps) : z ∈ ps := by
  obtain ⟨j, hj, rfl⟩ := List.getElem_of_mem hz
  have hj' := hj
  rw [turnL_len] at hj'
  obtain ⟨x, y, hx, hy, rfl⟩ := split_at hj'
  rw [getD_of, turnL_at _ hx hy]
  exact mem_getD (by rw [h]; exact spot_lt hy (by omega))
theorem ok_turn {k d : Int} {Wd Hi : Nat} {cs ps : List Int} (h : Im.okB k d Wd Hi cs ps = true) : Im.okB k d Hi Wd cs (turnL Wd Hi ps) = true := by
  obtain ⟨h1, h2, h3, h4, h5, h6⟩ := ok_open h
  have e : ((Wd * Hi : Nat) : Int) = (Wd : Int) * (Hi : Int) := by simp
  have e' : ((Hi * Wd : Nat) : Int) = (Hi : Int) * (Wd : Int) := by simp
  exact Im.okB_yes ⟨h1, h3, h2, h4, by rw [turnL_len]; exact e', fun z hz => h6 z (turnL_mem (by omega) hz)⟩

theorem implTurn_ok (k d : Int) (Wd Hi : Nat) (ca : Option Addr) (cn cc : Nat) (pa : Option Addr) (pn pc : Nat) (cs ps : List Int) (w : World) (hc : Ints w ca cs) (hcn : cs.length = cn) (hcl : cn ≤ 1000) (hp : Ints w pa ps) (hpn : ps.length = pn) (hok : Im.okB k d Wd Hi cs ps = true) :
    Calls Try.prog 17 #[.agg #[.int .i64 k, .int .i64 d, .int .i64 (Wd : Int), .int .i64 (Hi : Int), .slice ca cn cc, .slice pa pn pc]] w fun e w' => (∃ x cx y cy, e = .returned (.agg #[.int .i64 k, .int .i64 d, .int .i64 (Hi : Int), .int .i64 (Wd : Int), .slice x cn cx, .slice y pn cy]) ∧ Ints w' x cs ∧ Ints w' y (turnL Wd Hi ps)) ∧ Below w.heap.size w w' := by
  obtain ⟨_, hw, hh, _, hm, _⟩ := ok_open hok
  have e : ((Wd * Hi : Nat) : Int) = (Wd : Int) * (Hi : Int) := by simp
  have hmm : pn = Wd * Hi := by omega
  have hmul : Wd * Hi ≤ 20 * 20 := Nat.mul_le_mul (by omega) (by omega)
  have hO := impl_imageOk k d Wd Hi ca cn cc pa pn pc ((w.alloc (.cells #[.int .i64 k, .int .i64 d, .int .i64 (Wd : Int), .int .i64 (Hi : Int), .slice ca cn cc, .slice pa pn pc] 25)).alloc (.cells #[.int .i64 0, .int .i64 0, .int .i64 0, .int .i64 0, .slice none 0 0, .slice none 0 0] 25)) cs ps (hc.kept (below_two _ _ _)) hcn (by omega) (hp.kept (below_two _ _ _)) hpn (by omega)
  rw [hok] at hO
  refine (impl_turn_yes k d Wd Hi ca cn cc pa pn pc cs ps w hc hcn (by omega) hp hpn (by omega) (by omega) hmm hO).mono ?_
  rintro e w' ⟨⟨x, cx, y, cy, rfl, hT⟩, b⟩
  rw [hmm, Nat.mul_comm Wd Hi]
  exact ⟨⟨x, cx, y, cy, rfl, (hT.two b.size).ints.1, (hT.two b.size).ints.2⟩, b⟩
theorem specTurn_ok (k d : Int) (Wd Hi : Nat) (ca : Option Addr) (cn cc : Nat) (pa : Option Addr) (pn pc : Nat) (cs ps : List Int) (w : World) (hc : Ints w ca cs) (hcn : cs.length = cn) (hcl : cn ≤ 1000) (hp : Ints w pa ps) (hpn : ps.length = pn) (hpc : pn ≤ pc) (hok : Im.okB k d Wd Hi cs ps = true) :
    Calls Try.prog 18 #[.agg #[.int .i64 k, .int .i64 d, .int .i64 (Wd : Int), .int .i64 (Hi : Int), .slice ca cn cc, .slice pa pn pc]] w fun e w' => (∃ x cx y cy, e = .returned (.agg #[.int .i64 k, .int .i64 d, .int .i64 (Hi : Int), .int .i64 (Wd : Int), .slice x cn cx, .slice y pn cy]) ∧ Ints w' x cs ∧ Ints w' y (turnL Wd Hi ps)) ∧ Below w.heap.size w w' := by
  obtain ⟨_, hw, hh, _, hm, _⟩ := ok_open hok
  have e : ((Wd * Hi : Nat) : Int) = (Wd : Int) * (Hi : Int) := by simp
  have hmm : pn = Wd * Hi := by omega
  have hO := spec_imageOk k d Wd Hi ca cn cc pa pn pc ((w.alloc (.cells #[.int .i64 k, .int .i64 d, .int .i64 (Wd : Int), .int .i64 (Hi : Int), .slice ca cn cc, .slice pa pn pc] 25)).alloc (.cells #[.int .i64 0, .int .i64 0, .int .i64 0, .int .i64 0, .slice none 0 0, .slice none 0 0] 25)) cs ps (hc.kept (below_two _ _ _)) hcn (by omega) (hp.kept (below_two _ _ _)) hpn
  rw [hok] at hO
  refine (spec_turn_yes k d Wd Hi ca cn cc pa pn pc cs ps w hc hcn (by omega) hp hpn (by omega) (by omega) hmm hpc (by omega) hO).mono ?_
  rintro e w' ⟨⟨x, cx, y, cy, rfl, h1, h2⟩, b⟩
  rw [hmm, Nat.mul_comm Wd Hi]
  exact ⟨⟨x, cx, y, cy, rfl, h1, h2⟩, b⟩
theorem implTurn_bad (k d wd hi : Int) (ca : Option Addr) (cn cc : Nat) (pa : Option Addr) (pn pc : Nat) (cs ps : List Int) (w : World) (hc : Ints w ca cs) (hcn : cs.length = cn) (hcl : cn ≤ 1000) (hp : Ints w pa ps) (hpn : ps.length = pn) (hpl : pn ≤ 1000) (hok : Im.okB k d wd hi cs ps = false) :
    Calls Try.prog 17 #[.agg #[.int .i64 k, .int .i64 d, .int .i64 wd, .int .i64 hi, .slice ca cn cc, .slice pa pn pc]] w fun e w' => e = .returned (.agg #[.int .i64 0, .int .i64 0, .int .i64 0, .int .i64 0, .slice none 0 0, .slice none 0 0]) ∧ Below w.heap.size w w' := by
  have hO := impl_imageOk k d wd hi ca cn cc pa pn pc ((w.alloc (.cells #[.int .i64 k, .int .i64 d, .int .i64 wd, .int .i64 hi, .slice ca cn cc, .slice pa pn pc] 25)).alloc (.cells #[.int .i64 0, .int .i64 0, .int .i64 0, .int .i64 0, .slice none 0 0, .slice none 0 0] 25)) cs ps (hc.kept (below_two _ _ _)) hcn (by omega) (hp.kept (below_two _ _ _)) hpn (by omega)
  rw [hok] at hO
  exact impl_turn_no k d wd hi ca cn cc pa pn pc w hO
theorem specTurn_bad (k d wd hi : Int) (ca : Option Addr) (cn cc : Nat) (pa : Option Addr) (pn pc : Nat) (cs ps : List Int) (w : World) (hc : Ints w ca cs) (hcn : cs.length = cn) (hcl : cn ≤ 1000) (hp : Ints w pa ps) (hpn : ps.length = pn) (hok : Im.okB k d wd hi cs ps = false) :
    Calls Try.prog 18 #[.agg #[.int .i64 k, .int .i64 d, .int .i64 wd, .int .i64 hi, .slice ca cn cc, .slice pa pn pc]] w fun e w' => e = .returned (.agg #[.int .i64 0, .int .i64 0, .int .i64 0, .int .i64 0, .slice none 0 0, .slice none 0 0]) ∧ Below w.heap.size w w' := by
  have hO := spec_imageOk k d wd hi ca cn cc pa pn pc ((w.alloc (.cells #[.int .i64 k, .int .i64 d, .int .i64 wd, .int .i64 hi, .slice ca cn cc, .slice pa pn pc] 25)).alloc (.cells #[.int .i64 0, .int .i64 0, .int .i64 0, .int .i64 0, .slice none 0 0, .slice none 0 0] 25)) cs ps (hc.kept (below_two _ _ _)) hcn (by omega) (hp.kept (below_two _ _ _)) hpn
  rw [hok] at hO
  exact spec_turn_no k d wd hi ca cn cc pa pn pc w hO

theorem ints_cells {w : World} {a : Option Addr} {l : List Int} (h : Ints w a l) (hl : 0 < l.length) : ∃ b off, a = some ⟨b, off, none⟩ ∧ ∀ k, k < l.length → w.cell? ⟨b, off + k, none⟩ = some (.int .i64 (l.getD k 0)) := by
  rcases h with e | ⟨b, off, rfl, _, hc⟩
  · rw [e] at hl; simp at hl
  · exact ⟨b, off, rfl, fun k hk => by rw [hc k hk, List.getD_eq_getElem?_getD, List.getElem?_eq_getElem hk]; rfl⟩
end Go.Proofs.Ytgeepemhmkoknaa
