/- A picture seen by its colours. -/
import Derived.Test.YtcahppmnfoopkaaColTop
import Derived.Test.YtcahppmnfoopkaaDrawnWalks
namespace Go.Proofs.Ytcahppmnfoopkaa
open Go.RowKit

/-- the colours of the points -/
def colF (k : Int) (D : Nat) (cs : List Int) (Wd : Nat) (ps : List Int) : Nat → Nat → Int := fun x y => colOf k D cs (ps.getD (y * Wd + x) 0)

theorem spot_in {Wd Hi pn x y : Nat} (hx : x < Wd) (hy : y < Hi) (hW : Wd ≤ 20) (hH : Hi ≤ 20) (hm : pn = Wd * Hi) : Spot (Wd : Int) (Hi : Int) (x : Int) (y : Int) pn (y * Wd + x) x y Wd := by
  have h1 : (y + 1) * Wd ≤ Hi * Wd := Nat.mul_le_mul_right _ (by omega)
  rw [Nat.add_mul, Nat.one_mul, Nat.mul_comm Hi Wd] at h1
  have h2 : Wd * Hi ≤ 20 * 20 := Nat.mul_le_mul (by omega) (by omega)
  exact ⟨rfl, rfl, rfl, rfl, by omega, by omega⟩

/-- all points of a view, gathered -/
theorem gathered (T : TypeId) (V : Value) (fs : Nat) (rs : Value) (fa : Nat) (ra : Value) (wd hi : Nat) (f : Nat → Nat → Int) (hwd : wd ≤ 20) (hhi : hi ≤ 20) (w : World) (S : Seen T V fs rs fa ra wd hi f w.heap.size w) :
    Calls Try.prog 41 #[.func (.func 60) #[] #[.pointer (some ⟨w.heap.size, 0, none⟩)]] (w.alloc (.cells #[.iface T V] 55)) fun e W' => (∃ y cy, e = .returned (.slice y (wd * hi) cy) ∧ Ints W' y (upto (ptF wd f) (wd * hi))) ∧ Below w.heap.size w W' := by
  have hmul : wd * hi ≤ 20 * 20 := Nat.mul_le_mul hwd hhi
  refine (collect_any 60 _ (enters_of Try.func60 (by kernel_rfl) rfl) _ (by rw [upto_length]; unfold maxLen; omega) (by rw [upto_length]; omega) _ (points_tells 1 (Nat.le_refl _) T V fs rs fa ra wd hi f hwd hhi w S)).mono ?_
  rintro e w4 ⟨⟨v, rfl, hv, _⟩, b4⟩
  have hO4 := ownI_of_row hv
  rw [upto_length] at hO4
  obtain ⟨y, cy, rfl, hOy⟩ := hO4.owns
  exact ⟨⟨y, cy, rfl, hOy.ints⟩, ((Below.refl _ _).alloc (Nat.le_refl _) _).trans (b4.mono (by simp))⟩

/-- the colours of all points -/
def cols (k : Int) (D : Nat) (cs ps : List Int) : List Int := ps.map fun p => colOf k D cs p
theorem cols_upto (k : Int) (D : Nat) (cs ps : List Int) (Wd Hi : Nat) (hpn : ps.length = Wd * Hi) : upto (ptF Wd (colF k D cs Wd ps)) (Wd * Hi) = cols k D cs ps := by
  apply List.ext_getElem
  · rw [upto_length]; simp [cols, hpn]
  · intro i h1 h2
    simp only [upto, cols, List.getElem_map, List.getElem_range]
    unfold ptF colF
    have hi : i < ps.length := by simpa [cols] using h2
    have e : i / Wd * Wd + i % Wd = i := by rw [Nat.mul_comm]; exact Nat.div_add_mod i Wd
    rw [e, List.getD_eq_getElem?_getD, List.getElem?_eq_getElem hi]; rfl

theorem drewN_add (w : World) (a b : Nat) : (w.drewN a).drewN b = w.drewN (a + b) := by
  simp [World.drewN, Nat.add_assoc]

end Go.Proofs.Ytcahppmnfoopkaa
