/- A point of a picture: whether it is there, and which it is. -/
import Derived.Test.YtcgmmpfckmhahaaImgOk3
import Derived.Test.YtcgmmpfckmhahaaImgSpec3
namespace Go.Proofs.Ytcgmmpfckmhahaa
open Go.RowKit

/-- whether a place is in a picture -/
def inB (x y wd hi : Int) : Bool := decide (0 ≤ x ∧ x < wd ∧ 0 ≤ y ∧ y < hi)
theorem inB_yes {x y wd hi : Int} (h : 0 ≤ x ∧ x < wd ∧ 0 ≤ y ∧ y < hi) : inB x y wd hi = true := decide_eq_true h
theorem inB_no {x y wd hi : Int} (h : ¬ (0 ≤ x ∧ x < wd ∧ 0 ≤ y ∧ y < hi)) : inB x y wd hi = false := decide_eq_false h

theorem method_size (k d wd hi : Int) (ca : Option Addr) (cn cc : Nat) (pa : Option Addr) (pn pc : Nat) (w : World) : (method 301 75 (.agg #[.int .i64 k, .int .i64 d, .int .i64 wd, .int .i64 hi, .slice ca cn cc, .slice pa pn pc]) "loop.example/intarsia/impl.size").run Try.prog w = .ok (159, .agg #[.int .i64 k, .int .i64 d, .int .i64 wd, .int .i64 hi, .slice ca cn cc, .slice pa pn pc]) w := by kernel_rfl

set_option maxHeartbeats 400000 in
theorem size_any (k d wd hi : Int) (ca : Option Addr) (cn cc : Nat) (pa : Option Addr) (pn pc : Nat) (w : World) :
    Calls Try.prog 159 #[.agg #[.int .i64 k, .int .i64 d, .int .i64 wd, .int .i64 hi, .slice ca cn cc, .slice pa pn pc]] w fun e w' => e = .returned (.tuple #[.int .i64 wd, .int .i64 hi]) ∧ Below w.heap.size w w' := by
  go_enter Try.func159, Try.ntmps159
  go_wp2_with fail
  go_quiet (fail)
  go_wp2_with fail
  go_ret2
  exact ⟨rfl, below_drewN ((Below.refl _ _).alloc (Nat.le_refl _) _) _⟩

/-- the number of a point in its picture -/
structure Spot (wd hi x y : Int) (pn : Nat) (I X Y Wd : Nat) : Prop where
  x : x = (X : Int)
  y : y = (Y : Int)
  wd : wd = (Wd : Int)
  i : I = Y * Wd + X
  lt : I < pn
  small : I ≤ 400 ∧ X ≤ 20 ∧ Y ≤ 20 ∧ Wd ≤ 20 ∧ Y * Wd ≤ 400

theorem spot_of {wd hi x y : Int} {pn : Nat} (hw : 1 ≤ wd ∧ wd ≤ 20) (hh : 1 ≤ hi ∧ hi ≤ 20) (hp : (pn : Int) = wd * hi) (h : 0 ≤ x ∧ x < wd ∧ 0 ≤ y ∧ y < hi) : ∃ I X Y Wd, Spot wd hi x y pn I X Y Wd := by
  obtain ⟨X, rfl⟩ := Int.eq_ofNat_of_zero_le h.1
  obtain ⟨Y, rfl⟩ := Int.eq_ofNat_of_zero_le h.2.2.1
  obtain ⟨Wd, rfl⟩ := Int.eq_ofNat_of_zero_le (show 0 ≤ wd by omega)
  obtain ⟨Hi, rfl⟩ := Int.eq_ofNat_of_zero_le (show 0 ≤ hi by omega)
  have e : ((Wd * Hi : Nat) : Int) = (Wd : Int) * (Hi : Int) := by simp
  have hp' : pn = Wd * Hi := by omega
  have h1 : (Y + 1) * Wd ≤ Hi * Wd := Nat.mul_le_mul_right _ (by omega)
  rw [Nat.add_mul, Nat.one_mul, Nat.mul_comm Hi Wd] at h1
  have h2 : Wd * Hi ≤ 20 * 20 := Nat.mul_le_mul (by omega) (by omega)
  exact ⟨Y * Wd + X, X, Y, Wd, rfl, rfl, rfl, rfl, by omega, by omega⟩

set_option maxHeartbeats 1000000 in
theorem at_any (k d wd hi x y : Int) (ca : Option Addr) (cn cc : Nat) (pa : Option Addr) (pn pc : Nat) (ps : List Int) (w : World) (I X Y Wd : Nat) (h : Spot wd hi x y pn I X Y Wd) (hp : Ints w pa ps) (hpn : ps.length = pn) :
    Calls Try.prog 158 #[.agg #[.int .i64 k, .int .i64 d, .int .i64 wd, .int .i64 hi, .slice ca cn cc, .slice pa pn pc], .int .i64 x, .int .i64 y] w fun e w' => e = .returned (.int .i64 (ps.getD I 0)) ∧ Below w.heap.size w w' := by
  obtain ⟨rfl, rfl, rfl, hi', hlt, hs1, hs2, hs3, hs4, hs5⟩ := h
  have bel : Below w.heap.size w (w.alloc (.cells #[.int .i64 k, .int .i64 d, .int .i64 (Wd : Int), .int .i64 hi, .slice ca cn cc, .slice pa pn pc] 75)) := (Below.refl _ _).alloc (Nat.le_refl _) _
  have hIl : I < ps.length := by omega
  obtain ⟨v, hv⟩ : ∃ v, v = ps.getD I 0 := ⟨_, rfl⟩
  rw [← hv]
  rcases hp.kept bel with g | ⟨b, off, rfl, hbB, hc⟩
  · rw [g] at hIl; simp at hIl
  · have hck := hc I hIl
    have hv' : ps[I] = v := by rw [hv, List.getD_eq_getElem?_getD, List.getElem?_eq_getElem hIl]; rfl
    rw [hv'] at hck
    obtain ⟨P, hP⟩ : ∃ P, P = Y * Wd := ⟨_, rfl⟩
    have hPi : (Y : Int) * (Wd : Int) = (P : Int) := by rw [hP]; simp
    have hIi : (P : Int) + (X : Int) = (I : Int) := by omega
    have hPb : P ≤ 400 := by omega
    have hII : (I : Int) < (pn : Int) := by omega
    clear hc hv hv' hi' hP hp hs5
    go_enter Try.func158, Try.ntmps158
    go_wp2_with fail
    go_ret
    exact ⟨rfl, bel⟩
end Go.Proofs.Ytcgmmpfckmhahaa
