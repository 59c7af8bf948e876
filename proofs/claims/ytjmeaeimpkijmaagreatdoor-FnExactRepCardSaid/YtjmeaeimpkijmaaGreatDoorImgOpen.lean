/- A picture that came in by value, opened. -/
import Derived.Test.YtjmeaeimpkijmaaGreatDoorRow64
import Derived.ProofKit
import Derived.OpenShut
import Derived.ChangeOld
namespace Go.Proofs.YtjmeaeimpkijmaaGreatDoor
open Go.ChangeShapes Go.WideShapes Go.ChangeAt Go.RowKit

theorem array6 {α : Type} {cs : Array α} (h : cs.size = 6) : ∃ c0 c1 c2 c3 c4 c5, cs = #[c0, c1, c2, c3, c4, c5] := by
  obtain ⟨l⟩ := cs
  match l, h with
  | [c0, c1, c2, c3, c4, c5], _ => exact ⟨c0, c1, c2, c3, c4, c5, rfl⟩

theorem row64_trod {H : Type} {enc : TypeId × Value → H} {w : World} {base : Nat} {held : Bool} {n : Nat} {c : Value} {y : DataW H × List MemPlace} (h : DataW.trod enc Tryz.prog w base (fun _ => true) held n 26 [c] = some y) : ∃ a len cap, c = .slice a len cap ∧ Row64 w a len cap := by
  rcases open_ints Tryz.underlying26 Tryz.underlying3 (by kernel_rfl) h with ⟨hcs, _⟩ | ⟨a, len, cap, zs, hcs, hb, hl, hm, hlen, _, hcell, hwf⟩
  · simp only [List.cons.injEq, and_true] at hcs
    exact ⟨none, 0, 0, hcs, row64_of (zs := []) (.inl ⟨rfl, rfl, rfl, rfl⟩)⟩
  · simp only [List.cons.injEq, and_true] at hcs
    refine ⟨some a, len, cap, hcs, row64_of (zs := zs) (.inr ⟨a, rfl, hl, hm, ?_, hcell, hwf⟩)⟩
    rw [if_pos rfl] at hlen; exact hlen

theorem int_trod {H : Type} {enc : TypeId × Value → H} {w : World} {base : Nat} {held : Bool} {n : Nat} {c : Value} {y : DataW H × List MemPlace} (h : DataW.trod enc Tryz.prog w base (fun _ => true) held n 3 [c] = some y) : ∃ z, c = .int .i64 z ∧ (Lit.int .i64 z).wf = true := by
  obtain ⟨z, e, _, hw⟩ := DataW.trod_int Tryz.underlying3 h
  exact ⟨z, by simpa using e, hw⟩

set_option maxRecDepth 20000 in
/-- the value written out -/
theorem open_image {H : Type} {enc : TypeId × Value → H} {w : World} {base : Nat} {held : Bool} {r : Reach} {b0 : Nat} {v : Value} {d : DataW H} {p : List MemPlace} (hv : Value.okWide Tryz.prog w r b0 28 v) (h : DataW.Trod enc Tryz.prog w base (fun _ => true) held 28 v d p) :
    ∃ (k e wd hi : Int) (ca : Option Addr) (cn cc : Nat) (pa : Option Addr) (pn pc : Nat), v = .agg #[.int .i64 k, .int .i64 e, .int .i64 wd, .int .i64 hi, .slice ca cn cc, .slice pa pn pc] ∧ Row64 w ca cn cc ∧ Row64 w pa pn pc := by
  obtain ⟨cs, rfl, hsz⟩ := okWide_struct Tryz.underlying28 hv
  obtain ⟨c0, c1, c2, c3, c4, c5, rfl⟩ := array6 (hsz.trans (by kernel_rfl))
  obtain ⟨fuel, hf⟩ := h
  obtain ⟨xs, n, _, _, _, hl, hx⟩ := DataW.trod_struct Tryz.underlying28 hf
  have hl6 : xs.length = 6 := hl
  have key : ∀ i, i < 6 → ∃ y, xs[i]? = some y := fun i hi => ⟨xs[i]'(by omega), List.getElem?_eq_getElem (by omega)⟩
  have g0 := hx 0 _ rfl
  have g1 := hx 1 _ rfl
  have g2 := hx 2 _ rfl
  have g3 := hx 3 _ rfl
  have g4 := hx 4 _ rfl
  have g5 := hx 5 _ rfl
  simp only [Value.cells] at g0 g1 g2 g3 g4 g5
  obtain ⟨y0, e0⟩ := key 0 (by omega)
  obtain ⟨y1, e1⟩ := key 1 (by omega)
  obtain ⟨y2, e2⟩ := key 2 (by omega)
  obtain ⟨y3, e3⟩ := key 3 (by omega)
  obtain ⟨y4, e4⟩ := key 4 (by omega)
  obtain ⟨y5, e5⟩ := key 5 (by omega)
  obtain ⟨k, rfl, _⟩ := int_trod (c := c0) (g0.trans e0)
  obtain ⟨d', rfl, _⟩ := int_trod (c := c1) (g1.trans e1)
  obtain ⟨wd, rfl, _⟩ := int_trod (c := c2) (g2.trans e2)
  obtain ⟨hi, rfl, _⟩ := int_trod (c := c3) (g3.trans e3)
  obtain ⟨ca, cn, cc, rfl, hc⟩ := row64_trod (c := c4) (g4.trans e4)
  obtain ⟨pa, pn, pc, rfl, hp⟩ := row64_trod (c := c5) (g5.trans e5)
  exact ⟨k, d', wd, hi, ca, cn, cc, pa, pn, pc, rfl, hc, hp⟩
end Go.Proofs.YtjmeaeimpkijmaaGreatDoor
