/- The law FnExactTokensOut returns true at every input, and leaves its arguments as they were. (The frame is the kit shell, turned to a list of triples of numbers; the walk is mine.) -/
import Derived.Test.YticfbeihmkfifaaRows
import Derived.Test.YticfbeihmkfifaaChecked
import Derived.Test.YticfbeihmkfifaaExTokensOut
import Derived.WalkKit
import Derived.ProofKit
import Derived.OpenShut
import Derived.ShutString
import Derived.ChangeOld
import Derived.Below
import Derived.Deep.SlicePairs
namespace Go.Proofs.Yticfbeihmkfifaa.fnExactTokensOut
open Go.ChangeShapes Go.WideShapes Go.ChangeAt Go.RowKit
open Go.ChangeMaps (open_string shut_string)
set_option linter.unusedVariables false

theorem own : ownKnob Try.prog.godebug = none := by kernel_rfl
theorem laidOut : laidOutB Try.prog = true := by kernel_rfl

theorem addr_add2 (b off i : Nat) : (⟨b, off, none⟩ : Addr).add i = ⟨b, off + i, none⟩ := by
  simp [Addr.add]; try omega

def intV : Value → Int
  | .int _ z => z
  | _ => 0

theorem rowK_of {w : World} {x : Addr} {len cap m : Nat} (hl : len ≤ cap) (hm : cap ≤ maxLen) (hlm : len ≤ m)
    (hx : ∀ i, i < m → ∃ z0 z1 z2 : Int, w.cell? (x.add (i * 3)) = some (.int .i64 z0) ∧ w.cell? (x.add (i * 3 + 1)) = some (.int .i64 z1) ∧ w.cell? (x.add (i * 3 + 2)) = some (.int .i64 z2)) :
    RowK w (some x) len cap := by
  refine ⟨hl, Nat.le_trans hl hm, (List.range len).map (fun i => (intV ((w.cell? (x.add (i * 3))).getD (.bool false)), intV ((w.cell? (x.add (i * 3 + 1))).getD (.bool false)), intV ((w.cell? (x.add (i * 3 + 2))).getD (.bool false)))), by simp, ?_⟩
  by_cases h0 : len = 0
  · left; rw [h0]; rfl
  · obtain ⟨b, off, spot⟩ := x
    obtain ⟨_, _, _, hc, _, _⟩ := hx 0 (by omega)
    have hspot : spot = none := by simpa [Addr.add] using World.cell?_spot hc
    subst hspot
    rw [addr_add2] at hc
    refine .inr ⟨b, off, rfl, World.block_lt_of_cell? _ _ hc, fun i hi => ?_⟩
    have hi' : i < len := by simpa using hi
    obtain ⟨z0, z1, z2, c0, c1, c2⟩ := hx i (by omega)
    simp only [List.getElem_map, List.getElem_range]
    rw [c0, c1, c2]
    rw [addr_add2] at c0 c1 c2
    rw [show off + (i * 3 + 1) = off + i * 3 + 1 by omega] at c1
    rw [show off + (i * 3 + 2) = off + i * 3 + 2 by omega] at c2
    exact ⟨c0, c1, c2⟩

set_option maxRecDepth 100000 in
theorem lifted (os : Os) (started : os.Started) (H : Type) (enc : TypeId × Value → H) :
    ReturnsInHanded {} Try.checked os 3 .any (Rows.fnExactTokensOutSpec.pre6 enc Try.prog Try.f3 Rows.fnExactTokensOutRow.domain false) (Rows.fnExactTokensOutSpec.post enc Try.prog Try.f3 false true false false) := by
  refine returnsInHanded_of_change (C := Try.checked) own started (by kernel_rfl) Try.func3
    (ChangeSpec.witness6 (enc := enc) (C := Try.checked) false ⟨#[], #[.slice none 0 0], []⟩ 8 (by kernel_rfl) (by kernel_rfl) (by kernel_rfl) (by kernel_rfl)) ?_
  intro W base args ds gs before hval0 hW hcnd _
  have hval : ∀ (j : Nat) t v, Try.f3.params[j]? = some t → args[j]? = some v → Value.okWide Try.prog W .any base t v := hval0
  have hW' := hW
  obtain ⟨p, q, hA0, hV, rfl, hfz, hnd⟩ := hW
  have hA : DataW.TrodAll enc Try.prog W 0 (fun _ => true) true Try.f3.params.toList args.toList ds p := hA0
  rw [Try.params3] at hA hval
  obtain ⟨v0, vs0, d0, ds0, p0, q0, hargs, rfl, rfl, h0, r0⟩ := trodAll_cons hA
  obtain ⟨rfl, rfl, rfl⟩ := trodAll_nil r0
  obtain rfl : args = #[v0] := by cases args; simp_all
  obtain ⟨rfl, rfl⟩ := trodVars_none hV
  obtain ⟨a0, len0, cap0, rfl⟩ := okWide_slice Try.underlying22 (hval 0 22 v0 rfl rfl)
  have k0 := h0
  have lt0 : ∀ x ∈ p0, x.block < W.heap.size := by obtain ⟨m, hm⟩ := k0; exact DataW.trod_lt m _ _ _ hm
  have w0 : RowK W a0 len0 cap0 := by
    obtain ⟨fuel, hf⟩ := h0
    rcases Go.Deep.open_slice Try.underlying22 hf with ⟨hcs, _⟩ | ⟨x, l, c, m, n, D, Pl, hcs, _, hl, hm, hmm, _, hx⟩
    · simp [Value.cells] at hcs
      obtain ⟨rfl, rfl, rfl⟩ := hcs
      exact ⟨Nat.le_refl _, Nat.zero_le _, [], rfl, .inl rfl⟩
    · simp [Value.cells] at hcs
      obtain ⟨rfl, rfl, rfl⟩ := hcs
      refine rowK_of hl hm (m := m) (by rw [hmm]; split <;> omega) (fun i hi => ?_)
      obtain ⟨cs', h1, h2⟩ := hx i hi
      have ce : Try.prog.cellsOf 61 = 3 := by kernel_rfl
      have ci : Try.prog.cellsOf 3 = 1 := by kernel_rfl
      rw [ce] at h1
      obtain ⟨_, hlen, hcell⟩ := World.cells?_some h1
      obtain ⟨xs, k, hk, hxy, _, hxl, hfl⟩ := DataW.trod_struct Try.underlying61 h2
      match xs, hxl, cs', hlen with
      | [y0, y1, y2], _, [v0, v1, v2], _ =>
        have g0 := hfl 0 _ rfl
        have g1 := hfl 1 _ rfl
        have g2 := hfl 2 _ rfl
        simp [ci] at g0 g1 g2
        have e0 := hcell 0 (by omega)
        have e1 := hcell 1 (by omega)
        have e2 := hcell 2 (by omega)
        rw [Go.Deep.add_add] at e0 e1 e2
        obtain ⟨z0, q0, _⟩ := DataW.trod_int Try.underlying3 g0
        obtain ⟨z1, q1, _⟩ := DataW.trod_int Try.underlying3 g1
        obtain ⟨z2, q2, _⟩ := DataW.trod_int Try.underlying3 g2
        obtain rfl : v0 = .int .i64 z0 := by simpa using q0
        obtain rfl : v1 = .int .i64 z1 := by simpa using q1
        obtain rfl : v2 = .int .i64 z2 := by simpa using q2
        exact ⟨z0, z1, z2, by simpa using e0, by simpa using e1, by simpa using e2⟩
  clear hA0 hval0
  refine (exTokensOut a0 len0 cap0 W w0).mono fun e W' ⟨he, bel⟩ => ?_
  subst he
  exact ⟨_, rfl, _, _, _, [], _, [], hW', (trodAll_cons_mk (shut_bool Try.underlying4 _) trodAll_mk0), (trodAll_cons_mk (Below.trod laidOut (by kernel_rfl) (of_decide_eq_true (by kernel_rfl)) k0 bel lt0) trodAll_mk0), rfl, bel.frame _, fun h => by cases h⟩

theorem over : Rows.fnExactTokensOutRow.holds Try.pinned (OpenSpec.ofChange Rows.fnExactTokensOutSpec) :=
  OpenClaim.holds_of_wide 3 Try.f3 rfl rfl rfl rfl rfl rfl rfl ⟨rfl, rfl, rfl, rfl, rfl⟩ rfl rfl rfl rfl rfl (by kernel_rfl) Try.func3 (by kernel_rfl)
    (of_decide_eq_true (by kernel_rfl)) (by unfold Func.isWrapper; first | (rw [if_pos (by decide +kernel)]; kernel_rfl) | (rw [if_neg (by decide +kernel)]; exact ⟨rfl, rfl⟩))
    (fun os started H enc _ => lifted os started H enc)

theorem proved : Rows.FnExactTokensOutSaid := over
end Go.Proofs.Yticfbeihmkfifaa.fnExactTokensOut

namespace Go.Proofs.Yticfbeihmkfifaa
theorem fnExactTokensOut_holds : Rows.FnExactTokensOutSaid := fnExactTokensOut.proved
end Go.Proofs.Yticfbeihmkfifaa
