/- The law FnExactChunksPut returns true at every input, and leaves its arguments as they were. (The frame is the kit shell, turned to a list of pairs of texts; the walk is mine.) -/
import Derived.Test.YticfbeihmkfifaaRows
import Derived.Test.YticfbeihmkfifaaChecked
import Derived.Test.YticfbeihmkfifaaExChunksPut
import Derived.WalkKit
import Derived.ProofKit
import Derived.OpenShut
import Derived.ShutString
import Derived.ChangeOld
import Derived.Below
import Derived.Deep.SlicePairs
namespace Go.Proofs.Yticfbeihmkfifaa.fnExactChunksPut
open Go.ChangeShapes Go.WideShapes Go.ChangeAt Go.RowKit
open Go.ChangeMaps (open_string shut_string)
set_option linter.unusedVariables false

theorem own : ownKnob Try.prog.godebug = none := by kernel_rfl
theorem laidOut : laidOutB Try.prog = true := by kernel_rfl

theorem addr_add2 (b off i : Nat) : (⟨b, off, none⟩ : Addr).add i = ⟨b, off + i, none⟩ := by
  simp [Addr.add]; try omega

def strOf : Value → ByteArray
  | .string s => s
  | _ => ⟨#[]⟩

theorem rowC_of {w : World} {x : Addr} {len cap m : Nat} {V0 V1 : Nat → Value} (hl : len ≤ cap) (hm : cap ≤ maxLen) (hlm : len ≤ m)
    (hx : ∀ i, i < m → w.cell? (x.add (i * 2)) = some (V0 i) ∧ w.cell? (x.add (i * 2 + 1)) = some (V1 i) ∧ (∃ z : ByteArray, V0 i = .string z ∧ z.size ≤ maxLen) ∧ ∃ z : ByteArray, V1 i = .string z ∧ z.size ≤ maxLen) :
    RowC w (some x) len cap := by
  refine ⟨hl, Nat.le_trans hl hm, (List.range len).map (fun i => (strOf (V0 i), strOf (V1 i))), by simp, ?_, ?_⟩
  · by_cases h0 : len = 0
    · left; rw [h0]; rfl
    · obtain ⟨b, off, spot⟩ := x
      have hc := (hx 0 (by omega)).1
      have hspot : spot = none := by simpa [Addr.add] using World.cell?_spot hc
      subst hspot
      rw [addr_add2] at hc
      refine .inr ⟨b, off, rfl, World.block_lt_of_cell? _ _ hc, fun i hi => ?_⟩
      have hi' : i < len := by simpa using hi
      obtain ⟨c1, c2, ⟨z1, e1, _⟩, z2, e2, _⟩ := hx i (by omega)
      rw [addr_add2] at c1 c2
      rw [show off + (i * 2 + 1) = off + i * 2 + 1 by omega] at c2
      simp only [List.getElem_map, List.getElem_range]
      rw [c1, c2, e1, e2]
      exact ⟨rfl, rfl⟩
  · intro p hp
    rw [List.mem_map] at hp
    obtain ⟨i, hi, rfl⟩ := hp
    rw [List.mem_range] at hi
    obtain ⟨_, _, ⟨z1, e1, h1⟩, z2, e2, h2⟩ := hx i (by omega)
    show (strOf (V0 i)).size ≤ maxLen ∧ (strOf (V1 i)).size ≤ maxLen
    rw [e1, e2]
    exact ⟨h1, h2⟩

set_option maxRecDepth 100000 in
theorem lifted (os : Os) (started : os.Started) (H : Type) (enc : TypeId × Value → H) :
    ReturnsInHanded {} Try.checked os 7 .any (Rows.fnExactChunksPutSpec.pre6 enc Try.prog Try.f7 Rows.fnExactChunksPutRow.domain false) (Rows.fnExactChunksPutSpec.post enc Try.prog Try.f7 false true false false) := by
  refine returnsInHanded_of_change (C := Try.checked) own started (by kernel_rfl) Try.func7
    (ChangeSpec.witness6 (enc := enc) (C := Try.checked) false ⟨#[], #[.slice none 0 0], []⟩ 8 (by kernel_rfl) (by kernel_rfl) (by kernel_rfl) (by kernel_rfl)) ?_
  intro W base args ds gs before hval0 hW hcnd _
  have hval : ∀ (j : Nat) t v, Try.f7.params[j]? = some t → args[j]? = some v → Value.okWide Try.prog W .any base t v := hval0
  have hW' := hW
  obtain ⟨p, q, hA0, hV, rfl, hfz, hnd⟩ := hW
  have hA : DataW.TrodAll enc Try.prog W 0 (fun _ => true) true Try.f7.params.toList args.toList ds p := hA0
  rw [Try.params7] at hA hval
  obtain ⟨v0, vs0, d0, ds0, p0, q0, hargs, rfl, rfl, h0, r0⟩ := trodAll_cons hA
  obtain ⟨rfl, rfl, rfl⟩ := trodAll_nil r0
  obtain rfl : args = #[v0] := by cases args; simp_all
  obtain ⟨rfl, rfl⟩ := trodVars_none hV
  obtain ⟨a0, len0, cap0, rfl⟩ := okWide_slice Try.underlying45 (hval 0 45 v0 rfl rfl)
  have k0 := h0
  have lt0 : ∀ x ∈ p0, x.block < W.heap.size := by obtain ⟨m, hm⟩ := k0; exact DataW.trod_lt m _ _ _ hm
  have w0 : RowC W a0 len0 cap0 := by
    obtain ⟨fuel, hf⟩ := h0
    rcases Go.Deep.open_slice_pairs Try.underlying45 Try.underlying90 (by kernel_rfl) rfl rfl (by kernel_rfl) (by kernel_rfl) hf with ⟨hcs, _⟩ | ⟨x, l, c, m, n, V0, V1, D0, D1, P0, P1, hcs, _, hl, hm, hmm, _, hx⟩
    · simp [Value.cells] at hcs
      obtain ⟨rfl, rfl, rfl⟩ := hcs
      exact ⟨Nat.le_refl _, Nat.zero_le _, [], rfl, .inl rfl, fun p hp => by cases hp⟩
    · simp [Value.cells] at hcs
      obtain ⟨rfl, rfl, rfl⟩ := hcs
      refine rowC_of hl hm (m := m) (V0 := V0) (V1 := V1) (by rw [hmm]; split <;> omega) (fun i hi => ?_)
      obtain ⟨c1, c2, t1, t2⟩ := hx i hi
      obtain ⟨z1, e1, _, hw1⟩ := DataW.trod_string Try.underlying9 t1
      obtain ⟨z2, e2, _, hw2⟩ := DataW.trod_string Try.underlying9 t2
      exact ⟨c1, c2, ⟨z1, by simpa using e1, hw1⟩, z2, by simpa using e2, hw2⟩
  clear hA0 hval0
  refine (exChunksPut a0 len0 cap0 W w0).mono fun e W' ⟨he, bel⟩ => ?_
  subst he
  exact ⟨_, rfl, _, _, _, [], _, [], hW', (trodAll_cons_mk (shut_bool Try.underlying4 _) trodAll_mk0), (trodAll_cons_mk (Below.trod laidOut (by kernel_rfl) (of_decide_eq_true (by kernel_rfl)) k0 bel lt0) trodAll_mk0), rfl, bel.frame _, fun h => by cases h⟩

theorem over : Rows.fnExactChunksPutRow.holds Try.pinned (OpenSpec.ofChange Rows.fnExactChunksPutSpec) :=
  OpenClaim.holds_of_wide 7 Try.f7 rfl rfl rfl rfl rfl rfl rfl ⟨rfl, rfl, rfl, rfl, rfl⟩ rfl rfl rfl rfl rfl (by kernel_rfl) Try.func7 (by kernel_rfl)
    (of_decide_eq_true (by kernel_rfl)) (by unfold Func.isWrapper; first | (rw [if_pos (by decide +kernel)]; kernel_rfl) | (rw [if_neg (by decide +kernel)]; exact ⟨rfl, rfl⟩))
    (fun os started H enc _ => lifted os started H enc)

theorem proved : Rows.FnExactChunksPutSaid := over
end Go.Proofs.Yticfbeihmkfifaa.fnExactChunksPut

namespace Go.Proofs.Yticfbeihmkfifaa
theorem fnExactChunksPut_holds : Rows.FnExactChunksPutSaid := fnExactChunksPut.proved
end Go.Proofs.Yticfbeihmkfifaa
