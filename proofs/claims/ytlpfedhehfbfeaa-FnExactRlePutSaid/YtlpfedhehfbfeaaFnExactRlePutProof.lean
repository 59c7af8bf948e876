/- The law FnExactRlePut returns true at every input, and leaves its arguments as they were. (The frame is the kit shell, turned to a list of rows; the walk is mine.) -/
import Derived.Test.YtlpfedhehfbfeaaRows
import Derived.Test.YtlpfedhehfbfeaaChecked
import Derived.Test.YtlpfedhehfbfeaaExRlePut
import Derived.Test.YtlpfedhehfbfeaaImgOpen
import Derived.WalkKit
import Derived.ProofKit
import Derived.OpenShut
import Derived.ShutString
import Derived.ChangeOld
import Derived.Below
import Derived.Deep.Slices
namespace Go.Proofs.Ytlpfedhehfbfeaa.fnExactRlePut
open Go.ChangeShapes Go.WideShapes Go.ChangeAt Go.RowKit
open Go.ChangeMaps (open_string shut_string)
set_option linter.unusedVariables false

theorem own : ownKnob Try.prog.godebug = none := by kernel_rfl
theorem laidOut : laidOutB Try.prog = true := by kernel_rfl

theorem addr_add2 (b off i : Nat) : (⟨b, off, none⟩ : Addr).add i = ⟨b, off + i, none⟩ := by
  simp [Addr.add]; try omega

open Classical in
theorem rowR_of {w : World} {x : Addr} {len cap m : Nat} (hl : len ≤ cap) (hm : cap ≤ maxLen) (hlm : len ≤ m)
    (hx : ∀ i, i < m → ∃ a' len' cap', w.cell? (x.add i) = some (.slice a' len' cap') ∧ Row64 w a' len' cap') :
    RowR w (some x) len cap := by
  have hx' : ∀ i, ∃ l : List Int, i < m → ∃ a' cap', w.cell? (x.add i) = some (.slice a' l.length cap') ∧ Ints w a' l ∧ l.length ≤ cap' ∧ l.length ≤ maxLen := by
    intro i
    by_cases h : i < m
    · obtain ⟨a', len', cap', h1, h2, h3, zs, h4, h5, _⟩ := hx i h
      subst h4
      exact ⟨zs, fun _ => ⟨a', cap', h1, h5, h2, h3⟩⟩
    · exact ⟨[], fun h' => absurd h' h⟩
  obtain ⟨L, hL⟩ := Classical.axiomOfChoice hx'
  refine ⟨hl, Nat.le_trans hl hm, (List.range len).map L, by simp, ?_, ?_⟩
  · by_cases h0 : len = 0
    · left; rw [h0]; rfl
    · obtain ⟨b, off, spot⟩ := x
      obtain ⟨_, _, hc, _⟩ := hL 0 (by omega)
      have hspot : spot = none := by simpa [Addr.add] using World.cell?_spot hc
      subst hspot
      rw [addr_add2] at hc
      refine .inr ⟨b, off, rfl, World.block_lt_of_cell? _ _ hc, fun i hi => ?_⟩
      have hi' : i < len := by simpa using hi
      obtain ⟨a', cap', c1, c2, c3, _⟩ := hL i (by omega)
      rw [addr_add2] at c1
      simp only [List.getElem_map, List.getElem_range]
      exact ⟨a', cap', c1, c2, c3⟩
  · intro l hp
    rw [List.mem_map] at hp
    obtain ⟨i, hi, rfl⟩ := hp
    rw [List.mem_range] at hi
    obtain ⟨_, _, _, _, _, h⟩ := hL i (by omega)
    exact h

set_option maxRecDepth 100000 in
theorem lifted (os : Os) (started : os.Started) (H : Type) (enc : TypeId × Value → H) :
    ReturnsInHanded {} Try.checked os 5 .any (Rows.fnExactRlePutSpec.pre6 enc Try.prog Try.f5 Rows.fnExactRlePutRow.domain false) (Rows.fnExactRlePutSpec.post enc Try.prog Try.f5 false true false false) := by
  refine returnsInHanded_of_change (C := Try.checked) own started (by kernel_rfl) Try.func5
    (ChangeSpec.witness6 (enc := enc) (C := Try.checked) false ⟨#[], #[.slice none 0 0], []⟩ 8 (by kernel_rfl) (by kernel_rfl) (by kernel_rfl) (by kernel_rfl)) ?_
  intro W base args ds gs before hval0 hW hcnd _
  have hval : ∀ (j : Nat) t v, Try.f5.params[j]? = some t → args[j]? = some v → Value.okWide Try.prog W .any base t v := hval0
  have hW' := hW
  obtain ⟨p, q, hA0, hV, rfl, hfz, hnd⟩ := hW
  have hA : DataW.TrodAll enc Try.prog W 0 (fun _ => true) true Try.f5.params.toList args.toList ds p := hA0
  rw [Try.params5] at hA hval
  obtain ⟨v0, vs0, d0, ds0, p0, q0, hargs, rfl, rfl, h0, r0⟩ := trodAll_cons hA
  obtain ⟨rfl, rfl, rfl⟩ := trodAll_nil r0
  obtain rfl : args = #[v0] := by cases args; simp_all
  obtain ⟨rfl, rfl⟩ := trodVars_none hV
  obtain ⟨a0, len0, cap0, rfl⟩ := okWide_slice Try.underlying23 (hval 0 23 v0 rfl rfl)
  have k0 := h0
  have lt0 : ∀ x ∈ p0, x.block < W.heap.size := by obtain ⟨m, hm⟩ := k0; exact DataW.trod_lt m _ _ _ hm
  have w0 : RowR W a0 len0 cap0 := by
    obtain ⟨fuel, hf⟩ := h0
    rcases Go.Deep.open_slice Try.underlying23 hf with ⟨hcs, _⟩ | ⟨x, l, c, m, n, D, Pl, hcs, _, hl, hm, hmm, _, hx⟩
    · simp [Value.cells] at hcs
      obtain ⟨rfl, rfl, rfl⟩ := hcs
      exact ⟨Nat.le_refl _, Nat.zero_le _, [], rfl, .inl rfl, fun p hp => by cases hp⟩
    · simp [Value.cells] at hcs
      obtain ⟨rfl, rfl, rfl⟩ := hcs
      refine rowR_of hl hm (m := m) (by rw [hmm]; split <;> omega) (fun i hi => ?_)
      obtain ⟨cs', g1, g2⟩ := hx i hi
      have ce : Try.prog.cellsOf 26 = 1 := by kernel_rfl
      rw [ce, Nat.mul_one] at g1
      obtain ⟨_, hlen, hcell⟩ := World.cells?_some g1
      match cs', hlen with
      | [v0], _ =>
        obtain ⟨a', len', cap', rfl, h64⟩ := row64_trod g2
        have := hcell 0 (by omega)
        rw [Go.Deep.add_add, Nat.add_zero] at this
        exact ⟨a', len', cap', by simpa using this, h64⟩
  clear hA0 hval0
  refine (exRlePut a0 len0 cap0 W w0).mono fun e W' ⟨he, bel⟩ => ?_
  subst he
  exact ⟨_, rfl, _, _, _, [], _, [], hW', (trodAll_cons_mk (shut_bool Try.underlying4 _) trodAll_mk0), (trodAll_cons_mk (Below.trod laidOut (by kernel_rfl) (of_decide_eq_true (by kernel_rfl)) k0 bel lt0) trodAll_mk0), rfl, bel.frame _, fun h => by cases h⟩

theorem over : Rows.fnExactRlePutRow.holds Try.pinned (OpenSpec.ofChange Rows.fnExactRlePutSpec) :=
  OpenClaim.holds_of_wide 5 Try.f5 rfl rfl rfl rfl rfl rfl rfl ⟨rfl, rfl, rfl, rfl, rfl⟩ rfl rfl rfl rfl rfl (by kernel_rfl) Try.func5 (by kernel_rfl)
    (of_decide_eq_true (by kernel_rfl)) (by unfold Func.isWrapper; first | (rw [if_pos (by decide +kernel)]; kernel_rfl) | (rw [if_neg (by decide +kernel)]; exact ⟨rfl, rfl⟩))
    (fun os started H enc _ => lifted os started H enc)

theorem proved : Rows.FnExactRlePutSaid := over
end Go.Proofs.Ytlpfedhehfbfeaa.fnExactRlePut

namespace Go.Proofs.Ytlpfedhehfbfeaa
theorem fnExactRlePut_holds : Rows.FnExactRlePutSaid := fnExactRlePut.proved
end Go.Proofs.Ytlpfedhehfbfeaa
