/- A slice of bytes that came in is a code that can be read. -/
import Derived.Test.YtcolgcddhchkhaaDrawWalks
namespace Go.Proofs.Ytcolgcddhchkhaa
open Go.RowKit

theorem addr_add (b off i : Nat) : (⟨b, off, none⟩ : Addr).add i = ⟨b, off + i, none⟩ := by
  simp [Addr.add]; try omega

theorem code8_of {w : World} {a : Option Addr} {len cap : Nat} {zs : List Int}
    (h : (a = none ∧ len = 0 ∧ cap = 0 ∧ zs = []) ∨ ∃ x, a = some x ∧ len ≤ cap ∧ cap ≤ maxLen ∧ zs.length = cap ∧ (∀ i, i < zs.length → w.cell? (x.add i) = some (.int .u8 (zs.getD i 0))) ∧ ∀ n ∈ zs, (Lit.int .u8 n).wf = true) :
    Code8 w a len cap := by
  rcases h with ⟨rfl, rfl, rfl, rfl⟩ | ⟨x, rfl, hl, hm, hz, hcell, hwz⟩
  · exact ⟨Nat.le_refl _, Nat.zero_le _, .inl rfl⟩
  · refine ⟨hl, hm, ?_⟩
    by_cases h0 : len = 0
    · exact .inl h0
    · obtain ⟨b, off, spot⟩ := x
      have hc := hcell 0 (by omega)
      have hspot : spot = none := by simpa [Addr.add] using World.cell?_spot hc
      subst hspot
      rw [addr_add] at hc
      refine .inr ⟨b, off, rfl, World.block_lt_of_cell? _ _ hc, fun i hi => ?_⟩
      have h1 := hcell i (by omega)
      rw [addr_add] at h1
      have hmem : zs.getD i 0 ∈ zs := by
        rw [List.getD_eq_getElem?_getD, List.getElem?_eq_getElem (by omega)]
        exact List.getElem_mem _
      have hw := bounds_u8 (hwz _ hmem)
      exact ⟨(zs.getD i 0).toNat, by omega, by rw [h1, Int.toNat_of_nonneg hw.1]⟩
end Go.Proofs.Ytcolgcddhchkhaa
