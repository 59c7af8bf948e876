/- A slice of ints that came in is a list of ints in memory. -/
import Derived.Test.YtjmeaeimpkijmaaGreatDoorIntsWalks
namespace Go.Proofs.YtjmeaeimpkijmaaGreatDoor
open Go.RowKit

/-- what the walks are told of a list of ints that came in -/
def Row64 (w : World) (a : Option Addr) (len cap : Nat) : Prop := len ≤ cap ∧ len ≤ maxLen ∧ ∃ zs : List Int, zs.length = len ∧ Ints w a zs ∧ ∀ z ∈ zs, (Lit.int .i64 z).wf = true

theorem addr_add64 (b off i : Nat) : (⟨b, off, none⟩ : Addr).add i = ⟨b, off + i, none⟩ := by
  simp [Addr.add]; try omega

theorem row64_of {w : World} {a : Option Addr} {len cap : Nat} {zs : List Int}
    (h : (a = none ∧ len = 0 ∧ cap = 0 ∧ zs = []) ∨ ∃ x, a = some x ∧ len ≤ cap ∧ cap ≤ maxLen ∧ zs.length = cap ∧ (∀ i, i < zs.length → w.cell? (x.add i) = some (.int .i64 (zs.getD i 0))) ∧ ∀ n ∈ zs, (Lit.int .i64 n).wf = true) :
    Row64 w a len cap := by
  rcases h with ⟨rfl, rfl, rfl, rfl⟩ | ⟨x, rfl, hl, hm, hz, hcell, hwz⟩
  · exact ⟨Nat.le_refl _, Nat.zero_le _, [], rfl, .inl rfl, fun z h => by cases h⟩
  · refine ⟨hl, Nat.le_trans hl hm, zs.take len, by rw [List.length_take]; omega, ?_, fun z h => hwz z (List.mem_of_mem_take h)⟩
    by_cases h0 : len = 0
    · left; rw [h0]; rfl
    · obtain ⟨b, off, spot⟩ := x
      have hc := hcell 0 (by omega)
      have hspot : spot = none := by simpa [Addr.add] using World.cell?_spot hc
      subst hspot
      rw [addr_add64] at hc
      refine .inr ⟨b, off, rfl, World.block_lt_of_cell? _ _ hc, fun i hi => ?_⟩
      rw [List.length_take] at hi
      have h1 := hcell i (by omega)
      rw [addr_add64] at h1
      rw [h1, List.getElem_take, List.getD_eq_getElem?_getD, List.getElem?_eq_getElem (by omega)]
      rfl
end Go.Proofs.YtjmeaeimpkijmaaGreatDoor
