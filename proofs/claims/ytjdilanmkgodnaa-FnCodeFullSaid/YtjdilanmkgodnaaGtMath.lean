/- The symbol to which bits lead (mathematics). -/
import Derived.Test.YtjdilanmkgodnaaMkForm
namespace Go.Proofs.Ytjdilanmkgodnaa
namespace Gt

/-- down a tree: s tells the symbol at a depth and a number, below 0 if there is none -/
def go (s : Nat → Nat → Int) (bit : Nat → Nat) : Nat → Nat → Nat → Nat → Option (Nat × Nat)
  | 0, _, _, _ => none
  | m + 1, d, v, p => if 0 ≤ s (d + 1) (2 * v + bit p) then some ((s (d + 1) (2 * v + bit p)).toNat, p + 1) else go s bit m (d + 1) (2 * v + bit p) (p + 1)
theorem go_hit {s : Nat → Nat → Int} {bit : Nat → Nat} {m d v p i : Nat} (h : s (d + 1) (2 * v + bit p) = (i : Int)) : go s bit (m + 1) d v p = some (i, p + 1) := by
  rw [go, h, if_pos (by omega), Int.toNat_natCast]
theorem go_miss {s : Nat → Nat → Int} {bit : Nat → Nat} {m d v p : Nat} (h : s (d + 1) (2 * v + bit p) = -1) : go s bit (m + 1) d v p = go s bit m (d + 1) (2 * v + bit p) (p + 1) := by
  rw [go, h, if_neg (by omega)]
theorem go_none {s : Nat → Nat → Int} {bit : Nat → Nat} (D : Nat → Nat → Prop) (hD : ∀ d v p, D d v → s (d + 1) (2 * v + bit p) = -1 ∧ D (d + 1) (2 * v + bit p)) : ∀ m d v p, D d v → go s bit m d v p = none
  | 0, _, _, _, _ => rfl
  | m + 1, d, v, p, h => by
    obtain ⟨h1, h2⟩ := hD d v p h
    rw [go_miss h1]; exact go_none D hD m _ _ _ h2

def upd (s : Nat → Nat → Int) (n u : Nat) (x : Int) : Nat → Nat → Int := fun d v => if d = n ∧ v = u then x else s d v
/-- the first k symbols of a code -/
def S (zs : List Int) : Nat → Nat → Nat → Int
  | 0 => fun _ _ => -1
  | k + 1 => if 0 < zs.getD k 0 then upd (S zs k) (zs.getD k 0).toNat ((Mk.mk zs).getD k 0).toNat (k : Int) else S zs k
theorem S_miss {zs : List Int} : ∀ {k d v : Nat}, k ≤ zs.length → (∀ i, i < zs.length → zs.getD i 0 ≤ 15) → (∀ i, i < zs.length → 0 ≤ (Mk.mk zs).getD i 0) → (∀ i, i < k → ¬ Mk.Sym zs i d v) → S zs k d v = -1
  | 0, _, _, _, _, _, _ => rfl
  | k + 1, d, v, hk, h15, h0, h => by
    have ih := S_miss (d := d) (v := v) (k := k) (by omega) h15 h0 (fun i hi => h i (by omega))
    unfold S
    by_cases hz : 0 < zs.getD k 0
    · rw [if_pos hz]
      unfold upd
      rw [if_neg, ih]
      rintro ⟨e1, e2⟩
      have := h15 k (by omega)
      have := h0 k (by omega)
      exact h k (by omega) ⟨by omega, by omega, by omega, by omega, by omega⟩
    · rw [if_neg hz]; exact ih
theorem S_hit {zs : List Int} : ∀ {k d v i : Nat}, k ≤ zs.length → (∀ i, i < zs.length → zs.getD i 0 ≤ 15) → (∀ i, i < zs.length → 0 ≤ (Mk.mk zs).getD i 0) → i < k → Mk.Sym zs i d v → S zs k d v = (i : Int)
  | 0, _, _, _, _, _, _, hi, _ => by omega
  | k + 1, d, v, i, hk, h15, h0, hi, h => by
    unfold S
    by_cases e : i = k
    · subst e
      have h1 := h.len
      have h2 := h.num
      have h3 := h.pos
      rw [if_pos (by omega)]
      unfold upd
      rw [if_pos ⟨by omega, by omega⟩]
    · have ih := S_hit (k := k) (by omega) h15 h0 (by omega) h
      by_cases hz : 0 < zs.getD k 0
      · rw [if_pos hz]
        unfold upd
        rw [if_neg, ih]
        rintro ⟨e1, e2⟩
        have := h15 k (by omega)
        have := h0 k (by omega)
        exact e (h.one ⟨by omega, by omega, by omega, by omega, by omega⟩)
      · rw [if_neg hz]; exact ih

/-- what is read -/
def get (zs : List Int) (bit : Nat → Nat) (M p : Nat) : Option (Nat × Nat) := go (S zs zs.length) bit (M - p) 0 0 p
/-- below the longest there is nothing -/
theorem go_deep {zs : List Int} (h15 : ∀ i, i < zs.length → zs.getD i 0 ≤ 15) (h0 : ∀ i, i < zs.length → 0 ≤ (Mk.mk zs).getD i 0) (bit : Nat → Nat) (m d v p : Nat) (hd : 15 ≤ d) : go (S zs zs.length) bit m d v p = none :=
  go_none (fun d _ => 15 ≤ d) (fun d v p h => ⟨S_miss (Nat.le_refl _) h15 h0 (fun i _ g => by have := g.le; omega), by omega⟩) m d v p hd
theorem go_lt {s : Nat → Nat → Int} {bit : Nat → Nat} : ∀ {m d v p i q : Nat}, go s bit m d v p = some (i, q) → p < q ∧ q ≤ p + m
  | 0, _, _, _, _, _, h => by cases h
  | m + 1, d, v, p, i, q, h => by
    unfold go at h
    split at h
    · cases h; omega
    · have := go_lt h; omega
end Gt
end Go.Proofs.Ytjdilanmkgodnaa
