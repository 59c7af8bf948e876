/- The tokens of a text make it (mathematics). -/
import Derived.Test.YtmfnepibhhhdcaaTyMath
import Derived.Test.YtmfnepibhhhdcaaTkMore
namespace Go.Proofs.Ytmfnepibhhhdcaa
namespace Ty

/-- the bytes of a text -/
def bl (s : ByteArray) : List UInt8 := s.data.toList
theorem bl_len (s : ByteArray) : (bl s).length = s.size := by unfold bl; rw [Array.length_toList]; rfl
theorem bl_get (s : ByteArray) {i : Nat} (h : i < s.size) : (bl s)[i]'(by rw [bl_len]; exact h) = UInt8.ofNat (b s i) := by
  rw [b_at h]
  unfold bl
  rw [UInt8.ofNat_toNat]
  simp [ByteArray.getElem_eq_getElem_data]
theorem take_more (s : ByteArray) {i : Nat} (h : i < s.size) : (bl s).take (i + 1) = (bl s).take i ++ [UInt8.ofNat (b s i)] := by
  rw [List.take_succ_eq_append_getElem (by rw [bl_len]; exact h), bl_get s h]
theorem again_take (s : ByteArray) {A d n : Nat} (hd : 1 ≤ d) (hdA : d ≤ A) (hn : A + n ≤ s.size) (hm : ∀ i, i < n → b s (A - d + i) = b s (A + i)) : ∀ k, k ≤ n → To.again ((bl s).take A) d k = (bl s).take (A + k)
  | 0, _ => rfl
  | k + 1, hk => by
    have ih := again_take s hd hdA hn hm k (by omega)
    rw [To.again, ih, show A + (k + 1) = A + k + 1 by omega, take_more s (by omega)]
    congr 1
    have hl : ((bl s).take (A + k)).length = A + k := by rw [List.length_take, bl_len]; omega
    rw [hl, List.getD_eq_getElem?_getD, List.getElem?_eq_getElem (by rw [hl]; omega), List.getElem_take]
    have e := bl_get s (i := A + k - d) (by omega)
    have hlt : A + k - d < (bl s).length := by rw [bl_len]; omega
    show [(bl s)[A + k - d]'hlt] = _
    rw [e, show A + k - d = A - d + k by omega, hm k (by omega)]
/-- a token stands for what comes next -/
theorem tok_step {s : ByteArray} {A : Nat} (hs : s.size ≤ 5000) (hA : A < s.size) : To.step (tok s A) ((bl s).take A) = some ((bl s).take (A + adv s A)) := by
  have hl : ((bl s).take A).length = A := by rw [List.length_take, bl_len]; omega
  unfold tok adv
  by_cases h : 3 ≤ (bst s A A).1
  · rw [if_pos h, if_pos h]
    rcases bst_is s A A (Nat.le_refl _) with h0 | ⟨h1, h2, h3⟩
    · omega
    · have hin := mat_in s 258 (A - (bst s A A).2) A (by omega)
      have hle := bst_le s A A
      have hsame : ∀ i, i < (bst s A A).1 → b s (A - (bst s A A).2 + i) = b s (A + i) := fun i hi => mat_same s 258 _ _ i (by omega)
      generalize bst s A A = g at *
      obtain ⟨n, d⟩ := g
      dsimp only at *
      rw [To.step_again (by omega) (To.ok_more (by omega) rfl (by omega) (by omega) (by omega) (by rw [hl]; omega)) (by rw [hl]; simp; omega)]
      simp only [Int.toNat_natCast]
      rw [again_take s h1 h2 (by omega) hsame n (Nat.le_refl _)]
  · rw [if_neg h, if_neg h]
    have hb := b_lt s A
    rw [To.step_byte (To.ok_zero (by omega) (by omega) rfl) (by rw [hl]; omega), Int.toNat_natCast, take_more s hA]
theorem all_get {s : ByteArray} (hs : s.size ≤ 5000) : ∀ (f A : Nat), s.size - A ≤ f → A ≤ s.size → To.get (all s f A) ((bl s).take A) = some (bl s)
  | 0, A, h, hA => by
    rw [all, To.get, List.take_of_length_le (by rw [bl_len]; omega)]
  | f + 1, A, h, hA => by
    rw [all]
    by_cases hlt : A < s.size
    · rw [if_pos hlt, To.get, tok_step hs hlt]
      exact all_get hs f (A + adv s A) (by have := adv_pos s A; omega) (adv_in hlt)
    · rw [if_neg hlt, To.get, List.take_of_length_le (by rw [bl_len]; omega)]
theorem from_get {s : ByteArray} (hs : s.size ≤ 5000) : To.get (from_ s 0) [] = some (bl s) := by
  have h := all_get hs (s.size - 0) 0 (by omega) (Nat.zero_le _)
  rw [List.take_zero] at h
  exact h
/-- each token can stand where it stands -/
theorem tok_fits {s : ByteArray} {A : Nat} (_hA : A < s.size) : ((tok s A).2.1 = 0 ∧ adv s A = 1) ∨ ((tok s A).2.1 = (adv s A : Int) ∧ 3 ≤ adv s A ∧ adv s A ≤ 258 ∧ 1 ≤ (tok s A).2.2 ∧ (tok s A).2.2 ≤ (A : Int)) := by
  unfold tok adv
  by_cases h : 3 ≤ (bst s A A).1
  · rw [if_pos h, if_pos h]
    right
    rcases bst_is s A A (Nat.le_refl _) with h0 | ⟨h1, h2, _⟩
    · omega
    · exact ⟨rfl, h, bst_le s A A, by show (1 : Int) ≤ ((bst s A A).2 : Int); omega, by show ((bst s A A).2 : Int) ≤ (A : Int); omega⟩
  · rw [if_neg h, if_neg h]
    exact .inl ⟨rfl, rfl⟩
theorem from_at {s : ByteArray} {A i : Nat} {l : List Tk} (h : l.drop i = from_ s A) (hi : i < l.length) : A < s.size ∧ l[i] = tok s A ∧ l.drop (i + 1) = from_ s (A + adv s A) := by
  have hA : A < s.size := by
    rcases Nat.lt_or_ge A s.size with hlt | hge
    · exact hlt
    · rw [from_end (by omega), List.drop_eq_nil_iff] at h; omega
  rw [from_step hA, List.drop_eq_getElem_cons hi] at h
  injection h with h1 h2
  exact ⟨hA, h1, h2⟩
theorem bl_mk (s : ByteArray) : (⟨(bl s).toArray⟩ : ByteArray) = s := by unfold bl; simp
end Ty
end Go.Proofs.Ytmfnepibhhhdcaa
