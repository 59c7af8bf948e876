/- What comes again in a text (mathematics). -/
import Derived.Test.YtmfnepibhhhdcaaTkRow
namespace Go.Proofs.Ytmfnepibhhhdcaa
namespace Ty

/-- the byte at a place -/
def b (s : ByteArray) (i : Nat) : Nat := if h : i < s.size then (s[i]).toNat else 0
theorem b_at {s : ByteArray} {i : Nat} (h : i < s.size) : b s i = (s[i]).toNat := dif_pos h
theorem b_lt (s : ByteArray) (i : Nat) : b s i < 256 := by
  unfold b
  split
  · exact UInt8.toNat_lt _
  · omega
/-- how many are alike -/
def mat (s : ByteArray) : Nat → Nat → Nat → Nat
  | _, _, 0 => 0
  | a, c, f + 1 => if c < s.size ∧ b s a = b s c then mat s (a + 1) (c + 1) f + 1 else 0
theorem mat_yes {s : ByteArray} {a c f : Nat} (h1 : c < s.size) (h2 : b s a = b s c) : mat s a c (f + 1) = mat s (a + 1) (c + 1) f + 1 := by rw [mat, if_pos ⟨h1, h2⟩]
theorem mat_no {s : ByteArray} {a c f : Nat} (h : ¬ (c < s.size ∧ b s a = b s c)) : mat s a c f = 0 := by
  cases f with
  | zero => rfl
  | succ f => rw [mat, if_neg h]
theorem mat_le (s : ByteArray) : ∀ (f a c : Nat), mat s a c f ≤ f
  | 0, _, _ => Nat.le_refl _
  | f + 1, a, c => by
    rw [mat]
    split
    · have := mat_le s f (a + 1) (c + 1); omega
    · omega
theorem mat_in (s : ByteArray) : ∀ (f a c : Nat), c ≤ s.size → c + mat s a c f ≤ s.size
  | 0, _, _, h => h
  | f + 1, a, c, h => by
    rw [mat]
    split
    · rename_i h1
      have := mat_in s f (a + 1) (c + 1) (by omega); omega
    · exact h
theorem mat_same (s : ByteArray) : ∀ (f a c i : Nat), i < mat s a c f → b s (a + i) = b s (c + i)
  | 0, _, _, _, h => by simp [mat] at h
  | f + 1, a, c, i, h => by
    rw [mat] at h
    split at h
    · rename_i h1
      cases i with
      | zero => exact h1.2
      | succ i =>
        have := mat_same s f (a + 1) (c + 1) i (by omega)
        rw [show a + (i + 1) = a + 1 + i by omega, show c + (i + 1) = c + 1 + i by omega]
        exact this
    · omega
/-- three bytes stand there, and are those of the other place -/
def three (s : ByteArray) (p c : Nat) : Prop := c + 3 ≤ s.size ∧ b s p = b s c ∧ b s (p + 1) = b s (c + 1) ∧ b s (p + 2) = b s (c + 2)
theorem mat_three (s : ByteArray) (p c f : Nat) : 3 ≤ mat s p c (f + 3) ↔ three s p c := by
  unfold three
  constructor
  · intro h
    have h0 := mat_same s (f + 3) p c 0 (by omega)
    have h1 := mat_same s (f + 3) p c 1 (by omega)
    have h2 := mat_same s (f + 3) p c 2 (by omega)
    by_cases hc : c ≤ s.size
    · have := mat_in s (f + 3) p c hc
      exact ⟨by omega, h0, h1, h2⟩
    · rw [mat_no (by omega)] at h; omega
  · rintro ⟨h0, h1, h2, h3⟩
    rw [mat_yes (by omega) h1, mat_yes (by omega) h2, mat_yes (by omega) h3]
    omega

/-- one more place that is looked at -/
def upd (s : ByteArray) (A : Nat) (g : Nat × Nat) (p : Nat) : Nat × Nat := if g.1 < mat s p A 258 then (mat s p A 258, A - p) else g
/-- the best of those not farther back than k -/
def bst (s : ByteArray) (A : Nat) : Nat → Nat × Nat
  | 0 => (0, 0)
  | k + 1 => upd s A (bst s A k) (A - (k + 1))
theorem upd_le {s : ByteArray} {A : Nat} {g : Nat × Nat} (p : Nat) (h : g.1 ≤ 258) : (upd s A g p).1 ≤ 258 := by
  unfold upd
  split
  · exact mat_le _ _ _ _
  · exact h
theorem bst_le (s : ByteArray) (A : Nat) : ∀ k, (bst s A k).1 ≤ 258
  | 0 => by simp [bst]
  | k + 1 => upd_le _ (bst_le s A k)
/-- the best one is one of those that were looked at -/
theorem bst_is (s : ByteArray) (A : Nat) : ∀ k, k ≤ A → (bst s A k).1 = 0 ∨ (1 ≤ (bst s A k).2 ∧ (bst s A k).2 ≤ k ∧ (bst s A k).1 = mat s (A - (bst s A k).2) A 258)
  | 0, _ => .inl rfl
  | k + 1, h => by
    have ih := bst_is s A k (by omega)
    rw [bst, upd]
    split
    · right
      refine ⟨by show 1 ≤ A - (A - (k + 1)); omega, by show A - (A - (k + 1)) ≤ k + 1; omega, ?_⟩
      show _ = mat s (A - (A - (A - (k + 1)))) A 258
      rw [show A - (A - (A - (k + 1))) = A - (k + 1) by omega]
    · rcases ih with h1 | ⟨h1, h2, h3⟩
      · exact .inl h1
      · exact .inr ⟨h1, by omega, h3⟩
instance (s : ByteArray) (p c : Nat) : Decidable (three s p c) := by unfold three; infer_instance
/-- the places before A at which the same three bytes stand, ascending -/
def pls (s : ByteArray) (x y z : Nat) (A : Nat) : List Nat := (List.range A).filter (fun p => decide (p + 3 ≤ s.size ∧ b s p = x ∧ b s (p + 1) = y ∧ b s (p + 2) = z))
theorem pls_zero (s : ByteArray) (x y z : Nat) : pls s x y z 0 = [] := rfl
theorem pls_yes {s : ByteArray} {x y z A : Nat} (h : A + 3 ≤ s.size ∧ b s A = x ∧ b s (A + 1) = y ∧ b s (A + 2) = z) : pls s x y z (A + 1) = pls s x y z A ++ [A] := by
  unfold pls
  rw [List.range_succ, List.filter_append, List.filter_cons, if_pos (decide_eq_true h)]
  rfl
theorem pls_no {s : ByteArray} {x y z A : Nat} (h : ¬ (A + 3 ≤ s.size ∧ b s A = x ∧ b s (A + 1) = y ∧ b s (A + 2) = z)) : pls s x y z (A + 1) = pls s x y z A := by
  unfold pls
  rw [List.range_succ, List.filter_append, List.filter_cons, if_neg (by simpa using h)]
  simp
theorem pls_lt {s : ByteArray} {x y z A p : Nat} (h : p ∈ pls s x y z A) : p < A := by
  unfold pls at h
  rw [List.mem_filter] at h
  exact List.mem_range.1 h.1
theorem pls_len (s : ByteArray) (x y z A : Nat) : (pls s x y z A).length ≤ A := by
  have := List.length_filter_le (fun p => decide (p + 3 ≤ s.size ∧ b s p = x ∧ b s (p + 1) = y ∧ b s (p + 2) = z)) (List.range A)
  rw [List.length_range] at this
  exact this
theorem range_back (A : Nat) : (List.range A).reverse = (List.range A).map (fun i => A - (i + 1)) := by
  apply List.ext_getElem
  · simp
  · intro i h1 h2
    simp
    omega
/-- what the program finds: among those places, the nearest first -/
def gst (s : ByteArray) (A k : Nat) : Nat × Nat := (((List.range k).map (fun i => A - (i + 1))).filter (fun p => decide (three s p A))).foldl (upd s A) (0, 0)
theorem gst_is (s : ByteArray) (A : Nat) : ∀ k, gst s A k = if 3 ≤ (bst s A k).1 then bst s A k else (0, 0)
  | 0 => by simp [gst, bst]
  | k + 1 => by
    have ih := gst_is s A k
    have e : gst s A (k + 1) = if three s (A - (k + 1)) A then upd s A (gst s A k) (A - (k + 1)) else gst s A k := by
      unfold gst
      rw [List.range_succ, List.map_append, List.filter_append, List.foldl_append]
      by_cases h : three s (A - (k + 1)) A
      · simp [h]
      · simp [h]
    rw [e, ih]
    have hm := mat_three s (A - (k + 1)) A 255
    rw [bst]
    by_cases h : three s (A - (k + 1)) A
    · have hm3 : 3 ≤ mat s (A - (k + 1)) A 258 := hm.2 h
      rw [if_pos h]
      by_cases h3 : 3 ≤ (bst s A k).1
      · rw [if_pos h3]
        unfold upd
        by_cases h4 : (bst s A k).1 < mat s (A - (k + 1)) A 258
        · rw [if_pos h4, if_pos (show 3 ≤ (mat s (A - (k + 1)) A 258, A - (A - (k + 1))).1 from hm3)]
        · rw [if_neg h4, if_pos h3]
      · rw [if_neg h3]
        unfold upd
        rw [if_pos (show ((0, 0) : Nat × Nat).1 < mat s (A - (k + 1)) A 258 by show 0 < _; omega), if_pos (show (bst s A k).1 < mat s (A - (k + 1)) A 258 by omega), if_pos (show 3 ≤ (mat s (A - (k + 1)) A 258, A - (A - (k + 1))).1 from hm3)]
    · have hm3 : ¬ 3 ≤ mat s (A - (k + 1)) A 258 := fun q => h (hm.1 q)
      rw [if_neg h]
      unfold upd
      by_cases h3 : 3 ≤ (bst s A k).1
      · rw [if_neg (show ¬ (bst s A k).1 < mat s (A - (k + 1)) A 258 by omega)]
      · rw [if_neg h3]
        by_cases h4 : (bst s A k).1 < mat s (A - (k + 1)) A 258
        · rw [if_pos h4, if_neg (show ¬ 3 ≤ (mat s (A - (k + 1)) A 258, A - (A - (k + 1))).1 from hm3)]
        · rw [if_neg h4, if_neg h3]
/-- .. and breaks off where no longer one can come -/
def lok (s : ByteArray) (A : Nat) : List Nat → Nat × Nat → Nat × Nat
  | [], g => g
  | p :: l, g => if (upd s A g p).1 = 258 then upd s A g p else lok s A l (upd s A g p)
theorem fold_full (s : ByteArray) (A : Nat) : ∀ (l : List Nat) (g : Nat × Nat), g.1 = 258 → l.foldl (upd s A) g = g
  | [], _, _ => rfl
  | p :: l, g, h => by
    have e : upd s A g p = g := by
      unfold upd
      rw [if_neg (by have := mat_le s 258 p A; omega)]
    rw [List.foldl_cons, e]
    exact fold_full s A l g h
theorem lok_is (s : ByteArray) (A : Nat) : ∀ (l : List Nat) (g : Nat × Nat), lok s A l g = l.foldl (upd s A) g
  | [], _ => rfl
  | p :: l, g => by
    rw [lok, List.foldl_cons]
    split
    · rename_i h
      rw [fold_full s A l _ h]
    · exact lok_is s A l _
theorem lok_best (s : ByteArray) (A : Nat) (hA : A + 3 ≤ s.size) : lok s A (pls s (b s A) (b s (A + 1)) (b s (A + 2)) A).reverse (0, 0) = if 3 ≤ (bst s A A).1 then bst s A A else (0, 0) := by
  rw [lok_is, ← gst_is]
  unfold gst pls
  rw [← range_back, ← List.filter_reverse]
  congr 1
  apply List.filter_congr
  intro p hp
  have hp' : p < A := by simpa using hp
  unfold three
  have e : (p + 3 ≤ s.size ∧ b s p = b s A ∧ b s (p + 1) = b s (A + 1) ∧ b s (p + 2) = b s (A + 2)) ↔ (A + 3 ≤ s.size ∧ b s p = b s A ∧ b s (p + 1) = b s (A + 1) ∧ b s (p + 2) = b s (A + 2)) :=
    ⟨fun h => ⟨hA, h.2⟩, fun h => ⟨by omega, h.2⟩⟩
  exact decide_eq_decide.2 e
theorem bst_short {s : ByteArray} {A : Nat} (hA : ¬ A + 3 ≤ s.size) (k : Nat) (hk : k ≤ A) (h1 : A ≤ s.size) : ¬ 3 ≤ (bst s A k).1 := by
  intro h
  rcases bst_is s A k hk with h0 | ⟨_, _, h3⟩
  · omega
  · have := mat_in s 258 (A - (bst s A k).2) A h1
    omega

/-- the token at a place, and where the next one stands -/
def tok (s : ByteArray) (A : Nat) : Tk := if 3 ≤ (bst s A A).1 then (0, ((bst s A A).1 : Int), ((bst s A A).2 : Int)) else ((b s A : Int), 0, 0)
def adv (s : ByteArray) (A : Nat) : Nat := if 3 ≤ (bst s A A).1 then (bst s A A).1 else 1
theorem adv_pos (s : ByteArray) (A : Nat) : 1 ≤ adv s A := by unfold adv; split <;> omega
theorem adv_le (s : ByteArray) (A : Nat) : adv s A ≤ 258 := by
  unfold adv
  split
  · exact bst_le s A A
  · omega
theorem adv_in {s : ByteArray} {A : Nat} (h : A < s.size) : A + adv s A ≤ s.size := by
  unfold adv
  split
  · rename_i h3
    rcases bst_is s A A (Nat.le_refl _) with h0 | ⟨_, _, h4⟩
    · omega
    · rw [h4]
      exact mat_in s 258 _ A (by omega)
  · omega
def all (s : ByteArray) : Nat → Nat → List Tk
  | 0, _ => []
  | f + 1, A => if A < s.size then tok s A :: all s f (A + adv s A) else []
theorem all_fuel (s : ByteArray) : ∀ (f f' A : Nat), s.size - A ≤ f → s.size - A ≤ f' → all s f A = all s f' A
  | 0, 0, _, _, _ => rfl
  | 0, f' + 1, A, h, _ => by rw [all, all, if_neg (by omega)]
  | f + 1, 0, A, _, h => by rw [all, all, if_neg (by omega)]
  | f + 1, f' + 1, A, h, h' => by
    rw [all, all]
    by_cases hA : A < s.size
    · rw [if_pos hA, if_pos hA, all_fuel s f f' _ (by have := adv_pos s A; omega) (by have := adv_pos s A; omega)]
    · rw [if_neg hA, if_neg hA]
def from_ (s : ByteArray) (A : Nat) : List Tk := all s (s.size - A) A
theorem from_step {s : ByteArray} {A : Nat} (h : A < s.size) : from_ s A = tok s A :: from_ s (A + adv s A) := by
  unfold from_
  obtain ⟨f, hf⟩ : ∃ f, s.size - A = f + 1 := ⟨s.size - A - 1, by omega⟩
  rw [hf, all, if_pos h, all_fuel s f (s.size - (A + adv s A)) _ (by have := adv_pos s A; omega) (Nat.le_refl _)]
theorem from_end {s : ByteArray} {A : Nat} (h : ¬ A < s.size) : from_ s A = [] := by
  unfold from_
  rw [show s.size - A = 0 by omega]; rfl
theorem all_len (s : ByteArray) : ∀ f A, (all s f A).length ≤ f
  | 0, _ => Nat.le_refl _
  | f + 1, A => by
    rw [all]
    split
    · rw [List.length_cons]; have := all_len s f (A + adv s A); omega
    · simp
theorem from_len (s : ByteArray) (A : Nat) : (from_ s A).length ≤ s.size - A := all_len s _ _
end Ty
end Go.Proofs.Ytmfnepibhhhdcaa
