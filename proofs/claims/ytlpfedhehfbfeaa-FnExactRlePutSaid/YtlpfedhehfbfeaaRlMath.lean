/- Rows that BMP packs, read (mathematics). -/
import Derived.Test.YtlpfedhehfbfeaaBase
namespace Go.Proofs.Ytlpfedhehfbfeaa
namespace Rl

abbrev Grid := Nat → Nat → Int
def upd (g : Grid) (y x : Nat) (b : Int) : Grid := fun y' x' => if y' = y ∧ x' = x then b else g y' x'
theorem upd_same (g : Grid) (y x : Nat) (b : Int) : upd g y x b y x = b := by simp [upd]
theorem upd_other (g : Grid) (y x y' x' : Nat) (b : Int) (h : ¬ (y' = y ∧ x' = x)) : upd g y x b y' x' = g y' x' := by simp [upd, h]
/-- bytes put one behind the other -/
def puts (W H : Nat) : List Int → Grid → Nat → Nat → Option (Grid × Nat)
  | [], g, x, _ => some (g, x)
  | b :: l, g, x, y => if y < H ∧ x < W then puts W H l (upd g y x b) (x + 1) y else none
theorem puts_nil (W H : Nat) (g : Grid) (x y : Nat) : puts W H [] g x y = some (g, x) := rfl
theorem puts_yes {W H x y : Nat} {b : Int} {l : List Int} {g : Grid} (h : y < H ∧ x < W) : puts W H (b :: l) g x y = puts W H l (upd g y x b) (x + 1) y := by rw [puts, if_pos h]
theorem puts_no {W H x y : Nat} {b : Int} {l : List Int} {g : Grid} (h : ¬ (y < H ∧ x < W)) : puts W H (b :: l) g x y = none := by rw [puts, if_neg h]
theorem puts_x {W H : Nat} : ∀ {l : List Int} {g : Grid} {x y : Nat} {r : Grid × Nat}, puts W H l g x y = some r → r.2 = x + l.length
  | [], g, x, y, r, h => by cases h; rfl
  | b :: l, g, x, y, r, h => by
    by_cases hc : y < H ∧ x < W
    · rw [puts_yes hc] at h; rw [puts_x h, List.length_cons]; omega
    · rw [puts_no hc] at h; cases h
def lit (s : ByteArray) (A n : Nat) : List Int := (List.range n).map fun i => ((byteAt s (A + i) : Nat) : Int)
theorem lit_len (s : ByteArray) (A n : Nat) : (lit s A n).length = n := by simp [lit]
theorem lit_drop (s : ByteArray) (A n k : Nat) (h : k < n) : (lit s A n).drop k = ((byteAt s (A + k) : Nat) : Int) :: (lit s A n).drop (k + 1) := by
  rw [List.drop_eq_getElem_cons (by rw [lit_len]; exact h)]
  congr 1
  simp [lit]
theorem rep_drop (b : Int) (n k : Nat) (h : k < n) : (List.replicate n b).drop k = b :: (List.replicate n b).drop (k + 1) := by
  rw [List.drop_eq_getElem_cons (by simpa using h)]
  congr 1
  simp

abbrev Out := Bool × Nat × Grid × Nat × Nat
/-- what the next bytes say -/
def step (s : ByteArray) (W H A : Nat) (g : Grid) (x y : Nat) : Option Out :=
  if A + 2 ≤ s.size then
    (if 0 < byteAt s A then (puts W H (List.replicate (byteAt s A) ((byteAt s (A + 1) : Nat) : Int)) g x y).map (fun r => (true, A + 2, r.1, r.2, y))
     else if byteAt s (A + 1) = 0 then some (true, A + 2, g, 0, y + 1)
     else if byteAt s (A + 1) = 1 then some (false, A + 2, g, x, y)
     else if byteAt s (A + 1) = 2 then (if A + 4 ≤ s.size then some (true, A + 4, g, x + byteAt s (A + 2), y + byteAt s (A + 3)) else none)
     else if A + 2 + byteAt s (A + 1) + byteAt s (A + 1) % 2 ≤ s.size then (puts W H (lit s (A + 2) (byteAt s (A + 1))) g x y).map (fun r => (true, A + 2 + byteAt s (A + 1) + byteAt s (A + 1) % 2, r.1, r.2, y)) else none)
  else none
theorem step_le {s : ByteArray} {W H A : Nat} {g : Grid} {x y : Nat} {o : Out} (h : step s W H A g x y = some o) : A + 2 ≤ o.2.1 ∧ o.2.1 ≤ s.size ∧ o.2.2.2.1 ≤ x + 255 ∧ o.2.2.2.2 ≤ y + 255 := by
  unfold step at h
  have b0 := byteAt_lt s A
  have b1 := byteAt_lt s (A + 1)
  have b2 := byteAt_lt s (A + 2)
  have b3 := byteAt_lt s (A + 3)
  split at h
  · split at h
    · rcases hp : puts W H (List.replicate (byteAt s A) ((byteAt s (A + 1) : Nat) : Int)) g x y with _ | r
      · rw [hp] at h; cases h
      · rw [hp] at h
        have hx := puts_x hp
        rw [List.length_replicate] at hx
        cases h
        refine ⟨Nat.le_refl _, by assumption, ?_, by show y ≤ y + 255; omega⟩
        show r.2 ≤ x + 255
        omega
    · split at h
      · cases h; exact ⟨Nat.le_refl _, by assumption, Nat.zero_le _, by show y + 1 ≤ y + 255; omega⟩
      · split at h
        · cases h; exact ⟨Nat.le_refl _, by assumption, by show x ≤ x + 255; omega, by show y ≤ y + 255; omega⟩
        · split at h
          · split at h
            · cases h
              refine ⟨by show A + 2 ≤ A + 4; omega, by assumption, ?_, ?_⟩
              · show x + byteAt s (A + 2) ≤ x + 255; omega
              · show y + byteAt s (A + 3) ≤ y + 255; omega
            · cases h
          · split at h
            · rcases hp : puts W H (lit s (A + 2) (byteAt s (A + 1))) g x y with _ | r
              · rw [hp] at h; cases h
              · rw [hp] at h
                have hx := puts_x hp
                rw [lit_len] at hx
                cases h
                refine ⟨by show A + 2 ≤ A + 2 + _ + _; omega, by assumption, ?_, by show y ≤ y + 255; omega⟩
                show r.2 ≤ x + 255
                omega
            · cases h
  · cases h
/-- all up to the end -/
def get (s : ByteArray) (W H A : Nat) (g : Grid) (x y : Nat) : Option Grid :=
  match _hs : step s W H A g x y with
  | none => none
  | some (false, A', g', _, _) => if A' = s.size then some g' else none
  | some (true, A', g', x', y') => get s W H A' g' x' y'
  termination_by s.size - A
  decreasing_by
    have h := step_le _hs
    have h1 : A + 2 ≤ A' := h.1
    have h2 : A' ≤ s.size := h.2.1
    omega
theorem get_none {s : ByteArray} {W H A : Nat} {g : Grid} {x y : Nat} (h : step s W H A g x y = none) : get s W H A g x y = none := by
  rw [get]; split <;> simp_all
theorem get_end {s : ByteArray} {W H A A' : Nat} {g g' : Grid} {x y x' y' : Nat} (h : step s W H A g x y = some (false, A', g', x', y')) : get s W H A g x y = if A' = s.size then some g' else none := by
  rw [get]; split <;> simp_all
theorem get_more {s : ByteArray} {W H A A' : Nat} {g g' : Grid} {x y x' y' : Nat} (h : step s W H A g x y = some (true, A', g', x', y')) : get s W H A g x y = get s W H A' g' x' y' := by
  rw [get]; split <;> simp_all

def zero : Grid := fun _ _ => 0
def Valid (s : ByteArray) (W H : Int) : Prop := s.size ≤ 9000 ∧ 0 ≤ W ∧ W ≤ 100 ∧ 0 ≤ H ∧ H ≤ 100
instance (s : ByteArray) (W H : Int) : Decidable (Valid s W H) := by unfold Valid; infer_instance
/-- what RleGet answers -/
def res (s : ByteArray) (W H : Int) : Option Grid := if Valid s W H then get s W.toNat H.toNat 0 zero 0 0 else none
theorem res_no {s : ByteArray} {W H : Int} (h : ¬ Valid s W H) : res s W H = none := by unfold res; rw [if_neg h]
theorem res_ok {s : ByteArray} {W H : Nat} (h : Valid s W H) : res s W H = get s W H 0 zero 0 0 := by unfold res; rw [if_pos h, Int.toNat_natCast, Int.toNat_natCast]
end Rl
end Go.Proofs.Ytlpfedhehfbfeaa
