/- What was packed by PackBits is read back; two texts one behind the other (mathematics). -/
import Derived.Test.YtmcjdilmmabiaaaPgMath
namespace Go.Proofs.Ytmcjdilmmabiaaa
namespace Pg

theorem same_at {l : List Int} {m j : Nat} (h : j < Rn.same l m) : l[j]? = l[0]? := by
  have := (Rn.same_ends l m).2.2 j h
  simp [Rn.sameP] at this
  exact this.2
theorem take_same {l : List UInt8} {k z m : Nat} (hz : z ≤ Rn.same ((Pk.ints l).drop k) m) (hk : k + z ≤ l.length) : (l.drop k).take z = List.replicate z (l.getD k 0) := by
  apply List.ext_getElem
  · simp; omega
  · intro j h1 h2
    have hj : j < z := by simpa using h2
    have h := same_at (l := (Pk.ints l).drop k) (m := m) (j := j) (by omega)
    have e1 : (Pk.ints l)[k + j]? = some (((l[k + j]'(by omega)).toNat : Nat) : Int) := by simp [Pk.ints, List.getElem?_eq_getElem (show k + j < l.length by omega)]
    have e2 : (Pk.ints l)[k]? = some (((l[k]'(by omega)).toNat : Nat) : Int) := by simp [Pk.ints, List.getElem?_eq_getElem (show k < l.length by omega)]
    rw [List.getElem?_drop, List.getElem?_drop, Nat.add_zero, e1, e2] at h
    have h' : (l[k + j]'(by omega)).toNat = (l[k]'(by omega)).toNat := Int.ofNat_inj.1 (Option.some.inj h)
    rw [List.getElem_take, List.getElem_drop, List.getElem_replicate, List.getD_eq_getElem?_getD, List.getElem?_eq_getElem (show k < l.length by omega), Option.getD_some]
    exact UInt8.toNat_inj.1 h'

theorem flat_back {l : List UInt8} {lim : Nat} : ∀ (d k : Nat) (out : List UInt8), l.length - k ≤ d → (out ++ l.drop k).length ≤ lim → get lim (Pk.flat l (Rn.from_ 3 128 (Pk.ints l) k)) out = (0, out ++ l.drop k)
  | 0, k, out, hd, _ => by
    rw [Rn.from_end (by rw [Pk.ints_len]; omega), Pk.flat_nil, get_nil, List.drop_of_length_le (by omega), List.append_nil]
  | d + 1, k, out, hd, hl => by
    by_cases hk : k < l.length
    · have hdl : 0 < ((Pk.ints l).drop k).length := by rw [List.length_drop, Pk.ints_len]; omega
      obtain ⟨z1, z2, z3⟩ := Rn.size_ends (l := (Pk.ints l).drop k) (least := 3) (m := 128) hdl (by omega)
      rw [List.length_drop, Pk.ints_len] at z2
      have hszd : Rn.size 3 128 ((Pk.ints l).drop k) = if 3 ≤ Rn.same ((Pk.ints l).drop k) 128 then Rn.same ((Pk.ints l).drop k) 128 else Rn.fresh ((Pk.ints l).drop k) 3 128 := rfl
      have hagd : Rn.again 3 128 ((Pk.ints l).drop k) = decide (3 ≤ Rn.same ((Pk.ints l).drop k) 128) := rfl
      rw [Rn.from_step (by omega) (by rw [Pk.ints_len]; exact hk), Pk.flat_cons]
      have hall : (out ++ (l.drop k).take (Rn.size 3 128 ((Pk.ints l).drop k))) ++ l.drop (k + Rn.size 3 128 ((Pk.ints l).drop k)) = out ++ l.drop k := by
        rw [List.append_assoc, ← List.drop_drop, List.take_append_drop]
      have ih := flat_back (l := l) (lim := lim) d (k + Rn.size 3 128 ((Pk.ints l).drop k)) (out ++ (l.drop k).take (Rn.size 3 128 ((Pk.ints l).drop k))) (by omega) (by rw [hall]; exact hl)
      rw [hall] at ih
      have hle : (out ++ (l.drop k).take (Rn.size 3 128 ((Pk.ints l).drop k))).length ≤ lim := by
        rw [← hall, List.length_append] at hl; omega
      rw [← ih]
      clear ih hall
      by_cases hag : 3 ≤ Rn.same ((Pk.ints l).drop k) 128
      · rw [if_pos hag] at hszd
        rw [decide_eq_true hag] at hagd
        have hts := take_same (l := l) (k := k) (z := Rn.size 3 128 ((Pk.ints l).drop k)) (m := 128) (by omega) (by omega)
        rw [hagd]
        generalize Rn.size 3 128 ((Pk.ints l).drop k) = z at *
        show get lim ([UInt8.ofNat (257 - z), l.getD k 0] ++ _) out = _
        have hh : (UInt8.ofNat (257 - z)).toNat = 257 - z := by rw [UInt8.toNat_ofNat']; omega
        have ho : ∀ R, outp (257 - z) (l.getD k 0 :: R) = (l.drop k).take z := fun R => by
          unfold outp; rw [if_neg (by omega), if_pos (by omega), hts, show 257 - (257 - z) = z by omega]; rfl
        have hn : nd (257 - z) = 1 := by unfold nd; rw [if_neg (by omega), if_pos (by omega)]
        rw [List.cons_append, get_more (by rw [hh, hn]; simp) (by rw [hh, List.cons_append, ho]; exact hle), hh, hn, List.cons_append, ho]
        rfl
      · rw [if_neg hag] at hszd
        rw [decide_eq_false hag] at hagd
        rw [hagd]
        generalize Rn.size 3 128 ((Pk.ints l).drop k) = z at *
        show get lim ((UInt8.ofNat (z - 1) :: (l.drop k).take z) ++ _) out = _
        have hh : (UInt8.ofNat (z - 1)).toNat = z - 1 := by rw [UInt8.toNat_ofNat']; omega
        have hlen : ((l.drop k).take z).length = z := by rw [List.length_take, List.length_drop]; omega
        have ho : ∀ R, outp (z - 1) ((l.drop k).take z ++ R) = (l.drop k).take z := fun R => by
          unfold outp; rw [if_pos (by omega), show z - 1 + 1 = z by omega, List.take_append_of_le_length (by omega), List.take_of_length_le (by omega)]
        have hn : nd (z - 1) = z := by unfold nd; rw [if_pos (by omega)]; omega
        rw [List.cons_append, get_more (by rw [hh, hn, List.length_append]; omega) (by rw [hh, ho]; exact hle), hh, hn, ho, List.drop_append_of_le_length (by omega), List.drop_of_length_le (by omega), List.nil_append]
    · rw [Rn.from_end (by rw [Pk.ints_len]; omega), Pk.flat_nil, get_nil, List.drop_of_length_le (by omega), List.append_nil]
theorem all_back {l : List UInt8} {lim : Nat} (h : l.length ≤ lim) : get lim (Pk.all l) [] = (0, l) := by
  have := flat_back (l := l) (lim := lim) l.length 0 [] (by omega) (by simpa using h)
  rw [List.nil_append, List.drop_zero] at this
  exact this

theorem fresh_stop {l : List Int} (hl : 0 < l.length) (h : Rn.fresh l 3 128 < 128) : Rn.fresh l 3 128 = l.length ∨ (Rn.fresh l 3 128 < l.length ∧ 3 ≤ Rn.same (l.drop (Rn.fresh l 3 128)) 3) := by
  obtain ⟨h1, _, _, _⟩ := Rn.cnt_ends (p := Rn.freshP l 3 128) l.length 1 (by simp [Rn.freshP]; omega)
  have h1' : Rn.freshP l 3 128 (Rn.fresh l 3 128) = false := h1
  obtain ⟨_, h2, _⟩ := Rn.fresh_ends l 3 128 hl (by omega)
  by_cases he : Rn.fresh l 3 128 = l.length
  · exact .inl he
  · refine .inr ⟨by omega, ?_⟩
    simp [Rn.freshP] at h1'
    exact h1' (by omega) h
theorem same_more {l : List Int} {m n : Nat} (h : m ≤ Rn.same l m) (hmn : m ≤ n) : m ≤ Rn.same l n := by
  rcases Nat.lt_or_ge (Rn.same l n) m with hlt | hge
  · obtain ⟨h1, h2, h3⟩ := Rn.same_ends l n
    have h4 := (Rn.same_ends l m).2.2 (Rn.same l n) (by omega)
    simp [Rn.sameP] at h1 h4
    exact absurd h4.2 (h1 h4.1.1 (by omega))
  · exact hge

/-- how long packets are -/
theorem flat_short {l : List UInt8} : ∀ (d k : Nat), l.length - k ≤ d → (Pk.flat l (Rn.from_ 3 128 (Pk.ints l) k)).length ≤ (l.length - k) + (l.length - k + 127) / 128
  | 0, k, hd => by rw [Rn.from_end (by rw [Pk.ints_len]; omega)]; simp [Pk.flat]
  | d + 1, k, hd => by
    by_cases hk : k < l.length
    · have hdl : 0 < ((Pk.ints l).drop k).length := by rw [List.length_drop, Pk.ints_len]; omega
      obtain ⟨z1, z2, z3⟩ := Rn.size_ends (l := (Pk.ints l).drop k) (least := 3) (m := 128) hdl (by omega)
      rw [List.length_drop, Pk.ints_len] at z2
      have hszd : Rn.size 3 128 ((Pk.ints l).drop k) = if 3 ≤ Rn.same ((Pk.ints l).drop k) 128 then Rn.same ((Pk.ints l).drop k) 128 else Rn.fresh ((Pk.ints l).drop k) 3 128 := rfl
      have hagd : Rn.again 3 128 ((Pk.ints l).drop k) = decide (3 ≤ Rn.same ((Pk.ints l).drop k) 128) := rfl
      rw [Rn.from_step (by omega) (by rw [Pk.ints_len]; exact hk), Pk.flat_cons, List.length_append]
      have ih := flat_short (l := l) d (k + Rn.size 3 128 ((Pk.ints l).drop k)) (by omega)
      by_cases hag : 3 ≤ Rn.same ((Pk.ints l).drop k) 128
      · rw [if_pos hag] at hszd
        rw [decide_eq_true hag] at hagd
        have hpl : (Pk.piece l (k, Rn.size 3 128 ((Pk.ints l).drop k), Rn.again 3 128 ((Pk.ints l).drop k))).length = 2 := by rw [hagd]; rfl
        rw [hpl]
        generalize Rn.size 3 128 ((Pk.ints l).drop k) = z at *
        omega
      · rw [if_neg hag] at hszd
        rw [decide_eq_false hag] at hagd
        have hpl : (Pk.piece l (k, Rn.size 3 128 ((Pk.ints l).drop k), Rn.again 3 128 ((Pk.ints l).drop k))).length = 1 + Rn.size 3 128 ((Pk.ints l).drop k) := by
          rw [hagd]
          show (UInt8.ofNat _ :: (l.drop k).take (Rn.size 3 128 ((Pk.ints l).drop k))).length = _
          rw [List.length_cons, List.length_take, List.length_drop]; omega
        rw [hpl]
        by_cases h128 : Rn.size 3 128 ((Pk.ints l).drop k) = 128
        · generalize Rn.size 3 128 ((Pk.ints l).drop k) = z at *
          omega
        · rcases fresh_stop (l := (Pk.ints l).drop k) hdl (by omega) with he | ⟨he, hs2⟩
          · rw [← hszd, List.length_drop, Pk.ints_len] at he
            rw [Rn.from_end (l := Pk.ints l) (k := k + Rn.size 3 128 ((Pk.ints l).drop k)) (by rw [Pk.ints_len]; omega)]
            rw [he]
            simp [Pk.flat]
            omega
          · rw [← hszd, List.length_drop, Pk.ints_len] at he
            rw [← hszd, List.drop_drop] at hs2
            have hs3 := same_more hs2 (show 3 ≤ 128 by omega)
            have hk2 : k + Rn.size 3 128 ((Pk.ints l).drop k) < l.length := by omega
            generalize hz : Rn.size 3 128 ((Pk.ints l).drop k) = z at *
            have hdl2 : 0 < ((Pk.ints l).drop (k + z)).length := by rw [List.length_drop, Pk.ints_len]; omega
            obtain ⟨y1, y2, y3⟩ := Rn.size_ends (l := (Pk.ints l).drop (k + z)) (least := 3) (m := 128) hdl2 (by omega)
            rw [List.length_drop, Pk.ints_len] at y2
            have hszd2 : Rn.size 3 128 ((Pk.ints l).drop (k + z)) = if 3 ≤ Rn.same ((Pk.ints l).drop (k + z)) 128 then Rn.same ((Pk.ints l).drop (k + z)) 128 else Rn.fresh ((Pk.ints l).drop (k + z)) 3 128 := rfl
            have hagd2 : Rn.again 3 128 ((Pk.ints l).drop (k + z)) = decide (3 ≤ Rn.same ((Pk.ints l).drop (k + z)) 128) := rfl
            rw [if_pos hs3] at hszd2
            rw [decide_eq_true hs3] at hagd2
            rw [Rn.from_step (by omega) (by rw [Pk.ints_len]; exact hk2), Pk.flat_cons, List.length_append]
            have hpl2 : (Pk.piece l (k + z, Rn.size 3 128 ((Pk.ints l).drop (k + z)), Rn.again 3 128 ((Pk.ints l).drop (k + z)))).length = 2 := by rw [hagd2]; rfl
            rw [hpl2]
            have ih2 := flat_short (l := l) d (k + z + Rn.size 3 128 ((Pk.ints l).drop (k + z))) (by omega)
            generalize Rn.size 3 128 ((Pk.ints l).drop (k + z)) = y at *
            omega
    · rw [Rn.from_end (by rw [Pk.ints_len]; omega)]; simp [Pk.flat]
theorem all_short {l : List UInt8} : (Pk.all l).length ≤ l.length + (l.length + 127) / 128 := by
  have := flat_short (l := l) l.length 0 (by omega)
  rw [Nat.sub_zero] at this
  exact this

theorem outp_app {h : Nat} {r t : List UInt8} (hn : nd h ≤ r.length) : outp h (r ++ t) = outp h r := by
  unfold outp
  unfold nd at hn
  split
  · rename_i hlo
    rw [if_pos hlo] at hn
    rw [List.take_append_of_le_length hn]
  · split
    · rename_i hlo hhi
      rw [if_neg hlo, if_pos hhi] at hn
      rcases r with _ | ⟨c, r⟩
      · simp at hn
      · rfl
    · rfl

theorem get_app {lim lim2 : Nat} (hl : lim ≤ lim2) {t o : List UInt8} : ∀ (d : Nat) (s a : List UInt8), s.length ≤ d → get lim s a = (0, o) → get lim2 (s ++ t) a = get lim2 t o
  | 0, [], a, _, h => by rw [get_nil] at h; cases h; rfl
  | _ + 1, [], a, _, h => by rw [get_nil] at h; cases h; rfl
  | d + 1, c :: s, a, hd, h => by
    by_cases h1 : nd c.toNat ≤ s.length
    · by_cases h2 : lim < (a ++ outp c.toNat s).length
      · rw [get_long h1 h2] at h; simp at h
      · rw [get_more h1 (by omega)] at h
        have ih := get_app hl (t := t) d (s.drop (nd c.toNat)) (a ++ outp c.toNat s) (by rw [List.length_drop]; simp at hd; omega) h
        rw [List.cons_append, get_more (by rw [List.length_append]; omega) (by rw [outp_app h1]; omega), outp_app h1, List.drop_append_of_le_length h1, ih]
    · rw [get_short h1] at h; simp at h

theorem get_grows {lim : Nat} {x : List UInt8} : ∀ (d : Nat) (t a : List UInt8), t.length ≤ d → get lim t a = (0, x) → a.length ≤ x.length
  | 0, [], a, _, h => by rw [get_nil] at h; cases h; exact Nat.le_refl _
  | _ + 1, [], a, _, h => by rw [get_nil] at h; cases h; exact Nat.le_refl _
  | d + 1, c :: t, a, hd, h => by
    by_cases h1 : nd c.toNat ≤ t.length
    · by_cases h2 : lim < (a ++ outp c.toNat t).length
      · rw [get_long h1 h2] at h; simp at h
      · rw [get_more h1 (by omega)] at h
        have := get_grows d _ _ (by rw [List.length_drop]; simp at hd; omega) h
        rw [List.length_append] at this
        omega
    · rw [get_short h1] at h; simp at h

theorem get_shift {lim : Nat} {o x : List UInt8} (hx : (o ++ x).length ≤ lim) : ∀ (d : Nat) (t a : List UInt8), t.length ≤ d → get lim t a = (0, x) → get lim t (o ++ a) = (0, o ++ x)
  | 0, [], a, _, h => by rw [get_nil] at h; cases h; exact get_nil _ _
  | _ + 1, [], a, _, h => by rw [get_nil] at h; cases h; exact get_nil _ _
  | d + 1, c :: t, a, hd, h => by
    by_cases h1 : nd c.toNat ≤ t.length
    · by_cases h2 : lim < (a ++ outp c.toNat t).length
      · rw [get_long h1 h2] at h; simp at h
      · rw [get_more h1 (by omega)] at h
        have hd' : (t.drop (nd c.toNat)).length ≤ d := by rw [List.length_drop]; simp at hd; omega
        have hg := get_grows d _ _ hd' h
        have ih := get_shift hx d _ _ hd' h
        rw [get_more h1 (by rw [List.append_assoc, List.length_append]; rw [List.length_append] at hx; omega), List.append_assoc, ih]
    · rw [get_short h1] at h; simp at h

theorem get_fits {lim : Nat} {x : List UInt8} : ∀ (d : Nat) (t a : List UInt8), t.length ≤ d → a.length ≤ lim → get lim t a = (0, x) → x.length ≤ lim
  | 0, [], a, _, ha, h => by rw [get_nil] at h; cases h; exact ha
  | _ + 1, [], a, _, ha, h => by rw [get_nil] at h; cases h; exact ha
  | d + 1, c :: t, a, hd, ha, h => by
    by_cases h1 : nd c.toNat ≤ t.length
    · by_cases h2 : lim < (a ++ outp c.toNat t).length
      · rw [get_long h1 h2] at h; simp at h
      · rw [get_more h1 (by omega)] at h
        exact get_fits d _ _ (by rw [List.length_drop]; simp at hd; omega) (by omega) h
    · rw [get_short h1] at h; simp at h

theorem get_none {lim : Nat} : ∀ (d : Nat) (t a : List UInt8), t.length ≤ d → (get lim t a).1 = 0 ∨ (get lim t a).2 = []
  | 0, [], a, _ => by rw [get_nil]; exact .inl rfl
  | _ + 1, [], a, _ => by rw [get_nil]; exact .inl rfl
  | d + 1, c :: t, a, hd => by
    by_cases h1 : nd c.toNat ≤ t.length
    · by_cases h2 : lim < (a ++ outp c.toNat t).length
      · rw [get_long h1 h2]; exact .inr rfl
      · rw [get_more h1 (by omega)]
        exact get_none d _ _ (by rw [List.length_drop]; simp at hd; omega)
    · rw [get_short h1]; exact .inr rfl
end Pg
end Go.Proofs.Ytmcjdilmmabiaaa
