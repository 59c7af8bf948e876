/- What was packed in packets comes out just as it went in; how long it is (mathematics). -/
import Derived.Test.YtmcjdilmmabiaaaRgMath
import Derived.Test.YtmcjdilmmabiaaaRtMath
import Derived.Test.YtmcjdilmmabiaaaNpMath
namespace Go.Proofs.Ytmcjdilmmabiaaa

theorem byteAt_mid {t : ByteArray} {X B Y : List UInt8} (ht : t.data.toList = X ++ B ++ Y) (i : Nat) (hi : i < B.length) : byteAt t (X.length + i) = (B[i]).toNat := by
  unfold byteAt
  rw [ht, List.append_assoc, List.getD_eq_getElem?_getD, List.getElem?_append_right (by omega), show X.length + i - X.length = i by omega, List.getElem?_append_left hi, List.getElem?_eq_getElem hi]
  rfl
theorem size_mid {t : ByteArray} {X B Y : List UInt8} (ht : t.data.toList = X ++ B ++ Y) : t.size = X.length + B.length + Y.length := by
  show t.data.size = _
  rw [← Array.length_toList, ht, List.length_append, List.length_append]
theorem num_mid {t : ByteArray} {X Y : List UInt8} {n S : Nat} (ht : t.data.toList = X ++ Pt.low n S ++ Y) (hn : n < 256 ^ S) : Rg.num t S X.length = (n : Int) := by
  unfold Rg.num
  rw [Np.low_congr _ (fun i => n / 256 ^ i % 256) S (fun i hi => ?_), Np.low_digits, Nat.mod_eq_of_lt hn]
  rw [byteAt_mid ht i (by rw [Pt.low_len]; exact hi)]
  have h := Pt.low_get S n i hi
  rw [List.getElem?_eq_getElem (by rw [Pt.low_len]; exact hi)] at h
  have h2 := Option.some.inj h
  rw [h2]
  simp
namespace Rt

theorem txt_app (S : Nat) (a b : List Int) : txt S (a ++ b) = txt S a ++ txt S b := by simp [txt]
theorem txt_one (S : Nat) (z : Int) : txt S [z] = Pt.low z.toNat S := by simp [txt]
theorem txt_split (S : Nat) (l : List Int) (i : Nat) (h : i < l.length) : txt S l = txt S (l.take i) ++ Pt.low (l[i]).toNat S ++ txt S (l.drop (i + 1)) := by
  conv => lhs; rw [← List.take_append_drop i l, List.drop_eq_getElem_cons h]
  rw [show l[i] :: l.drop (i + 1) = [l[i]] ++ l.drop (i + 1) from rfl, txt_app, txt_app, txt_one, List.append_assoc]

/-- the numbers of a text of numbers -/
theorem nums_txt {t : ByteArray} {X Y : List UInt8} {S : Nat} {l : List Int} (ht : t.data.toList = X ++ txt S l ++ Y) (hf : fit S l = true) (i : Nat) (hi : i < l.length) : Rg.num t S (X.length + i * S) = l[i] := by
  obtain ⟨h0, h1⟩ := fit_at hf i hi
  have hx : X.length + i * S = (X ++ txt S (l.take i)).length := by
    rw [List.length_append, txt_len, List.length_take, Nat.min_eq_left (by omega), Nat.mul_comm]
  rw [hx, num_mid (Y := txt S (l.drop (i + 1)) ++ Y) (n := (l[i]).toNat) (by rw [ht, txt_split S l i hi]; simp [List.append_assoc]) (by omega)]
  omega

theorem same_at {l : List Int} {m j : Nat} (h : j < Rn.same l m) : l[j]? = l[0]? := by
  have := (Rn.same_ends l m).2.2 j h
  simp [Rn.sameP] at this
  exact this.2

/-- one packet is read as it was put -/
theorem packet_back {t : ByteArray} {X Y : List UInt8} {S k : Nat} {l : List Int} (hS1 : 1 ≤ S) (hf : fit S l = true) (hk : k < l.length)
    (ht : t.data.toList = X ++ piece S l (k, Rn.size 2 128 (l.drop k), Rn.again 2 128 (l.drop k)) ++ Y) :
    Rg.There t S X.length (l.length - k) ∧ Rg.cnt (byteAt t X.length) = Rn.size 2 128 (l.drop k) ∧ X.length + 1 + Rg.need S (byteAt t X.length) = (X ++ piece S l (k, Rn.size 2 128 (l.drop k), Rn.again 2 128 (l.drop k))).length ∧ Rg.nums t S X.length = (l.drop k).take (Rn.size 2 128 (l.drop k)) := by
  have hdl : 0 < (l.drop k).length := by rw [List.length_drop]; omega
  obtain ⟨z1, z2, z3⟩ := Rn.size_ends (l := l.drop k) (least := 2) (m := 128) hdl (by omega)
  have hszd : Rn.size 2 128 (l.drop k) = if 2 ≤ Rn.same (l.drop k) 128 then Rn.same (l.drop k) 128 else Rn.fresh (l.drop k) 2 128 := rfl
  have hagd : Rn.again 2 128 (l.drop k) = decide (2 ≤ Rn.same (l.drop k) 128) := rfl
  rw [List.length_drop] at z2
  generalize hz : Rn.size 2 128 (l.drop k) = z at *
  have hb0 := byteAt_mid ht 0 (by unfold piece; split <;> simp)
  rw [Nat.add_zero] at hb0
  have hsz := size_mid ht
  by_cases hag : 2 ≤ Rn.same (l.drop k) 128
  · rw [if_pos hag] at hszd
    rw [decide_eq_true hag] at hagd
    rw [hagd] at ht hb0 hsz ⊢
    have hp : piece S l (k, z, true) = UInt8.ofNat (127 + z) :: txt S ((l.drop k).take 1) := rfl
    have hpl : (piece S l (k, z, true)).length = 1 + S := by rw [hp, List.length_cons, txt_len, List.length_take, Nat.min_eq_left (by omega)]; omega
    have hh : byteAt t X.length = 127 + z := by
      rw [hb0]
      have : (piece S l (k, z, true))[0]'(by rw [hpl]; omega) = UInt8.ofNat (127 + z) := rfl
      rw [this]; simp; omega
    have hcnt : Rg.cnt (byteAt t X.length) = z := by rw [hh]; unfold Rg.cnt; rw [if_pos (by omega)]; omega
    have hneed : Rg.need S (byteAt t X.length) = S := by rw [hh]; unfold Rg.need; rw [if_pos (by omega)]
    refine ⟨⟨by omega, by rw [hcnt]; omega, by rw [hneed]; omega⟩, hcnt, by rw [hneed, List.length_append, hpl]; omega, ?_⟩
    have hnum : ∀ i, Rg.num t S (X.length + 1 + Rg.off S (byteAt t X.length) i) = l[k] := fun i => by
      have ho : Rg.off S (byteAt t X.length) i = 0 := by rw [hh]; unfold Rg.off; rw [if_pos (by omega)]
      have h1 : ((l.drop k).take 1).length = 1 := by rw [List.length_take]; omega
      have := nums_txt (t := t) (X := X ++ [UInt8.ofNat (127 + z)]) (Y := Y) (S := S) (l := (l.drop k).take 1) (by rw [ht, hp]; simp) (fit_sub hf k 1) 0 (by omega)
      rw [List.length_append, List.length_singleton, Nat.zero_mul] at this
      rw [ho, this]
      rw [List.getElem_take, List.getElem_drop]; rfl
    unfold Rg.nums
    rw [hcnt]
    refine List.ext_getElem (by simp; omega) (fun i h1 h2 => ?_)
    rw [List.getElem_map, hnum, List.getElem_take, List.getElem_drop]
    have hi : i < z := by simpa using h1
    have := same_at (l := l.drop k) (m := 128) (j := i) (by omega)
    rw [List.getElem?_drop, List.getElem?_drop, List.getElem?_eq_getElem (by omega), List.getElem?_eq_getElem (by omega)] at this
    have := Option.some.inj this
    rw [this]; rfl
  · rw [if_neg hag] at hszd
    rw [decide_eq_false hag] at hagd
    rw [hagd] at ht hb0 hsz ⊢
    have hp : piece S l (k, z, false) = UInt8.ofNat (z - 1) :: txt S ((l.drop k).take z) := rfl
    have htl : ((l.drop k).take z).length = z := by rw [List.length_take, List.length_drop]; omega
    have hpl : (piece S l (k, z, false)).length = 1 + z * S := by rw [hp, List.length_cons, txt_len, htl, Nat.mul_comm, Nat.add_comm]
    have hh : byteAt t X.length = z - 1 := by
      rw [hb0]
      have : (piece S l (k, z, false))[0]'(by rw [hpl]; omega) = UInt8.ofNat (z - 1) := rfl
      rw [this]; simp; omega
    have hcnt : Rg.cnt (byteAt t X.length) = z := by rw [hh]; unfold Rg.cnt; rw [if_neg (by omega)]; omega
    have hneed : Rg.need S (byteAt t X.length) = z * S := by rw [hh]; unfold Rg.need; rw [if_neg (by omega), show z - 1 + 1 = z by omega]
    refine ⟨⟨by omega, by rw [hcnt]; omega, by rw [hneed]; omega⟩, hcnt, by rw [hneed, List.length_append, hpl]; omega, ?_⟩
    unfold Rg.nums
    rw [hcnt]
    refine List.ext_getElem (by rw [htl]; simp) (fun i h1 h2 => ?_)
    have hi : i < z := by simpa using h1
    have ho : Rg.off S (byteAt t X.length) i = i * S := by rw [hh]; unfold Rg.off; rw [if_neg (by omega)]
    have := nums_txt (t := t) (X := X ++ [UInt8.ofNat (z - 1)]) (Y := Y) (S := S) (l := (l.drop k).take z) (by rw [ht, hp]; simp) (fit_sub hf k z) i (by rw [htl]; exact hi)
    rw [List.length_append, List.length_singleton] at this
    rw [List.getElem_map, List.getElem_range, ho, this]

/-- all packets are read as they were put -/
theorem flat_back {t : ByteArray} {S : Nat} {l : List Int} (hS1 : 1 ≤ S) (hf : fit S l = true) : ∀ (d k : Nat) (X Y : List UInt8), l.length - k ≤ d → t.data.toList = X ++ flat S l (Rn.from_ 2 128 l k) ++ Y → Rg.get t S X.length (l.length - k) = some (l.drop k, (X ++ flat S l (Rn.from_ 2 128 l k)).length)
  | 0, k, X, Y, hd, ht => by
    rw [Rn.from_end (by omega)] at *
    rw [show l.length - k = 0 by omega, Rg.get_zero, List.drop_of_length_le (by omega)]
    simp [flat]
  | d + 1, k, X, Y, hd, ht => by
    by_cases hk : k < l.length
    · have hdl : 0 < (l.drop k).length := by rw [List.length_drop]; omega
      obtain ⟨z1, z2, _⟩ := Rn.size_ends (l := l.drop k) (least := 2) (m := 128) hdl (by omega)
      rw [List.length_drop] at z2
      rw [Rn.from_step (by omega) hk, flat_cons] at ht ⊢
      obtain ⟨h1, h2, h3, h4⟩ := packet_back (X := X) (Y := flat S l (Rn.from_ 2 128 l (k + Rn.size 2 128 (l.drop k))) ++ Y) hS1 hf hk (by rw [ht]; simp [List.append_assoc])
      have ih := flat_back hS1 hf d (k + Rn.size 2 128 (l.drop k)) (X ++ piece S l (k, Rn.size 2 128 (l.drop k), Rn.again 2 128 (l.drop k))) Y (by omega) (by rw [ht]; simp [List.append_assoc])
      rw [Rg.get_yes (by omega) h1, h3, h2, show l.length - k - Rn.size 2 128 (l.drop k) = l.length - (k + Rn.size 2 128 (l.drop k)) by omega, ih, h4]
      simp only [Option.map_some, List.append_assoc]
      congr 2
      rw [← List.drop_drop]
      exact List.take_append_drop _ _
    · rw [Rn.from_end (by omega)] at *
      rw [show l.length - k = 0 by omega, Rg.get_zero, List.drop_of_length_le (by omega)]
      simp [flat]
theorem all_back {t : ByteArray} {S : Nat} {l : List Int} {X Y : List UInt8} (hS1 : 1 ≤ S) (hf : fit S l = true) (ht : t.data.toList = X ++ all S l ++ Y) : Rg.get t S X.length l.length = some (l, X.length + (all S l).length) := by
  have := flat_back (t := t) hS1 hf l.length 0 X Y (by omega) ht
  rw [Nat.sub_zero, List.drop_zero, List.length_append] at this
  exact this

theorem fresh_stop {l : List Int} (hl : 0 < l.length) (h : Rn.fresh l 2 128 < 128) : Rn.fresh l 2 128 = l.length ∨ (Rn.fresh l 2 128 < l.length ∧ 2 ≤ Rn.same (l.drop (Rn.fresh l 2 128)) 2) := by
  obtain ⟨h1, _, _, _⟩ := Rn.cnt_ends (p := Rn.freshP l 2 128) l.length 1 (by simp [Rn.freshP]; omega)
  have h1' : Rn.freshP l 2 128 (Rn.fresh l 2 128) = false := h1
  obtain ⟨_, h2, _⟩ := Rn.fresh_ends l 2 128 hl (by omega)
  by_cases he : Rn.fresh l 2 128 = l.length
  · exact .inl he
  · refine .inr ⟨by omega, ?_⟩
    simp [Rn.freshP] at h1'
    exact h1' (by omega) h
theorem same_more {l : List Int} {m n : Nat} (h : m ≤ Rn.same l m) (hmn : m ≤ n) : m ≤ Rn.same l n := by
  rcases Nat.lt_or_ge (Rn.same l n) m with hlt | hge
  · obtain ⟨h1, h2, h3⟩ := Rn.same_ends l n
    have h4 := (Rn.same_ends l m).2.2 (Rn.same l n) (by omega)
    simp [Rn.sameP] at h1 h4
    exact absurd h4.2 (h1 h4.1.1 (by omega))
  · exact hge

/-- how long packets are -/
theorem flat_short {S : Nat} {l : List Int} (hS1 : 1 ≤ S) : ∀ (d k : Nat), l.length - k ≤ d → (flat S l (Rn.from_ 2 128 l k)).length ≤ S * (l.length - k) + (l.length - k + 127) / 128 + (l.length - k) / 2
  | 0, k, hd => by rw [Rn.from_end (by omega)]; simp [flat]
  | d + 1, k, hd => by
    by_cases hk : k < l.length
    · have hdl : 0 < (l.drop k).length := by rw [List.length_drop]; omega
      obtain ⟨z1, z2, z3⟩ := Rn.size_ends (l := l.drop k) (least := 2) (m := 128) hdl (by omega)
      rw [List.length_drop] at z2
      have hszd : Rn.size 2 128 (l.drop k) = if 2 ≤ Rn.same (l.drop k) 128 then Rn.same (l.drop k) 128 else Rn.fresh (l.drop k) 2 128 := rfl
      have hagd : Rn.again 2 128 (l.drop k) = decide (2 ≤ Rn.same (l.drop k) 128) := rfl
      rw [Rn.from_step (by omega) hk, flat_cons, List.length_append]
      have ih := flat_short (S := S) (l := l) hS1 d (k + Rn.size 2 128 (l.drop k)) (by omega)
      by_cases hag : 2 ≤ Rn.same (l.drop k) 128
      · rw [if_pos hag] at hszd
        rw [decide_eq_true hag] at hagd
        have hpl : (piece S l (k, Rn.size 2 128 (l.drop k), Rn.again 2 128 (l.drop k))).length = 1 + S := by
          rw [hagd]
          show (UInt8.ofNat _ :: txt S ((l.drop k).take 1)).length = _
          rw [List.length_cons, txt_len, List.length_take, Nat.min_eq_left (by omega)]; omega
        rw [hpl]
        generalize hz : Rn.size 2 128 (l.drop k) = z at *
        have hsp : S * (l.length - k) = S * z + S * (l.length - (k + z)) := by rw [← Nat.mul_add, show z + (l.length - (k + z)) = l.length - k by omega]
        have h2 : S * 2 ≤ S * z := Nat.mul_le_mul_left S (by omega)
        omega
      · rw [if_neg hag] at hszd
        rw [decide_eq_false hag] at hagd
        have hpl : (piece S l (k, Rn.size 2 128 (l.drop k), Rn.again 2 128 (l.drop k))).length = 1 + S * Rn.size 2 128 (l.drop k) := by
          rw [hagd]
          show (UInt8.ofNat _ :: txt S ((l.drop k).take (Rn.size 2 128 (l.drop k)))).length = _
          rw [List.length_cons, txt_len, List.length_take, List.length_drop, Nat.min_eq_left (by omega)]; omega
        rw [hpl]
        by_cases h128 : Rn.size 2 128 (l.drop k) = 128
        · generalize hz : Rn.size 2 128 (l.drop k) = z at *
          have hsp : S * (l.length - k) = S * z + S * (l.length - (k + z)) := by
            rw [← Nat.mul_add, show z + (l.length - (k + z)) = l.length - k by omega]
          omega
        · rcases fresh_stop (l := l.drop k) hdl (by omega) with he | ⟨he, hs2⟩
          · rw [← hszd, List.length_drop] at he
            rw [Rn.from_end (l := l) (k := k + Rn.size 2 128 (l.drop k)) (by omega)]
            rw [he]
            simp [flat]
            omega
          · rw [← hszd, List.length_drop] at he
            rw [← hszd, List.drop_drop] at hs2
            have hs3 := same_more hs2 (show 2 ≤ 128 by omega)
            have hk2 : k + Rn.size 2 128 (l.drop k) < l.length := by omega
            generalize hz : Rn.size 2 128 (l.drop k) = z at *
            have hdl2 : 0 < (l.drop (k + z)).length := by rw [List.length_drop]; omega
            obtain ⟨y1, y2, y3⟩ := Rn.size_ends (l := l.drop (k + z)) (least := 2) (m := 128) hdl2 (by omega)
            rw [List.length_drop] at y2
            have hszd2 : Rn.size 2 128 (l.drop (k + z)) = if 2 ≤ Rn.same (l.drop (k + z)) 128 then Rn.same (l.drop (k + z)) 128 else Rn.fresh (l.drop (k + z)) 2 128 := rfl
            have hagd2 : Rn.again 2 128 (l.drop (k + z)) = decide (2 ≤ Rn.same (l.drop (k + z)) 128) := rfl
            rw [if_pos hs3] at hszd2
            rw [decide_eq_true hs3] at hagd2
            rw [Rn.from_step (by omega) hk2, flat_cons, List.length_append]
            have hpl2 : (piece S l (k + z, Rn.size 2 128 (l.drop (k + z)), Rn.again 2 128 (l.drop (k + z)))).length = 1 + S := by
              rw [hagd2]
              show (UInt8.ofNat _ :: txt S ((l.drop (k + z)).take 1)).length = _
              rw [List.length_cons, txt_len, List.length_take, Nat.min_eq_left (by omega)]; omega
            rw [hpl2]
            have ih2 := flat_short (S := S) (l := l) hS1 d (k + z + Rn.size 2 128 (l.drop (k + z))) (by omega)
            generalize hy : Rn.size 2 128 (l.drop (k + z)) = y at *
            have hsp : S * (l.length - k) = S * z + S * y + S * (l.length - (k + z + y)) := by rw [← Nat.mul_add, ← Nat.mul_add, show z + y + (l.length - (k + z + y)) = l.length - k by omega]
            have h2 : S * 2 ≤ S * y := Nat.mul_le_mul_left S (by omega)
            omega
    · rw [Rn.from_end (by omega)]; simp [flat]
theorem all_short {S : Nat} {l : List Int} (hS1 : 1 ≤ S) : (all S l).length ≤ S * l.length + (l.length + 127) / 128 + l.length / 2 := by
  have := flat_short (S := S) (l := l) hS1 l.length 0 (by omega)
  rw [Nat.sub_zero] at this
  exact this
end Rt
end Go.Proofs.Ytmcjdilmmabiaaa
