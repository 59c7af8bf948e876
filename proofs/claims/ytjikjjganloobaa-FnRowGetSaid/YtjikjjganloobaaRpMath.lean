/- A row of points as bits, the first one highest. -/
import Derived.Test.YtjikjjganloobaaBpMath
import Derived.Test.YtjikjjganloobaaDepOk
namespace Go.Proofs.Ytjikjjganloobaa
namespace Rp

/-- the bits of a row, as the specification lists them: 32 bits in two -/
def bl (D : Nat) (zs : List Int) : List (Int × Int) := if D = 32 then zs.flatMap (fun z => [(z / 65536, 16), (z % 65536, 16)]) else zs.map (fun z => (z, (D : Int)))

theorem bl_snoc (D : Nat) (zs : List Int) (z : Int) : bl D (zs ++ [z]) = bl D zs ++ (if D = 32 then [(z / 65536, 16), (z % 65536, 16)] else [(z, (D : Int))]) := by
  unfold bl; split <;> simp

theorem bl_len_32 (zs : List Int) : (bl 32 zs).length = zs.length * 2 := by
  unfold bl; rw [if_pos rfl]
  induction zs with
  | nil => rfl
  | cons z zs ih => simp only [List.flatMap_cons, List.length_append, ih, List.length_cons, List.length_nil]; omega
theorem bl_len (D : Nat) (zs : List Int) (h : D ≤ 24) : (bl D zs).length = zs.length := by
  unfold bl; rw [if_neg (by omega)]; simp

/-- the points are of so many bits -/
def Small (D : Nat) (zs : List Int) : Prop := ∀ z ∈ zs, 0 ≤ z ∧ z.toNat < 2 ^ D

structure Row (D : Nat) (zs : List Int) : Prop where
  fits : Bp.Fits (bl D zs) (bl D zs).length
  tot : Bp.tot (bl D zs) (bl D zs).length = zs.length * D
  bits : ∀ k (h : k < zs.length) q, q < D → Bp.fOf true (bl D zs) (k * D + q) = Bp.bitIn true (zs[k]).toNat D q

theorem tot_map (D : Nat) (zs : List Int) : ∀ i, i ≤ zs.length → Bp.tot (zs.map (fun z => (z, (D : Int)))) i = i * D := by
  intro i
  induction i with
  | zero => intro _; simp [Bp.tot]
  | succ i ih =>
    intro h
    rw [Bp.tot_succ _ i (by rw [List.length_map]; omega), ih (by omega), Nat.add_mul]
    simp

theorem row_small (D : Nat) (zs : List Int) (hD : D ≤ 24) (hl : zs.length ≤ 1000) (h : Small D zs) : Row D zs := by
  have e : bl D zs = zs.map (fun z => (z, (D : Int))) := by unfold bl; rw [if_neg (by omega)]
  refine ⟨?_, ?_, ?_⟩
  · rw [e]
    intro j hj _
    have hj' : j < zs.length := by simpa using hj
    have hz := h zs[j] (List.getElem_mem hj')
    refine ⟨⟨?_, ?_, ?_, ?_⟩, ?_⟩
    · simp
    · simp; omega
    · simpa using hz.1
    · simpa using hz.2
    · rw [tot_map D zs (j + 1) (by omega)]
      exact Nat.le_trans (Nat.mul_le_mul (show j + 1 ≤ 1000 by omega) hD) (by omega)
  · rw [e, tot_map D zs _ (by simp)]; simp
  · intro k hk q hq
    rw [e]
    have hk' : k < (zs.map (fun z => (z, (D : Int)))).length := by simpa using hk
    have := Bp.fOf_at true (zs.map (fun z => (z, (D : Int)))) k q hk' (by simpa using hq)
    rw [tot_map D zs k (by omega)] at this
    simpa using this

/-- the two halves of each point -/
def two (zs : List Int) : List (Int × Int) := zs.flatMap (fun z => [(z / 65536, 16), (z % 65536, 16)])
theorem two_len (zs : List Int) : (two zs).length = zs.length * 2 := by have := bl_len_32 zs; unfold bl at this; rw [if_pos rfl] at this; exact this
theorem two_get : ∀ (zs : List Int) (k : Nat) (h : k < zs.length), ∃ (h0 : k * 2 < (two zs).length) (h1 : k * 2 + 1 < (two zs).length), (two zs)[k * 2] = (zs[k] / 65536, 16) ∧ (two zs)[k * 2 + 1] = (zs[k] % 65536, 16)
  | [], k, h => by simp at h
  | z :: zs, 0, h => ⟨by rw [two_len]; simp, by rw [two_len]; simp; omega, rfl, rfl⟩
  | z :: zs, k + 1, h => by
    obtain ⟨h0, h1, e0, e1⟩ := two_get zs k (by simpa using h)
    have a0 : (k + 1) * 2 < (two (z :: zs)).length := by rw [two_len] at h0 ⊢; simp; omega
    have a1 : (k + 1) * 2 + 1 < (two (z :: zs)).length := by rw [two_len] at h1 ⊢; simp; omega
    refine ⟨a0, a1, ?_, ?_⟩
    · have : (two (z :: zs))[(k + 1) * 2]? = (two zs)[k * 2]? := by
        rw [show (k + 1) * 2 = k * 2 + 1 + 1 by omega]; simp [two]
      rw [List.getElem?_eq_getElem a0, List.getElem?_eq_getElem h0, e0] at this
      simpa using this
    · have : (two (z :: zs))[(k + 1) * 2 + 1]? = (two zs)[k * 2 + 1]? := by
        rw [show (k + 1) * 2 + 1 = k * 2 + 1 + 1 + 1 by omega]; simp [two]
      rw [List.getElem?_eq_getElem a1, List.getElem?_eq_getElem h1, e1] at this
      simpa using this

theorem two_size (zs : List Int) (j : Nat) (h : j < (two zs).length) : ((two zs)[j]).2 = 16 := by
  have hm := List.getElem_mem h
  unfold two at hm
  rw [List.mem_flatMap] at hm
  obtain ⟨z, _, hz⟩ := hm
  have key : ∀ p : Int × Int, p ∈ [(z / 65536, (16 : Int)), (z % 65536, 16)] → p.2 = 16 := by
    intro p hp; simp at hp; rcases hp with rfl | rfl <;> rfl
  exact key _ hz

theorem tot_two (zs : List Int) : ∀ i, i ≤ (two zs).length → Bp.tot (two zs) i = i * 16 := by
  intro i
  induction i with
  | zero => intro _; simp [Bp.tot]
  | succ i ih =>
    intro h
    rw [Bp.tot_succ _ i (by omega), ih (by omega), two_size zs i (by omega), Nat.add_mul]
    rfl

theorem high_bit (v q : Nat) (hq : q < 16) : Bp.bitIn true (v / 65536) 16 q = Bp.bitIn true v 32 q := by
  unfold Bp.bitIn
  simp only [if_true]
  rw [show (65536 : Nat) = 2 ^ 16 from rfl, Nat.div_div_eq_div_mul, ← Nat.pow_add]
  congr 3
  omega
theorem low_bit (v q : Nat) (hq : q < 16) : Bp.bitIn true (v % 65536) 16 q = Bp.bitIn true v 32 (16 + q) := by
  unfold Bp.bitIn
  simp only [if_true]
  have e : 32 - 1 - (16 + q) = 16 - 1 - q := by omega
  rw [e]
  rw [show (65536 : Nat) = 2 ^ 16 from rfl]
  have h := Nat.mod_pow_succ (b := 2) (x := v) (k := 16 - 1 - q)
  have hd : ∀ x : Nat, x / 2 ^ (16 - 1 - q) % 2 = (x % 2 ^ (16 - 1 - q + 1)) / 2 ^ (16 - 1 - q) := by
    intro x; rw [Nat.pow_succ, Nat.mod_mul_right_div_self]
  rw [hd v, hd (v % 2 ^ 16)]
  congr 1
  rw [Nat.mod_mod_of_dvd]
  exact Nat.pow_dvd_pow 2 (by omega)

theorem row_32 (zs : List Int) (hl : zs.length ≤ 1000) (h : Small 32 zs) : Row 32 zs := by
  have e : bl 32 zs = two zs := by unfold bl; rw [if_pos rfl]; rfl
  have hlen := two_len zs
  refine ⟨?_, ?_, ?_⟩
  · rw [e]
    intro j hj _
    have hk : j / 2 < zs.length := by omega
    obtain ⟨h0, h1, e0, e1⟩ := two_get zs (j / 2) hk
    have hz := h zs[j / 2] (List.getElem_mem hk)
    obtain ⟨v, hv⟩ := Int.eq_ofNat_of_zero_le hz.1
    rw [hv] at e0 e1 hz
    have hv2 : v < 4294967296 := hz.2
    refine ⟨?_, ?_⟩
    · rcases (by omega : j = j / 2 * 2 ∨ j = j / 2 * 2 + 1) with g | g
      · have : (two zs)[j] = ((v : Int) / 65536, 16) := by rw [← e0]; congr 1
        rw [this]
        refine ⟨by simp, by simp, ?_, ?_⟩
        · show (0 : Int) ≤ (v : Int) / 65536; omega
        · show ((v : Int) / 65536).toNat < 65536; omega
      · have : (two zs)[j] = ((v : Int) % 65536, 16) := by rw [← e1]; congr 1
        rw [this]
        refine ⟨by simp, by simp, ?_, ?_⟩
        · show (0 : Int) ≤ (v : Int) % 65536; omega
        · show ((v : Int) % 65536).toNat < 65536; omega
    · rw [tot_two zs (j + 1) (by omega)]; omega
  · rw [e, tot_two zs _ (Nat.le_refl _), hlen]; omega
  · intro k hk q hq
    rw [e]
    obtain ⟨h0, h1, e0, e1⟩ := two_get zs k hk
    have hz := h zs[k] (List.getElem_mem hk)
    obtain ⟨v, hv⟩ := Int.eq_ofNat_of_zero_le hz.1
    rw [hv] at e0 e1 ⊢
    rw [Int.toNat_natCast]
    by_cases g : q < 16
    · have := Bp.fOf_at true (two zs) (k * 2) q h0 (by rw [e0]; exact g)
      rw [tot_two zs _ (by omega), e0] at this
      rw [show k * 32 + q = k * 2 * 16 + q by omega, this, ← high_bit v q g]
      show Bp.bitIn true ((v : Int) / 65536).toNat 16 q = _
      congr 1
    · have := Bp.fOf_at true (two zs) (k * 2 + 1) (q - 16) h1 (by rw [e1]; show q - 16 < 16; omega)
      rw [tot_two zs _ (by omega), e1] at this
      rw [show k * 32 + q = (k * 2 + 1) * 16 + (q - 16) by omega, this]
      have g2 := low_bit v (q - 16) (by omega)
      rw [show 16 + (q - 16) = q by omega] at g2
      rw [← g2]
      show Bp.bitIn true ((v : Int) % 65536).toNat 16 _ = _
      congr 1

/-- a row that can be packed -/
def Fit (d : Int) (zs : List Int) : Prop := depB d = true ∧ zs.length ≤ 1000 ∧ Small d.toNat zs
open Classical in
/-- the bytes of a row; none if it can't be packed -/
noncomputable def put (d : Int) (zs : List Int) : List Nat := if Fit d zs then Bp.text true (bl d.toNat zs) else []
theorem put_yes {d : Int} {zs : List Int} (h : Fit d zs) : put d zs = Bp.text true (bl d.toNat zs) := by unfold put; rw [if_pos h]
theorem put_no {d : Int} {zs : List Int} (h : ¬ Fit d zs) : put d zs = [] := by unfold put; rw [if_neg h]
end Rp
end Go.Proofs.Ytjikjjganloobaa
