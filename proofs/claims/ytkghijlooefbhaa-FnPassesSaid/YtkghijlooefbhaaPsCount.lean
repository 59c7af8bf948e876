/- Each point of a picture is in just one part (mathematics). -/
import Derived.Test.YtkghijlooefbhaaPsMath
namespace Go.Proofs.Ytkghijlooefbhaa
namespace Ps

/-- how often a place is met by the first k -/
def hits (s : Nat → Nat) (c : Nat) : Nat → Nat
  | 0 => 0
  | k + 1 => hits s c k + if s k = c then 1 else 0

theorem hits_none (s : Nat → Nat) (c : Nat) : ∀ k, (∀ j, j < k → s j ≠ c) → hits s c k = 0
  | 0, _ => rfl
  | k + 1, h => by
    rw [hits, hits_none s c k (fun j hj => h j (by omega)), if_neg (h k (by omega))]

theorem hits_one (s : Nat → Nat) (c : Nat) : ∀ k j, j < k → s j = c → (∀ i, i < k → s i = c → i = j) → hits s c k = 1
  | 0, j, hj, _, _ => by omega
  | k + 1, j, hj, hs, hu => by
    rw [hits]
    by_cases e : j = k
    · subst e
      rw [hits_none s c j (fun i hi q => by have := hu i (by omega) q; omega), if_pos hs]
    · have hk : ¬ s k = c := fun q => e (hu k (by omega) q).symm
      rw [hits_one s c k j (by omega) hs (fun i hi q => hu i (by omega) q), if_neg hk]

/-- the place of the k-th point of a part -/
def spot (wd i k W : Nat) : Nat := (py i + k / W * dy i) * wd + (px i + k % W * dx i)

/-- a point is in a part -/
def inn (i x y : Nat) : Prop := x % dx i = px i ∧ y % dy i = py i
instance (i x y : Nat) : Decidable (inn i x y) := by unfold inn; infer_instance

theorem div_lt_of {a b d : Nat} (hd : 1 ≤ d) (h : a < (b + d - 1) / d) : a * d + 1 ≤ b := by
  have h1 : (a + 1) * d ≤ b + d - 1 := by
    have := (Nat.le_div_iff_mul_le (by omega)).1 (show a + 1 ≤ (b + d - 1) / d from h); exact this
  rw [Nat.add_mul, Nat.one_mul] at h1
  omega

theorem lt_div_of {a b d : Nat} (hd : 1 ≤ d) (h : a * d + 1 ≤ b) : a < (b + d - 1) / d := by
  refine (Nat.le_div_iff_mul_le (by omega)).2 ?_
  rw [Nat.succ_mul]
  omega

/-- a place's column and row -/
theorem place_inj {wd x y x2 y2 : Nat} (hx : x < wd) (hx2 : x2 < wd) (h : y * wd + x = y2 * wd + x2) : x = x2 ∧ y = y2 := by
  have h1 : (y * wd + x) % wd = x := by rw [Nat.mul_comm, Nat.mul_add_mod]; exact Nat.mod_eq_of_lt hx
  have h2 : (y2 * wd + x2) % wd = x2 := by rw [Nat.mul_comm, Nat.mul_add_mod]; exact Nat.mod_eq_of_lt hx2
  have e : x = x2 := by rw [← h1, ← h2, h]
  subst e
  refine ⟨rfl, ?_⟩
  have h3 : y * wd = y2 * wd := by omega
  exact Nat.eq_of_mul_eq_mul_right (by omega) h3

/-- the columns of a part -/
theorem col_lt {i wd a : Nat} (hi : i < 7) (hw : px i < wd) (h : a < num (px i) (dx i) wd) : px i + a * dx i < wd := by
  obtain ⟨_, _, hd, _⟩ := bounds i hi
  unfold num at h
  rw [show wd + dx i - 1 - px i = (wd - px i) + dx i - 1 by omega] at h
  have := div_lt_of hd h
  omega
theorem row_lt {i hh a : Nat} (hi : i < 7) (hw : py i < hh) (h : a < num (py i) (dy i) hh) : py i + a * dy i < hh := by
  obtain ⟨_, _, _, _, hd, _⟩ := bounds i hi
  unfold num at h
  rw [show hh + dy i - 1 - py i = (hh - py i) + dy i - 1 by omega] at h
  have := div_lt_of hd h
  omega

theorem spot_in {i wd hh k : Nat} (hi : i < 7) (hx : px i < wd) (hy : py i < hh) (hk : k < num (px i) (dx i) wd * num (py i) (dy i) hh) :
    px i + k % num (px i) (dx i) wd * dx i < wd ∧ py i + k / num (px i) (dx i) wd * dy i < hh := by
  obtain ⟨_, _, hd, _, he, _⟩ := bounds i hi
  have hW := num_pos hd hx
  refine ⟨col_lt hi hx (Nat.mod_lt _ hW), row_lt hi hy ?_⟩
  exact Nat.div_lt_of_lt_mul hk

/-- a part meets each of its places once, and no other one -/
theorem part_hits {i wd hh x y : Nat} (hi : i < 7) (hpx : px i < wd) (hpy : py i < hh) (hx : x < wd) (hy : y < hh) :
    hits (fun k => spot wd i k (num (px i) (dx i) wd)) (y * wd + x) (num (px i) (dx i) wd * num (py i) (dy i) hh) = if inn i x y then 1 else 0 := by
  obtain ⟨b1, b2, hd, b4, he, b6, b7, b8⟩ := bounds i hi
  have hW := num_pos hd hpx
  by_cases hin : inn i x y
  · rw [if_pos hin]
    obtain ⟨m1, m2⟩ := hin
    have ex : x = px i + x / dx i * dx i := by have := Nat.div_add_mod x (dx i); rw [m1, Nat.mul_comm] at this; omega
    have ey : y = py i + y / dy i * dy i := by have := Nat.div_add_mod y (dy i); rw [m2, Nat.mul_comm] at this; omega
    have hxa : x / dx i < num (px i) (dx i) wd := by
      unfold num; rw [show wd + dx i - 1 - px i = (wd - px i) + dx i - 1 by omega]
      exact lt_div_of hd (by omega)
    have hya : y / dy i < num (py i) (dy i) hh := by
      unfold num; rw [show hh + dy i - 1 - py i = (hh - py i) + dy i - 1 by omega]
      exact lt_div_of he (by omega)
    have hcols : ∀ a, a < num (px i) (dx i) wd → px i + a * dx i < wd := fun a h => col_lt hi hpx h
    generalize num (px i) (dx i) wd = W at *
    generalize num (py i) (dy i) hh = H at *
    refine hits_one _ _ _ (y / dy i * W + x / dx i) ?_ ?_ ?_
    · have : (y / dy i + 1) * W ≤ H * W := Nat.mul_le_mul_right _ hya
      rw [Nat.add_mul, Nat.one_mul, Nat.mul_comm H W] at this
      omega
    · show (py i + (y / dy i * W + x / dx i) / W * dy i) * wd + (px i + (y / dy i * W + x / dx i) % W * dx i) = _
      rw [Nat.mul_comm (y / dy i) W, Nat.mul_add_mod, Nat.mod_eq_of_lt hxa, Nat.mul_add_div hW, Nat.div_eq_of_lt hxa, Nat.add_zero, ← ex, ← ey]
    · intro k hk hs
      have hkW : k % W < W := Nat.mod_lt _ hW
      have hs' : (py i + k / W * dy i) * wd + (px i + k % W * dx i) = y * wd + x := hs
      have hcol : px i + k % W * dx i < wd := hcols _ hkW
      obtain ⟨e1, e2⟩ := place_inj hcol hx hs'
      have f1 : k % W = x / dx i := Nat.eq_of_mul_eq_mul_right (show 0 < dx i by omega) (by omega)
      have f2 : k / W = y / dy i := Nat.eq_of_mul_eq_mul_right (show 0 < dy i by omega) (by omega)
      have := Nat.div_add_mod k W
      rw [f1, f2, Nat.mul_comm] at this
      omega
  · rw [if_neg hin]
    refine hits_none _ _ _ (fun k hk hs => hin ?_)
    have hs' : (py i + k / num (px i) (dx i) wd * dy i) * wd + (px i + k % num (px i) (dx i) wd * dx i) = y * wd + x := hs
    obtain ⟨e1, e2⟩ := place_inj (spot_in hi hpx hpy hk).1 hx hs'
    constructor
    · rw [← e1, Nat.add_mul_mod_self_right]; exact Nat.mod_eq_of_lt b7
    · rw [← e2, Nat.add_mul_mod_self_right]; exact Nat.mod_eq_of_lt b8

/-- how often a place is met by the first parts -/
def tot (wd hh c : Nat) : Nat → Nat
  | 0 => 0
  | i + 1 => if ok wd hh i then tot wd hh c i + hits (fun k => spot wd i k (num (px i) (dx i) wd)) c (num (px i) (dx i) wd * num (py i) (dy i) hh) else tot wd hh c i

/-- how many parts have a point -/
def many (x y : Nat) : Nat → Nat
  | 0 => 0
  | i + 1 => many x y i + if inn i x y then 1 else 0

theorem tot_many {wd hh x y : Nat} (hx : x < wd) (hy : y < hh) : ∀ i, i ≤ 7 → tot wd hh (y * wd + x) i = many x y i
  | 0, _ => rfl
  | i + 1, hi => by
    rw [tot, many, tot_many hx hy i (by omega)]
    by_cases h : ok wd hh i
    · rw [if_pos h, part_hits (by omega) h.1 h.2 hx hy]
    · rw [if_neg h]
      have hn : ¬ inn i x y := fun q => h ⟨by have := q.1; have := Nat.mod_le x (dx i); omega, by have := q.2; have := Nat.mod_le y (dy i); omega⟩
      rw [if_neg hn, Nat.add_zero]

theorem many_mod (x y : Nat) : ∀ i, i ≤ 7 → many x y i = many (x % 8) (y % 8) i
  | 0, _ => rfl
  | i + 1, hi => by
    rw [many, many, many_mod x y i (by omega)]
    have hdx : 8 % dx i = 0 ∧ 8 % dy i = 0 := by
      have : ∀ j, j < 7 → 8 % dx j = 0 ∧ 8 % dy j = 0 := by decide
      exact this i (by omega)
    have e : inn i x y ↔ inn i (x % 8) (y % 8) := by
      unfold inn
      rw [Nat.mod_mod_of_dvd x (Nat.dvd_of_mod_eq_zero hdx.1), Nat.mod_mod_of_dvd y (Nat.dvd_of_mod_eq_zero hdx.2)]
    simp only [e]

theorem many_all : ∀ x, x < 8 → ∀ y, y < 8 → many x y 7 = 1 := by decide

/-- each point is in just one part -/
theorem tot_one {wd hh x y : Nat} (hx : x < wd) (hy : y < hh) : tot wd hh (y * wd + x) 7 = 1 := by
  rw [tot_many hx hy 7 (Nat.le_refl _), many_mod x y 7 (Nat.le_refl _)]
  exact many_all _ (Nat.mod_lt _ (by omega)) _ (Nat.mod_lt _ (by omega))
theorem tot_place {wd hh c : Nat} (hw : 1 ≤ wd) (h : c < wd * hh) : tot wd hh c 7 = 1 := by
  have e : c / wd * wd + c % wd = c := by rw [Nat.mul_comm]; exact Nat.div_add_mod c wd
  rw [← e]
  exact tot_one (Nat.mod_lt _ (by omega)) (Nat.div_lt_of_lt_mul h)
end Ps
end Go.Proofs.Ytkghijlooefbhaa
