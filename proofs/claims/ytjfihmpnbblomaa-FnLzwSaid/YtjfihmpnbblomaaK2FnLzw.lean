/- Texts laid together: LrMath, LrTop, LawLzw. -/
import Derived.Test.YtjfihmpnbblomaaKFnLzw
import Derived.Test.YtjfihmpnbblomaaLzKeep
import Derived.Test.YtjfihmpnbblomaaK1FnLzw
import Derived.Test.YtjfihmpnbblomaaBpBack
/- What was packed by LZW comes out: the mathematics. -/
namespace Go.Proofs.Ytjfihmpnbblomaa

/-- the numbers stand in the text -/
def Lr.Reads (X : ByteArray) (wide : Bool) (A : List (Int × Int)) : Prop := ∀ k (h : k < A.length) (V S : Nat), A[k] = ((V : Int), (S : Int)) → Bp.tot A (k + 1) = Bp.tot A k + S ∧ Bp.tot A k + S ≤ 8 * X.size ∧ Lz.num X wide (Bp.tot A k) S = V

theorem Lr.step_text {X : ByteArray} {b : Nat} {wide : Bool} {A : List (Int × Int)} (R : Lr.Reads X wide A) {k v : Nat} (hk : k < A.length) {l : List ByteArray} {last : ByteArray} {left : Nat} (hA : A[k] = ((v : Int), (Lz.width b wide l.length : Int)))
    (h1 : v ≠ 2 ^ b) (h2 : v ≠ 2 ^ b + 1) (h3 : ¬ (l.length < v ∨ (v = l.length ∧ last.size = 0))) (h4 : (Lz.text l last v).size ≤ left) :
    Lz.step X b wide (Bp.tot A k) l last left = .ok (v, Lz.text l last v, Lz.learn l last (Lz.text l last v), Lz.text l last v, left - (Lz.text l last v).size) := by
  obtain ⟨-, r1, r2⟩ := R k hk v _ hA
  unfold Lz.step
  simp only [r2]
  rw [if_neg (by omega), if_neg h1, if_neg h2, if_neg h3, if_neg (by omega)]
theorem Lr.step_clear {X : ByteArray} {b : Nat} {wide : Bool} {A : List (Int × Int)} (R : Lr.Reads X wide A) {k : Nat} (hk : k < A.length) {l : List ByteArray} {last : ByteArray} {left : Nat} (hA : A[k] = (((2 ^ b : Nat) : Int), (Lz.width b wide l.length : Int))) :
    Lz.step X b wide (Bp.tot A k) l last left = .ok (2 ^ b, ⟨#[]⟩, Lz.start b, ⟨#[]⟩, left) := by
  obtain ⟨-, r1, r2⟩ := R k hk _ _ hA
  unfold Lz.step
  simp only [r2]
  rw [if_neg (by omega), if_pos trivial]
theorem Lr.step_end {X : ByteArray} {b : Nat} {wide : Bool} {A : List (Int × Int)} (R : Lr.Reads X wide A) {k : Nat} (hk : k < A.length) {l : List ByteArray} {last : ByteArray} {left : Nat} (hA : A[k] = (((2 ^ b + 1 : Nat) : Int), (Lz.width b wide l.length : Int))) :
    Lz.step X b wide (Bp.tot A k) l last left = .ok (2 ^ b + 1, ⟨#[]⟩, l, last, left) := by
  obtain ⟨-, r1, r2⟩ := R k hk _ _ hA
  unfold Lz.step
  simp only [r2]
  rw [if_neg (by omega), if_neg (by omega), if_pos trivial]

/-- how far it is known -/
theorem Lr.long {l : List ByteArray} {s : ByteArray} {p : Nat} (h1 : 0 ≤ Lp.num l (s.extract p (p + 1))) (hp : p < s.size) :
    ∃ k, 1 ≤ k ∧ p + k ≤ s.size ∧ (∀ j, 1 ≤ j → j ≤ k → 0 ≤ Lp.num l (s.extract p (p + j))) ∧ (p + k = s.size ∨ (p + k < s.size ∧ Lp.num l (s.extract p (p + (k + 1))) < 0)) := by
  have main : ∀ n k, s.size - (p + k) ≤ n → 1 ≤ k → p + k ≤ s.size → (∀ j, 1 ≤ j → j ≤ k → 0 ≤ Lp.num l (s.extract p (p + j))) → ∃ k, 1 ≤ k ∧ p + k ≤ s.size ∧ (∀ j, 1 ≤ j → j ≤ k → 0 ≤ Lp.num l (s.extract p (p + j))) ∧ (p + k = s.size ∨ (p + k < s.size ∧ Lp.num l (s.extract p (p + (k + 1))) < 0)) := by
    intro n
    induction n with
    | zero => intro k hn h2 h3 h4; exact ⟨k, h2, h3, h4, .inl (by omega)⟩
    | succ n ih =>
      intro k hn h2 h3 h4
      by_cases he : p + k = s.size
      · exact ⟨k, h2, h3, h4, .inl he⟩
      · by_cases hl : Lp.num l (s.extract p (p + (k + 1))) < 0
        · exact ⟨k, h2, h3, h4, .inr ⟨by omega, hl⟩⟩
        · refine ih (k + 1) (by omega) (by omega) (by omega) (fun j h5 h6 => ?_)
          by_cases hj : j ≤ k
          · exact h4 j h5 hj
          · have : j = k + 1 := by omega
            subst this
            omega
  exact main (s.size - (p + 1)) 1 (by omega) (Nat.le_refl _) (by omega) (fun j h2 h3 => by
    have e : j = 1 := by omega
    subst e
    exact h1)

theorem Lp.one_pre (b : Nat) (wide : Bool) (t : Lp.St) (x : ByteArray) : t.out <+: (Lp.one b wide t x).out := by
  unfold Lp.one
  split
  · exact List.prefix_refl _
  · split
    · rw [List.append_assoc]; exact List.prefix_append _ _
    · exact List.prefix_append _ _
theorem Lp.at_pre (b : Nat) (wide : Bool) (s : ByteArray) (i : Nat) : ∀ j, (Lp.at b wide s i).out <+: (Lp.at b wide s (i + j)).out
  | 0 => List.prefix_refl _
  | j + 1 => (Lp.at_pre b wide s i j).trans (Lp.one_pre b wide _ _)
theorem Lp.all_pre (b : Nat) (wide : Bool) (s : ByteArray) (i : Nat) (hi : i ≤ s.size) : (Lp.at b wide s i).out <+: Lp.all b wide s := by
  have h := Lp.at_pre b wide s i (s.size - i)
  rw [show i + (s.size - i) = s.size by omega] at h
  refine h.trans ?_
  unfold Lp.all Lp.close
  split
  · exact List.prefix_append _ _
  · rw [List.append_assoc]; exact List.prefix_append _ _

theorem pre_at {A o : List (Int × Int)} {c : Int × Int} {r : List (Int × Int)} (h : (o ++ c :: r) <+: A) : ∃ hk : o.length < A.length, A[o.length] = c := by
  obtain ⟨t, e⟩ := h
  have hl : o.length < A.length := by rw [← e]; simp
  refine ⟨hl, ?_⟩
  subst e
  simp
theorem drop_at {A : List (Int × Int)} {k : Nat} (h : k < A.length) : (A.drop k).map Prod.fst = (A[k]).1 :: (A.drop (k + 1)).map Prod.fst := by
  rw [List.drop_eq_getElem_cons h]; rfl

theorem Lp.one_full_ {b : Nat} {wide : Bool} {l : List ByteArray} {out : List (Int × Int)} {z x : ByteArray} (h : Lp.num l (z ++ x) < 0) (h2 : Lp.full wide ≤ l.length + 1) : Lp.one b wide ⟨l, out, z⟩ x = ⟨Lz.start b, (out ++ [Lp.code b wide (Lp.num l z) l.length]) ++ [Lp.code b wide ((2 ^ b : Nat) : Int) (l.length + 1)], x⟩ := by
  unfold Lp.one
  rw [if_neg (show ¬ 0 ≤ Lp.num l (z ++ x) by omega), if_pos h2]
theorem Lp.one_add_ {b : Nat} {wide : Bool} {l : List ByteArray} {out : List (Int × Int)} {z x : ByteArray} (h : Lp.num l (z ++ x) < 0) (h2 : ¬ Lp.full wide ≤ l.length + 1) : Lp.one b wide ⟨l, out, z⟩ x = ⟨l ++ [z ++ x], out ++ [Lp.code b wide (Lp.num l z) l.length], x⟩ := by
  unfold Lp.one
  rw [if_neg (show ¬ 0 ≤ Lp.num l (z ++ x) by omega), if_neg h2]
/-- what whoever reads knows, when so much is known here -/
def Lr.Rel (b : Nat) (s : ByteArray) (p : Nat) (l l' : List ByteArray) (last' : ByteArray) : Prop :=
  (l = Lz.start b ∧ l' = Lz.start b ∧ last' = ⟨#[]⟩) ∨ (l = l' ++ [last' ++ s.extract p (p + 1)] ∧ 1 ≤ last'.size ∧ 2 ^ b + 2 ≤ l'.length)
theorem Lr.known {b : Nat} {s : ByteArray} {p : Nat} {l l' : List ByteArray} {last' : ByteArray} (h : Lr.Rel b s p l l' last') : Lp.known b l.length = l'.length := by
  unfold Lp.known
  rcases h with ⟨rfl, rfl, rfl⟩ | ⟨rfl, -, h2⟩
  · rw [if_pos (Lz.start_len b)]
  · have e : (l' ++ [last' ++ s.extract p (p + 1)]).length = l'.length + 1 := by simp
    rw [e, if_neg (by omega)]
    omega
/-- the phrase is told, and what is known behind it -/
theorem Lr.phrase {b k v : Nat} {s : ByteArray} {p : Nat} {l l' : List ByteArray} {last' : ByteArray} (h : Lr.Rel b s p l l' last') (g : Lq.Inv b l) (hl4 : l.length ≤ 4096) (hk : 1 ≤ k) (hp : p + k ≤ s.size) (hv : Lp.num l (s.extract p (p + k)) = (v : Int)) (hb : Lp.byte (s.extract p (p + 1)) < 2 ^ b) :
    v ≠ 2 ^ b ∧ v ≠ 2 ^ b + 1 ∧ ¬ (l'.length < v ∨ (v = l'.length ∧ last'.size = 0)) ∧ Lz.text l' last' v = s.extract p (p + k) ∧ Lz.learn l' last' (s.extract p (p + k)) = l := by
  have hzs : (s.extract p (p + k)).size = k := by rw [ByteArray.size_extract]; omega
  obtain ⟨hvl, hve⟩ := Lq.at_num g hv (fun h1 => by
    rw [hzs] at h1
    subst h1
    exact hb)
  have hlo := g.lo
  have hempty : ∀ i (hi : i < l.length), 2 ^ b ≤ i → i < 2 ^ b + 2 → l[i] = ⟨#[]⟩ := fun i hi h1 h2 => by
    have e3 : (l.take (2 ^ b + 2))[i]'(by rw [g.pre, Lz.start_len]; exact h2) = l[i] := List.getElem_take
    rw [← e3]
    simp only [g.pre]
    exact Lz.start_big (by rw [Lz.start_len]; exact h2) h1
  have hne : ∀ i, 2 ^ b ≤ i → i < 2 ^ b + 2 → v ≠ i := fun i h1 h2 e => by
    subst e
    rw [hempty v hvl h1 h2] at hve
    have := congrArg ByteArray.size hve
    rw [hzs] at this
    have h0 : (ByteArray.mk #[]).size = 0 := rfl
    omega
  have hfirst : (s.extract p (p + k)).extract 0 1 = s.extract p (p + 1) := by
    rw [ByteArray.extract_extract]
    congr 1
    omega
  refine ⟨hne _ (Nat.le_refl _) (by omega), hne _ (by omega) (by omega), ?_⟩
  rcases h with ⟨rfl, rfl, rfl⟩ | ⟨hl, h1, h2⟩
  · refine ⟨by omega, ?_, ?_⟩
    · unfold Lz.text; rw [dif_pos hvl]; exact hve
    · unfold Lz.learn; rw [if_neg (fun h => absurd h.1 (Nat.lt_irrefl _))]
  · have hlen : l.length = l'.length + 1 := by rw [hl]; simp
    refine ⟨by omega, ?_, ?_⟩
    · unfold Lz.text
      by_cases hlt : v < l'.length
      · rw [dif_pos hlt, ← hve]
        subst hl
        exact (List.getElem_append_left hlt).symm
      · rw [dif_neg hlt]
        have e : v = l'.length := by omega
        subst e
        have e2 : l[l'.length] = last' ++ s.extract p (p + 1) := by subst hl; simp
        rw [e2] at hve
        have hx1 : (s.extract p (p + 1)).size = 1 := by rw [ByteArray.size_extract]; omega
        have e3 : (last' ++ s.extract p (p + 1)).extract 0 1 = last'.extract 0 1 := by
          apply ByteArray.ext
          rw [ByteArray.data_extract, ByteArray.data_extract, ByteArray.data_append]
          rw [Array.extract_append]
          simp
          omega
        rw [hve, hfirst] at e3
        rw [← e3, hve]
    · unfold Lz.learn
      rw [if_pos ⟨by omega, by omega⟩, hfirst, hl]

theorem textsOf_cons (z : Nat × ByteArray) (dn : List (Nat × ByteArray)) : textsOf (z :: dn) = z.2.data.toList ++ textsOf dn := by simp [textsOf]
theorem codesOf_cons (z : Nat × ByteArray) (dn : List (Nat × ByteArray)) : codesOf (z :: dn) = (z.1 : Int) :: codesOf dn := by simp [codesOf]

/-- the way back, from a phrase on -/
theorem Lr.main {X s : ByteArray} {b : Nat} {wide : Bool} (hb : b ≤ 8) (hsm : Lp.small b s) (R : Lr.Reads X wide (Lp.all b wide s)) :
    ∀ n p l out l' last' left f, s.size - p ≤ n → p < s.size → Lp.at b wide s (p + 1) = ⟨l, out, s.extract p (p + 1)⟩ → Lq.Inv b l → Lr.Rel b s p l l' last' → s.size - p ≤ left → (Lp.all b wide s).length ≤ out.length + f →
      ∃ dn, Lz.go X b wide f (Bp.tot (Lp.all b wide s) out.length) l' last' left = .ok dn ∧ textsOf dn = (s.extract p s.size).data.toList ∧ codesOf dn = ((Lp.all b wide s).drop out.length).map Prod.fst := by
  intro n
  induction n with
  | zero => intro p l out l' last' left f h0 hp; omega
  | succ n ih =>
    intro p l out l' last' left f hn hp hat g rel hleft hf
    have hgood := Lp.good_at hb wide hsm (p + 1) (by omega)
    rw [hat] at hgood
    have hhi : l.length < Lp.full wide := hgood.hi
    have hfb := Lp.full_bd wide
    have hlo := g.lo
    have hby : Lp.byte (s.extract p (p + 1)) < 2 ^ b := hsm p hp
    have hx1 : (s.extract p (p + 1)).size = 1 := by rw [ByteArray.size_extract]; omega
    obtain ⟨k, hk1, hkp, hkn, hke⟩ := Lr.long (l := l) (s := s) (p := p) (by rw [Lp.num_one hx1]; omega) hp
    have hrun := Lq.run hat hkn k hk1 (Nat.le_refl _)
    obtain ⟨v, hv⟩ := Int.eq_ofNat_of_zero_le (hkn k hk1 (Nat.le_refl _))
    obtain ⟨q1, q2, q3, q4, q5⟩ := Lr.phrase rel g (by omega) hk1 hkp hv hby
    have hkw := Lr.known rel
    obtain ⟨z, hz⟩ : ∃ z, z = s.extract p (p + k) := ⟨_, rfl⟩
    rw [← hz] at hrun hv q4 q5
    have hzs : z.size = k := by rw [hz, ByteArray.size_extract]; omega
    obtain ⟨A, hA⟩ : ∃ A, A = Lp.all b wide s := ⟨_, rfl⟩
    rw [← hA] at R hf ⊢
    have hC : Lp.code b wide (Lp.num l z) l.length = ((v : Int), (Lz.width b wide l'.length : Int)) := by unfold Lp.code; rw [hv, hkw]
    have hsplit : (s.extract p s.size).data.toList = z.data.toList ++ (s.extract (p + k) s.size).data.toList := by
      have e : s.extract p s.size = z ++ s.extract (p + k) s.size := by
        rw [hz, ByteArray.extract_append_extract, Nat.min_eq_left (by omega), Nat.max_eq_right (by omega)]
      rw [e, ByteArray.data_append, Array.toList_append]
    -- the phrase's own number
    have hphr : ∀ r, (out ++ (((v : Int), (Lz.width b wide l'.length : Int)) :: r)) <+: A → ∀ f', f = f' + 1 → (∃ dn', Lz.go X b wide f' (Bp.tot A (out.length + 1)) l z (left - k) = .ok dn' ∧ textsOf dn' = (s.extract (p + k) s.size).data.toList ∧ codesOf dn' = (A.drop (out.length + 1)).map Prod.fst) →
        ∃ dn, Lz.go X b wide f (Bp.tot A out.length) l' last' left = .ok dn ∧ textsOf dn = (s.extract p s.size).data.toList ∧ codesOf dn = (A.drop out.length).map Prod.fst := by
      rintro r hr f' rfl ⟨dn', d1, d2, d3⟩
      obtain ⟨hkA, hAk⟩ := pre_at hr
      have hst := Lr.step_text R hkA (left := left) hAk q1 q2 q3 (by rw [q4, hzs]; omega)
      rw [q4, q5, hzs] at hst
      obtain ⟨t1, -, -⟩ := R _ hkA v _ hAk
      refine ⟨(v, z) :: dn', ?_, ?_, ?_⟩
      · rw [Lz.go_on hst q2, ← t1, d1]; rfl
      · rw [textsOf_cons, d2, hsplit]
      · rw [codesOf_cons, d3, drop_at hkA, hAk]
    have hkn1 : Lp.known b (l.length + 1) = l.length := by unfold Lp.known; rw [if_neg (by omega)]; omega
    have hlenC : (out ++ [((v : Int), (Lz.width b wide l'.length : Int))]).length = out.length + 1 := by simp
    rcases hke with hend | ⟨hmore, hneg⟩
    · have hAe : A = (out ++ [((v : Int), (Lz.width b wide l'.length : Int))]) ++ [(((2 ^ b + 1 : Nat) : Int), (Lz.width b wide l.length : Int))] := by
        rw [hA]
        unfold Lp.all
        rw [← hend, hrun]
        unfold Lp.close
        rw [if_neg (by show z.size ≠ 0; omega)]
        show (out ++ [Lp.code b wide (Lp.num l z) l.length]) ++ [Lp.code b wide (((2 ^ b : Nat) : Int) + 1) (l.length + 1)] = _
        rw [hC]
        unfold Lp.code
        rw [hkn1]
        rfl
      have hAl : A.length = out.length + 2 := by rw [hAe]; simp
      obtain ⟨f', rfl⟩ : ∃ f', f = f' + 2 := ⟨f - 2, by omega⟩
      refine hphr [(((2 ^ b + 1 : Nat) : Int), (Lz.width b wide l.length : Int))] (by rw [hAe, List.append_assoc]; exact List.prefix_refl _) (f' + 1) rfl ?_
      obtain ⟨hkA, hAk⟩ := pre_at (A := A) (o := out ++ [((v : Int), (Lz.width b wide l'.length : Int))]) (c := (((2 ^ b + 1 : Nat) : Int), (Lz.width b wide l.length : Int))) (r := []) (by rw [hAe]; exact List.prefix_refl _)
      have hst := Lr.step_end R hkA (left := left - k) (last := z) hAk
      have e9 := drop_at hkA
      rw [hAk] at e9
      rw [hlenC] at hst e9
      refine ⟨[(2 ^ b + 1, ⟨#[]⟩)], Lz.go_end hst rfl, ?_, ?_⟩
      · rw [hend]
        have e0 : s.extract s.size s.size = ⟨#[]⟩ := ByteArray.ext (Array.eq_empty_of_size_eq_zero (show (s.extract s.size s.size).size = 0 by rw [ByteArray.size_extract]; omega))
        rw [e0]
        rfl
      · rw [e9, List.drop_eq_nil_of_le (by omega)]
        rfl
    · obtain ⟨x, hx⟩ : ∃ x, x = s.extract (p + k) (p + k + 1) := ⟨_, rfl⟩
      have hxs : x.size = 1 := by rw [hx, ByteArray.size_extract]; omega
      have hzx : z ++ x = s.extract p (p + (k + 1)) := by
        rw [hz, hx, ByteArray.extract_append_extract, Nat.min_eq_left (by omega), Nat.max_eq_right (by omega)]
        rfl
      rw [← hzx] at hneg
      have hnext : Lp.at b wide s (p + k + 1) = Lp.one b wide ⟨l, out, z⟩ x := by
        show Lp.one b wide (Lp.at b wide s (p + k)) (s.extract (p + k) (p + k + 1)) = _
        rw [hrun, hx]
      have hpre := Lp.all_pre b wide s (p + k + 1) (by omega)
      rw [← hA] at hpre
      have hfind : Lp.find l (z ++ x) < 0 := by rw [← Lp.num_two hxs (by omega)]; exact hneg
      by_cases hfl : Lp.full wide ≤ l.length + 1
      · rw [Lp.one_full_ hneg hfl, hC] at hnext
        have hC2 : Lp.code b wide ((2 ^ b : Nat) : Int) (l.length + 1) = (((2 ^ b : Nat) : Int), (Lz.width b wide l.length : Int)) := by unfold Lp.code; rw [hkn1]
        rw [hC2] at hnext
        rw [hnext] at hpre
        have hAl : out.length + 2 ≤ A.length := by have := hpre.length_le; simpa using this
        obtain ⟨f', rfl⟩ : ∃ f', f = f' + 2 := ⟨f - 2, by omega⟩
        refine hphr [(((2 ^ b : Nat) : Int), (Lz.width b wide l.length : Int))] (by rw [List.append_assoc] at hpre; exact hpre) (f' + 1) rfl ?_
        obtain ⟨hkA, hAk⟩ := pre_at (A := A) (o := out ++ [((v : Int), (Lz.width b wide l'.length : Int))]) (c := (((2 ^ b : Nat) : Int), (Lz.width b wide l.length : Int))) (r := []) hpre
        have hst := Lr.step_clear R hkA (left := left - k) (last := z) hAk
        have e9 := drop_at hkA
        obtain ⟨t1, -, -⟩ := R _ hkA _ _ hAk
        rw [hAk] at e9
        rw [hlenC] at hst e9 t1
        obtain ⟨dn', d1, d2, d3⟩ := ih (p + k) (Lz.start b) _ (Lz.start b) ⟨#[]⟩ (left - k) f' (by omega) hmore (by rw [hnext, hx]) (Lq.inv_start hb) (.inl ⟨rfl, rfl, rfl⟩) (by omega) (by rw [← hA]; simp; omega)
        rw [← hA] at d1 d3
        have hl2 : (out ++ [((v : Int), (Lz.width b wide l'.length : Int))] ++ [(((2 ^ b : Nat) : Int), (Lz.width b wide l.length : Int))]).length = out.length + 1 + 1 := by simp
        rw [hl2] at d1 d3
        refine ⟨(2 ^ b, ⟨#[]⟩) :: dn', ?_, ?_, ?_⟩
        · rw [Lz.go_on hst (by omega), ← t1, d1]; rfl
        · rw [textsOf_cons, d2]; rfl
        · rw [codesOf_cons, d3, e9]
      · rw [Lp.one_add_ hneg hfl, hC] at hnext
        rw [hnext] at hpre
        have hAl : out.length + 1 ≤ A.length := by have := hpre.length_le; simpa using this
        obtain ⟨f', rfl⟩ : ∃ f', f = f' + 1 := ⟨f - 1, by omega⟩
        refine hphr [] hpre f' rfl ?_
        obtain ⟨dn', d1, d2, d3⟩ := ih (p + k) (l ++ [z ++ x]) _ l z (left - k) f' (by omega) hmore (by rw [hnext, hx]) (Lq.inv_more g hxs (by omega) (by rw [hv]; omega) hfind) (.inr ⟨by rw [hx], by omega, hlo⟩) (by omega) (by rw [← hA]; simp; omega)
        rw [← hA] at d1 d3
        rw [hlenC] at d1 d3
        exact ⟨dn', d1, d2, d3⟩
end Go.Proofs.Ytjfihmpnbblomaa

/- What was packed by LZW comes out, whatever stands behind. -/
namespace Go.Proofs.Ytjfihmpnbblomaa

theorem byteAt_left (T e : ByteArray) (j : Nat) (h : j < T.size) : byteAt (T ++ e) j = byteAt T j := by
  unfold byteAt
  rw [ByteArray.data_append, Array.toList_append, List.getD_eq_getElem?_getD, List.getD_eq_getElem?_getD, List.getElem?_append_left (show j < T.data.toList.length from h)]
theorem Lr.reads {wide : Bool} {A : List (Int × Int)} (hf : Bp.Fits A A.length) (e : ByteArray) : Lr.Reads (textOf wide A ++ e) wide A := by
  intro k hk V S hA
  have hsz := textOf_size (hi := wide) hf
  have ht := Bp.tot_succ A k hk
  have hV : (A[k]).1 = (V : Int) := by rw [hA]
  have hS : (A[k]).2 = (S : Int) := by rw [hA]
  rw [hS, Int.toNat_natCast] at ht
  have hm := tot_mono A A.length (Nat.le_refl _) (k + 1) (by omega)
  have hX : (textOf wide A).size ≤ (textOf wide A ++ e).size := by rw [ByteArray.size_append]; omega
  refine ⟨ht, by omega, ?_⟩
  have ho := (hf k hk hk).1
  have h4 : (A[k]).1.toNat < 2 ^ (A[k]).2.toNat := ho.2.2.2
  rw [hV, hS, Int.toNat_natCast, Int.toNat_natCast] at h4
  unfold Lz.num
  refine num_bits wide V S h4 _ (fun q hq => ?_)
  have hb : bitAt (textOf wide A ++ e) wide (Bp.tot A k + q) = bitAt (textOf wide A) wide (Bp.tot A k + q) := by
    unfold bitAt
    rw [byteAt_left _ _ _ (by omega)]
  rw [hb, bitAt_text hf _ (by omega)]
  have := Bp.fOf_at wide A k q hk (by rw [hS, Int.toNat_natCast]; exact hq)
  rw [hV, hS, Int.toNat_natCast, Int.toNat_natCast] at this
  exact this

theorem Lp.code_pos {b : Nat} (hb : b ≤ 8) (wide : Bool) (v : Int) (n : Nat) : 1 ≤ (Lp.code b wide v n).2.toNat := by
  have := (Lz.width_bd hb wide (Lp.known b n)).1
  unfold Lp.code
  simp only [Int.toNat_natCast]
  omega
theorem Lp.at_pos {b : Nat} (hb : b ≤ 8) (wide : Bool) (s : ByteArray) : ∀ k, ∀ q ∈ (Lp.at b wide s k).out, 1 ≤ q.2.toNat
  | 0, q, h => by
    have e : q = (((2 ^ b : Nat) : Int), ((b + 1 : Nat) : Int)) := by simpa [Lp.at, Lp.init] using h
    subst e
    simp only [Int.toNat_natCast]
    omega
  | k + 1, q, h => by
    have ih := Lp.at_pos hb wide s k
    have h' : q ∈ (Lp.one b wide (Lp.at b wide s k) (s.extract k (k + 1))).out := h
    unfold Lp.one at h'
    split at h'
    · exact ih q h'
    · split at h'
      · simp only [List.mem_append, List.mem_singleton] at h'
        rcases h' with (h' | rfl) | rfl
        · exact ih q h'
        · exact Lp.code_pos hb wide _ _
        · exact Lp.code_pos hb wide _ _
      · simp only [List.mem_append, List.mem_singleton] at h'
        rcases h' with h' | rfl
        · exact ih q h'
        · exact Lp.code_pos hb wide _ _
theorem Lp.all_pos {b : Nat} (hb : b ≤ 8) (wide : Bool) (s : ByteArray) : ∀ q ∈ Lp.all b wide s, 1 ≤ q.2.toNat := by
  intro q h
  have ih := Lp.at_pos hb wide s s.size
  unfold Lp.all Lp.close at h
  split at h
  · simp only [List.mem_append, List.mem_singleton] at h
    rcases h with h | rfl
    · exact ih q h
    · exact Lp.code_pos hb wide _ _
  · simp only [List.mem_append, List.mem_singleton] at h
    rcases h with (h | rfl) | rfl
    · exact ih q h
    · exact Lp.code_pos hb wide _ _
    · exact Lp.code_pos hb wide _ _
theorem Lp.code_wide {b : Nat} (hb : b ≤ 8) (wide : Bool) (v : Int) (n : Nat) : (Lp.code b wide v n).2.toNat ≤ 12 := by
  have := (Lz.width_bd hb wide (Lp.known b n)).2
  unfold Lp.code
  simp only [Int.toNat_natCast]
  omega
theorem Lp.at_wide {b : Nat} (hb : b ≤ 8) (wide : Bool) (s : ByteArray) : ∀ k, ∀ q ∈ (Lp.at b wide s k).out, q.2.toNat ≤ 12
  | 0, q, h => by
    have e : q = (((2 ^ b : Nat) : Int), ((b + 1 : Nat) : Int)) := by simpa [Lp.at, Lp.init] using h
    subst e
    simp only [Int.toNat_natCast]
    omega
  | k + 1, q, h => by
    have ih := Lp.at_wide hb wide s k
    have h' : q ∈ (Lp.one b wide (Lp.at b wide s k) (s.extract k (k + 1))).out := h
    unfold Lp.one at h'
    split at h'
    · exact ih q h'
    · split at h'
      · simp only [List.mem_append, List.mem_singleton] at h'
        rcases h' with (h' | rfl) | rfl
        · exact ih q h'
        · exact Lp.code_wide hb wide _ _
        · exact Lp.code_wide hb wide _ _
      · simp only [List.mem_append, List.mem_singleton] at h'
        rcases h' with h' | rfl
        · exact ih q h'
        · exact Lp.code_wide hb wide _ _
theorem Lp.all_wide {b : Nat} (hb : b ≤ 8) (wide : Bool) (s : ByteArray) : ∀ q ∈ Lp.all b wide s, q.2.toNat ≤ 12 := by
  intro q h
  have ih := Lp.at_wide hb wide s s.size
  unfold Lp.all Lp.close at h
  split at h
  · simp only [List.mem_append, List.mem_singleton] at h
    rcases h with h | rfl
    · exact ih q h
    · exact Lp.code_wide hb wide _ _
  · simp only [List.mem_append, List.mem_singleton] at h
    rcases h with (h | rfl) | rfl
    · exact ih q h
    · exact Lp.code_wide hb wide _ _
    · exact Lp.code_wide hb wide _ _
theorem tot_ge {A : List (Int × Int)} (h : ∀ q ∈ A, 1 ≤ q.2.toNat) : ∀ i, i ≤ A.length → i ≤ Bp.tot A i
  | 0, _ => Nat.zero_le _
  | i + 1, hi => by
    rw [Bp.tot_succ A i (by omega)]
    have := tot_ge h i (by omega)
    have := h A[i] (List.getElem_mem _)
    omega

/-- THE WAY BACK -/
theorem Lr.back {s e : ByteArray} {b : Nat} {wide : Bool} (hb : b ≤ 8) (hb2 : 2 ≤ b) (hok : Lz.ok b wide = true) (hsm : Lp.small b s) (hz : s.size ≤ 5000) (hX : (textOf wide (Lp.all b wide s) ++ e).size ≤ 9000) :
    ∃ dn, Lz.res (textOf wide (Lp.all b wide s) ++ e) b wide 5000 = .ok dn ∧ textsOf dn = s.data.toList ∧ codesOf dn = (Lp.all b wide s).map Prod.fst := by
  have hf := Lp.all_ok hb hb2 wide hsm hz
  have R := Lr.reads (wide := wide) hf.1 e
  have hsz := textOf_size (hi := wide) hf.1
  have hlenA := tot_ge (Lp.all_pos hb wide s) _ (Nat.le_refl _)
  have hXs : (textOf wide (Lp.all b wide s)).size ≤ (textOf wide (Lp.all b wide s) ++ e).size := by rw [ByteArray.size_append]; omega
  have hpre := Lp.all_pre b wide s 0 (Nat.zero_le _)
  have hfine : LzFine (textOf wide (Lp.all b wide s) ++ e) b wide ((5000 : Nat) : Int) := ⟨hok, hX, by omega, by omega⟩
  have hres := Lz.res_yes hfine
  obtain ⟨A, hA⟩ : ∃ A, A = Lp.all b wide s := ⟨_, rfl⟩
  rw [← hA] at R hf hsz hlenA hXs hpre hX hres ⊢
  obtain ⟨X, hXe⟩ : ∃ X, X = textOf wide A ++ e := ⟨_, rfl⟩
  rw [← hXe] at R hXs hX hres ⊢
  have hp0 : ([] ++ (((2 ^ b : Nat) : Int), (Lz.width b wide (Lz.start b).length : Int)) :: []) <+: A := by
    rw [Lz.start_len, Lz.width_start hb hb2]
    exact hpre
  obtain ⟨hkA, hAk⟩ := pre_at hp0
  have hst := Lr.step_clear R hkA (left := 5000) (last := ⟨#[]⟩) hAk
  obtain ⟨t1, -, -⟩ := R _ hkA _ _ hAk
  have hd := drop_at hkA
  rw [hAk] at hd
  simp only [List.length_nil, Nat.zero_add, List.drop_zero] at hst t1 hd
  have ht0 : Bp.tot A 0 = 0 := by simp [Bp.tot]
  rw [ht0] at hst t1
  have hgo : ∀ f dn', Lz.go X b wide f (Bp.tot A 1) (Lz.start b) ⟨#[]⟩ 5000 = .ok dn' → Lz.go X b wide (f + 1) 0 (Lz.start b) ⟨#[]⟩ 5000 = .ok ((2 ^ b, ⟨#[]⟩) :: dn') := fun f dn' h => by
    rw [Lz.go_on hst (by omega), ← t1, h]; rfl
  have hr2 : Lz.res X b wide 5000 = Lz.go X b wide (8 * X.size + 1) 0 (Lz.start b) ⟨#[]⟩ 5000 := hres
  by_cases hs0 : 0 < s.size
  · obtain ⟨dn', d1, d2, d3⟩ := Lr.main hb hsm (by rw [← hA]; exact R) s.size 0 (Lz.start b) (Lp.init b).out (Lz.start b) ⟨#[]⟩ 5000 (8 * X.size) (by omega) hs0 (Lp.at_first hs0) (Lq.inv_start hb) (.inl ⟨rfl, rfl, rfl⟩) (by omega) (by rw [← hA]; omega)
    rw [← hA] at d1 d3
    refine ⟨_, by rw [hr2]; exact hgo _ _ d1, ?_, ?_⟩
    · rw [textsOf_cons, d2]
      show [] ++ (s.extract 0 s.size).data.toList = _
      rw [List.nil_append, ByteArray.data_extract]
      simp
      exact List.take_of_length_le (Nat.le_refl _)
    · rw [codesOf_cons, d3, hd]
      rfl
  · have e0 : s.size = 0 := by omega
    have hAe : A = (Lp.init b).out ++ [(((2 ^ b + 1 : Nat) : Int), (Lz.width b wide (Lz.start b).length : Int))] := by
      rw [hA]
      unfold Lp.all
      rw [e0]
      show Lp.close b wide (Lp.init b) = _
      unfold Lp.close
      rw [if_pos (show (Lp.init b).last.size = 0 from rfl)]
      unfold Lp.code
      rw [show (Lp.init b).l.length = 2 ^ b + 2 from Lz.start_len b, Lp.known_since (Nat.le_refl _), Lz.start_len, show 2 ^ b + 2 + (2 ^ b + 2 - (2 ^ b + 2) - 1) = 2 ^ b + 2 by omega]
      rfl
    obtain ⟨hk2, hA2⟩ := pre_at (A := A) (o := (Lp.init b).out) (c := (((2 ^ b + 1 : Nat) : Int), (Lz.width b wide (Lz.start b).length : Int))) (r := []) (by rw [hAe]; exact List.prefix_refl _)
    have hst2 := Lr.step_end R hk2 (left := 5000) (last := ⟨#[]⟩) hA2
    have hAl : A.length = 2 := by rw [hAe]; rfl
    obtain ⟨f', hf'⟩ : ∃ f', 8 * X.size = f' + 1 := ⟨8 * X.size - 1, by omega⟩
    refine ⟨[(2 ^ b, ⟨#[]⟩), (2 ^ b + 1, ⟨#[]⟩)], ?_, ?_, ?_⟩
    · rw [hr2, hf']
      exact hgo _ _ (Lz.go_end hst2 rfl)
    · have : s.data.toList = [] := List.eq_nil_of_length_eq_zero e0
      rw [this]; rfl
    · rw [hAe]; rfl
end Go.Proofs.Ytjfihmpnbblomaa

/- The law that what was packed by LZW comes out, walked. -/
namespace Go.Proofs.Ytjfihmpnbblomaa
open Go.RowKit

def behind : ByteArray := ⟨#[98, 101, 104, 105, 110, 100]⟩
/-- what the law asks, as mathematics -/
theorem Lr.law {s : ByteArray} {b : Nat} {wide : Bool} (h : Lp.ok s b wide = true) :
    (ByteArray.mk (Lp.ans s b wide).toArray).size ≠ 0 ∧ (ByteArray.mk (Lp.ans s b wide).toArray).size ≤ 8000 ∧ ∀ e : ByteArray, e.size ≤ 6 → Lz.out (Lz.res (ByteArray.mk (Lp.ans s b wide).toArray ++ e) b wide 5000) = s.data.toList ∧ Lz.code (Lz.res (ByteArray.mk (Lp.ans s b wide).toArray ++ e) b wide 5000) = 0 := by
  have hA : Lp.ans s b wide = (Bp.text wide (Lp.all b wide s)).map UInt8.ofNat := by unfold Lp.ans; rw [if_pos h, Int.toNat_natCast]
  unfold Lp.ok at h
  simp only [Bool.and_eq_true, decide_eq_true_eq, Int.toNat_natCast] at h
  obtain ⟨⟨h1, h2⟩, h3⟩ := h
  have hbd := Lz.ok_rng h1
  have hb : b ≤ 8 := by omega
  have hb2 : 2 ≤ b := by omega
  have hsm := Lp.small_of h3
  have hf := Lp.all_ok hb hb2 wide hsm h2
  have hT : ByteArray.mk (Lp.ans s b wide).toArray = textOf wide (Lp.all b wide s) := by
    unfold textOf
    rw [hA, Bp.answer_yes hf.1]
  have hsz := textOf_size (hi := wide) hf.1
  have hpos := tot_ge (Lp.all_pos hb wide s) _ (Nat.le_refl _)
  have hwd := tot_le (Lp.all_wide hb wide s) _ (Nat.le_refl _)
  have hlen : 1 ≤ (Lp.all b wide s).length := by
    unfold Lp.all Lp.close
    split <;> simp
  rw [hT]
  refine ⟨by omega, by omega, fun e he => ?_⟩
  obtain ⟨dn, d1, d2, -⟩ := Lr.back (e := e) hb hb2 h1 hsm h2 (by rw [ByteArray.size_append]; omega)
  rw [d1]
  exact ⟨d2, rfl⟩

set_option linter.unusedSimpArgs false in
set_option maxHeartbeats 4000000 in
set_option maxRecDepth 20000 in
theorem lawLzw (a : Option Addr) (len cap : Nat) (w : World) (h : Code8 w a len cap) :
    Calls Try.prog 4 #[.slice a len cap] w fun e w' => e = .returned (.bool true) ∧ Below w.heap.size w w' := by
  by_cases hbig : 1048576 < len
  · have d0 : decide ((len : Int) > 1048576) = true := by simp; omega
    clear h
    go_enter Try.func4, Try.ntmps4
    go_wp2_with fail
    go_ret
    exact ⟨rfl, Below.refl _ _⟩
  have HDR : Hid (Calls Try.prog 12 #[.slice a len cap] w (LzwDrawn w)) := drawLzwPut_any a len cap w h
  have d0 : decide ((len : Int) > 1048576) = false := by simp; omega
  clear h
  go_enter Try.func4, Try.ntmps4
  go_wp2_with fail
  refine HDR.out.mono ?_
  rintro e w1 ⟨⟨s, b, wide, rfl, hs, hb⟩, b1⟩
  have B1 : Hid (Below w.heap.size w w1) := b1
  clear b1 HDR
  obtain ⟨T, hT⟩ : ∃ T : ByteArray, T = ⟨(Lp.ans s b wide).toArray⟩ := ⟨_, rfl⟩
  have HSP : Hid (∀ w : World, Calls Try.prog 14 #[.string s, .int .i64 (b : Int), .bool wide] w fun e w' => e = .returned (.string T) ∧ Below w.heap.size w w') := fun w => by rw [hT]; exact spec_lzwPut s b wide w (by omega) (fun w => l6Ok_any b wide w)
  have HIM : Hid (∀ w : World, Calls Try.prog 13 #[.string s, .int .i64 (b : Int), .bool wide] w fun e w' => e = .returned (.string T) ∧ Below w.heap.size w w') := fun w => by rw [hT]; exact impl_lzwPut s b wide w (by omega)
  have hbe : (T.toList == T.toList) = true := by simp
  have hbs : (s.toList == s.toList) = true := by simp
  cases hk : Lp.ok s b wide with
  | false =>
    have hem : T.toList.isEmpty = true := by
      have hA : Lp.ans s b wide = [] := by unfold Lp.ans; rw [hk]; rfl
      rw [hT, hA]
      decide +kernel
    clear hT hk
    go_wp2_with fail
    refine (HIM.out _).mono ?_
    rintro e w2 ⟨rfl, b2⟩
    have B2 : Hid (Below w.heap.size w w2) := B1.out.trans (b2.mono B1.out.size)
    clear b2 B1
    go_wp2_with fail
    refine (HSP.out _).mono ?_
    rintro e w3 ⟨rfl, b3⟩
    have B3 : Hid (Below w.heap.size w w3) := B2.out.trans (b3.mono B2.out.size)
    clear b3 B2
    go_wp2_with fail
    refine (HSP.out _).mono ?_
    rintro e w4 ⟨rfl, b4⟩
    have B4 : Hid (Below w.heap.size w w4) := B3.out.trans (b4.mono B3.out.size)
    clear b4 B3
    go_wp2_with fail
    go_ret
    exact ⟨rfl, B4.out⟩
  | true =>
    obtain ⟨l1, l2, l3⟩ := Lr.law hk
    rw [← hT] at l1 l2 l3
    have hem : T.toList.isEmpty = false := by
      rw [← Bool.not_eq_true, List.isEmpty_iff]
      exact fun e => l1 (by have h := congrArg List.length e; rw [toList_len] at h; exact h)
    have hsb : ByteArray.mk (s.data.toList).toArray = s := by simp
    have HG1 : Hid (∀ w', Calls Try.prog 9 #[.string T, .int .i64 (b : Int), .bool wide, .int .i64 5000] w' fun e w'' => e = .returned (.tuple #[.string s, .int .i64 0]) ∧ Below w'.heap.size w' w'') := fun w' => by
      have hg := impl_lzwGet T b wide 5000 w' (by omega)
      have hn : T ++ ⟨#[]⟩ = T := by
        apply ByteArray.ext
        rw [ByteArray.data_append]
        simp
      have h2 := l3 ⟨#[]⟩ (by decide)
      rw [hn] at h2
      rw [h2.1, h2.2, hsb] at hg
      exact hg
    have HG2 : Hid (∀ w', Calls Try.prog 9 #[.string (T ++ ⟨#[98, 101, 104, 105, 110, 100]⟩), .int .i64 (b : Int), .bool wide, .int .i64 5000] w' fun e w'' => e = .returned (.tuple #[.string s, .int .i64 0]) ∧ Below w'.heap.size w' w'') := fun w' => by
      have hg := impl_lzwGet (T ++ behind) b wide 5000 w' (by rw [ByteArray.size_append]; have : behind.size = 6 := rfl; omega)
      have h2 := l3 behind (by decide)
      rw [h2.1, h2.2, hsb] at hg
      exact hg
    have hlz : ¬ 9223372036854775807 < T.size + 6 := by omega
    have hl8 : T.size ≤ 8000 := l2
    clear hT hk l1 l2 l3 hsb
    go_wp2_with fail
    refine (HIM.out _).mono ?_
    rintro e w2 ⟨rfl, b2⟩
    have B2 : Hid (Below w.heap.size w w2) := B1.out.trans (b2.mono B1.out.size)
    clear b2 B1
    go_wp2_with fail
    refine (HSP.out _).mono ?_
    rintro e w3 ⟨rfl, b3⟩
    have B3 : Hid (Below w.heap.size w w3) := B2.out.trans (b3.mono B2.out.size)
    clear b3 B2 HSP HIM
    go_wp2_with fail
    refine (HG1.out _).mono ?_
    rintro e w4 ⟨rfl, b4⟩
    have B4 : Hid (Below w.heap.size w w4) := B3.out.trans (b4.mono B3.out.size)
    clear b4 B3 HG1
    go_wp2_with fail
    refine (HG2.out _).mono ?_
    rintro e w5 ⟨rfl, b5⟩
    have B5 : Hid (Below w.heap.size w w5) := B4.out.trans (b5.mono B4.out.size)
    clear b5 B4 HG2
    go_wp2_with fail
    go_ret
    exact ⟨rfl, B5.out⟩
end Go.Proofs.Ytjfihmpnbblomaa
