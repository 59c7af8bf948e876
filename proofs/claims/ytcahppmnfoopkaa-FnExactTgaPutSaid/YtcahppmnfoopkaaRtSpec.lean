/- RunPut of the specification. -/
import Derived.Test.YtcahppmnfoopkaaRtText
import Derived.Test.YtcahppmnfoopkaaBkSpec
import Derived.Deep.RegionHeld
import Derived.RangeFuncBox
namespace Go.Proofs.Ytcahppmnfoopkaa
open Go.RowKit

/-- a list of ints in memory, that is not empty -/
def LiesI (w : World) (b off : Nat) (l : List Int) : Prop := b < w.heap.size ∧ ∀ i (h : i < l.length), w.cell? ⟨b, off + i, none⟩ = some (.int .i64 l[i])
theorem LiesI.kept {w w' : World} {b off : Nat} {l : List Int} (h : LiesI w b off l) (hb : Below w.heap.size w w') : LiesI w' b off l :=
  ⟨Nat.lt_of_lt_of_le h.1 hb.size, fun i hi => (hb.cell (p := ⟨b, off + i, none⟩) h.1).trans (h.2 i hi)⟩
theorem drop_get {l : List Int} {A k : Nat} (h : A + k < l.length) : (l.drop A)[k]? = some l[A + k] := by
  rw [List.getElem?_drop, List.getElem?_eq_getElem h]

set_option maxHeartbeats 1000000 in
theorem l7Equal_any (b off cap n A m : Nat) (l : List Int) (w : World) (hl : LiesI w b off l) (hn : l.length = n) (hnb : n ≤ 1000) (hA : A < n) (hm : m ≤ 1000) (hm1 : 1 ≤ m) :
    Calls Try.prog 51 #[.slice (some ⟨b, off, none⟩) n cap, .int .i64 (A : Int), .int .i64 (m : Int)] w fun e w' => e = .returned (.int .i64 ((Rn.same (l.drop A) m : Nat) : Int)) ∧ ∃ q, w' = w.drewN q := by
  have hAl : A < l.length := by omega
  have hcA := hl.2 A hAl
  have HL : Hid (LiesI w b off l) := hl
  have HN : Hid (l.length = n ∧ (l.drop A).length = n - A) := ⟨hn, by rw [List.length_drop, hn]⟩
  have HY : Hid ((l.drop A)[0]? = some l[A]) := drop_get (A := A) (k := 0) hAl
  have H0 : Hid (Rn.sameP (l.drop A) m 0 = true) := by
    show _ = _
    unfold Rn.sameP; rw [HN.out.2]; simp; omega
  clear hl hn
  generalize l[A] = y at *
  have hAi : (A : Int) < (n : Int) := by omega
  go_enter Try.func51, Try.ntmps51
  go_wp2_with fail
  go_loopw [7] (fun i wr => ∃ k : Nat, 1 ≤ k ∧ A + k ≤ n ∧ k ≤ m ∧ i = .int .i64 (k : Int) ∧ (∀ j, j < k → Rn.sameP (l.drop A) m j = true) ∧ ∃ q, wr = w.drewN q) (fun i _ => n - (intOf i).toNat)
  case atStart => exact ⟨1, Nat.le_refl _, by omega, by omega, rfl, fun j hj => (by rw [show j = 0 by omega]; exact H0.out), 0, rfl⟩
  case round =>
    obtain ⟨k, hk1, hk, hkm, rfl, hall, q, rfl⟩ := hrel
    have HA : Hid (∀ j, j < k → Rn.sameP (l.drop A) m j = true) := hall
    clear hall
    have HE : Hid ((Rn.sameP (l.drop A) m k = false) → k = Rn.same (l.drop A) m) := fun h => Rn.same_eq h HA.out (by rw [HN.out.2]; omega)
    obtain ⟨j, hj⟩ : ∃ j, j = A + k := ⟨_, rfl⟩
    have e1 : (A : Int) + (k : Int) = (j : Int) := by omega
    have e2 := wrap_i64_nat j (by omega)
    by_cases h2 : k < m
    · have d2 : decide ((k : Int) < (m : Int)) = true := by simp; exact h2
      by_cases h1 : j < n
      · have d1 : decide ((j : Int) < (n : Int)) = true := by simp; exact h1
        have hjl : j < l.length := by rw [HN.out.1]; exact h1
        have hcj := HL.out.2 j hjl
        have HX : Hid ((l.drop A)[k]? = some l[j]) := by subst hj; exact drop_get hjl
        have hkn : k < n - A := by omega
        have hji : (j : Int) < (n : Int) := by omega
        have HJ : Hid (j = A + k) := hj
        clear hj
        generalize l[j] = x at *
        by_cases h3 : x = y
        · have HS : Hid (Rn.sameP (l.drop A) m k = true) := by
            show _ = _
            unfold Rn.sameP; rw [HX.out, HY.out, HN.out.2, h3]; simp [hkn, h2]
          subst h3
          clear HX HL HY
          go_wp2_with fail
          go_region
          all_goals go_wp2_with fail
          all_goals
            go_roundw
            case rel => exact ⟨k + 1, by omega, by have := HJ.out; omega, by omega, by go_num, fun j hj => (by
              by_cases e : j = k
              · rw [e]; exact HS.out
              · exact HA.out j (by omega)), q + 1, rfl⟩
            case measure => simp [intOf]; omega
        · have HS : Hid (k = Rn.same (l.drop A) m) := HE.out (by unfold Rn.sameP; rw [HX.out, HY.out]; simp [h3])
          have d3 : decide (x = y) = false := by simp [h3]
          have d3' : (x == y) = false := by simp [h3]
          clear HX HL HY HE
          go_wp2_with fail
          go_region
          all_goals go_wp2_with fail
          all_goals
            go_ret
            exact ⟨by rw [← HS.out]; rfl, q + 1, rfl⟩
      · have HS : Hid (k = Rn.same (l.drop A) m) := HE.out (by unfold Rn.sameP; rw [HN.out.2]; simp; omega)
        have d1 : decide ((j : Int) < (n : Int)) = false := by simp; omega
        clear HL HE hj
        go_wp2_with fail
        go_region
        all_goals go_wp2_with fail
        all_goals
          go_ret
          exact ⟨by rw [← HS.out]; rfl, q + 1, rfl⟩
    · have HS : Hid (k = Rn.same (l.drop A) m) := HE.out (by unfold Rn.sameP; simp [h2])
      have d2 : decide ((k : Int) < (m : Int)) = false := by simp; omega
      clear HL HE hj
      go_wp2_with fail
      go_region
      all_goals go_wp2_with fail
      all_goals
        go_ret
        exact ⟨by rw [← HS.out]; rfl, q + 1, rfl⟩

set_option maxHeartbeats 1000000 in
theorem l7Other_any (b off cap n A m : Nat) (l : List Int) (w : World) (hl : LiesI w b off l) (hn : l.length = n) (hnb : n ≤ 1000) (hA : A < n) (hm : m ≤ 1000) :
    Calls Try.prog 52 #[.slice (some ⟨b, off, none⟩) n cap, .int .i64 (A : Int), .int .i64 (m : Int)] w fun e w' => e = .returned (.int .i64 ((Rn.fresh (l.drop A) 2 m : Nat) : Int)) ∧ ∃ q, w' = w.drewN q := by
  have HL : Hid (∀ (k q : Nat), A + k < n → Calls Try.prog 51 #[.slice (some ⟨b, off, none⟩) n cap, .int .i64 ((A + k : Nat) : Int), .int .i64 2] (w.drewN q) fun e w' => e = .returned (.int .i64 ((Rn.same ((l.drop A).drop k) 2 : Nat) : Int)) ∧ ∃ q', w' = (w.drewN q).drewN q') := fun k q hk => by
    rw [List.drop_drop]
    exact l7Equal_any b off cap n (A + k) 2 l (w.drewN q) hl hn hnb hk (by omega) (by omega)
  have HN : Hid ((l.drop A).length = n - A) := by show _ = _; rw [List.length_drop, hn]
  clear hl hn
  generalize l.drop A = L at *
  go_enter Try.func52, Try.ntmps52
  go_wp2_with fail
  go_loopw [7] (fun i wr => ∃ k : Nat, 1 ≤ k ∧ A + k ≤ n ∧ i = .int .i64 (k : Int) ∧ (∀ j, 1 ≤ j → j < k → Rn.freshP L 2 m j = true) ∧ ∃ q, wr = w.drewN q) (fun i _ => n - (intOf i).toNat)
  case atStart => exact ⟨1, Nat.le_refl _, by omega, rfl, fun j _ hj => by omega, 0, rfl⟩
  case round =>
    obtain ⟨k, hk1, hk, rfl, hall, q, rfl⟩ := hrel
    have HA : Hid (∀ j, 1 ≤ j → j < k → Rn.freshP L 2 m j = true) := hall
    clear hall
    have HE : Hid ((Rn.freshP L 2 m k = false) → k = Rn.fresh L 2 m) := fun h => Rn.fresh_eq h hk1 HA.out (by rw [HN.out]; omega)
    obtain ⟨j, hj⟩ : ∃ j, j = A + k := ⟨_, rfl⟩
    have e1 : (A : Int) + (k : Int) = (j : Int) := by omega
    have e2 := wrap_i64_nat j (by omega)
    by_cases h2 : k < m
    · have d2 : decide ((k : Int) < (m : Int)) = true := by simp; exact h2
      by_cases h1 : j < n
      · have d1 : decide ((j : Int) < (n : Int)) = true := by simp; exact h1
        have HC : Hid (Calls Try.prog 51 #[.slice (some ⟨b, off, none⟩) n cap, .int .i64 (j : Int), .int .i64 2] (w.drewN q) fun e w' => e = .returned (.int .i64 ((Rn.same (L.drop k) 2 : Nat) : Int)) ∧ ∃ q', w' = (w.drewN q).drewN q') := by
          show Calls _ _ _ _ _
          rw [hj]; exact HL.out k q (by omega)
        have HP : Hid (Rn.freshP L 2 m k = decide (Rn.same (L.drop k) 2 < 2)) := by
          show _ = _
          unfold Rn.freshP; rw [HN.out]; simp [h2]; intros; omega
        have HJ : Hid (j = A + k) := hj
        clear hj HL
        generalize Rn.same (L.drop k) 2 = z at *
        by_cases hz : z < 2
        · have d3 : decide ((z : Int) < 2) = true := by simp; omega
          go_wp2_with fail
          refine HC.out.mono ?_
          rintro e w1 ⟨rfl, q1, hw⟩
          clear HC
          subst hw
          go_wp2_with fail
          go_roundw
          case rel => exact ⟨k + 1, by omega, by have := HJ.out; omega, by go_num, fun j hj1 hj => (by
              by_cases e : j = k
              · rw [e, HP.out]; simp [hz]
              · exact HA.out j hj1 (by omega)), q + q1, rfl⟩
          case measure => simp [intOf]; omega
        · have d3 : decide ((z : Int) < 2) = false := by simp; omega
          have HS : Hid (k = Rn.fresh L 2 m) := HE.out (by rw [HP.out]; simp; omega)
          go_wp2_with fail
          refine HC.out.mono ?_
          rintro e w1 ⟨rfl, q1, hw⟩
          clear HC HE
          subst hw
          go_wp2_with fail
          go_ret
          exact ⟨by rw [← HS.out]; rfl, q + q1, rfl⟩
      · have HS : Hid (k = Rn.fresh L 2 m) := HE.out (by unfold Rn.freshP; rw [HN.out]; simp; omega)
        have d1 : decide ((j : Int) < (n : Int)) = false := by simp; omega
        clear HL HE hj
        go_wp2_with fail
        go_ret
        exact ⟨by rw [← HS.out]; rfl, q, rfl⟩
    · have HS : Hid (k = Rn.fresh L 2 m) := HE.out (by unfold Rn.freshP; simp [h2])
      have d2 : decide ((k : Int) < (m : Int)) = false := by simp; omega
      clear HL HE hj
      go_wp2_with fail
      go_ret
      exact ⟨by rw [← HS.out]; rfl, q, rfl⟩

theorem text_of_cell (w : World) (b d : Nat) (h : w.cell? ⟨b, 0, none⟩ = some (.int .u8 (d : Int))) : Sem.run Try.prog (convert 48 9 (.slice (some ⟨b, 0, none⟩) 1 1)) w = .ok (.string ⟨#[UInt8.ofNat d]⟩) w := by
  refine run_text w ⟨b, 0, none⟩ 1 [d] ?_
  intro j v hj
  cases j with
  | zero => simp at hj; subst hj; exact h
  | succ j => simp at hj
theorem lt_of_cell {w : World} {b o : Nat} {v : Value} (h : w.cell? ⟨b, o, none⟩ = some v) : b < w.heap.size := World.block_lt_of_cell? w _ h

set_option linter.unusedSimpArgs false in
set_option maxHeartbeats 4000000 in
set_option maxRecDepth 20000 in
theorem l7Run_any (b off cap n S : Nat) (l : List Int) (w : World) (hl : LiesI w b off l) (hn : l.length = n) (hnb : n ≤ 1000) (hS : S ≤ 4) (hf : Rt.fit S l = true) :
    Calls Try.prog 36 #[.slice (some ⟨b, off, none⟩) n cap, .int .i64 (S : Int)] w fun e w' => e = .returned (.string ⟨(Rt.all S l).toArray⟩) ∧ Below w.heap.size w w' := by
  have HL : Hid (LiesI w b off l) := hl
  have HN : Hid (l.length = n) := hn
  have HF : Hid (Rt.fit S l = true) := hf
  clear hl hn hf
  go_enter Try.func36, Try.ntmps36
  go_wp2_with fail
  go_loopw [5, 6] (fun o i wr => ∃ (A : Nat) (pre : List (Nat × Nat × Bool)) (q : List UInt8), A ≤ n ∧ i = .int .i64 (A : Int) ∧ o = .string ⟨q.toArray⟩ ∧ Hid (q = Rt.flat S l pre ∧ Rn.from_ 2 128 l 0 = pre ++ Rn.from_ 2 128 l A ∧ q.length ≤ 513 * A) ∧ Below w.heap.size w wr) (fun _ i _ => n - (intOf i).toNat)
  case atStart => exact ⟨0, [], [], Nat.zero_le _, rfl, rfl, ⟨rfl, rfl, Nat.le_refl _⟩, Below.refl _ _⟩
  case round =>
    obtain ⟨A, pre, q, hA, rfl, rfl, HQ, hbel⟩ := hrel
    have hbs := hbel.size
    by_cases hlt : A < n
    · have hLr : LiesI wr b off l := HL.out.kept hbel
      have hdl : 0 < (l.drop A).length := by rw [List.length_drop, HN.out]; omega
      have hsz := Rn.size_ends (l := l.drop A) (least := 2) (m := 128) hdl (by omega)
      have HFs := Rn.from_step (least := 2) (m := 128) (l := l) (k := A) (by omega) (by rw [HN.out]; exact hlt)
      have hszd : Rn.size 2 128 (l.drop A) = if 2 ≤ Rn.same (l.drop A) 128 then Rn.same (l.drop A) 128 else Rn.fresh (l.drop A) 2 128 := rfl
      have hagd : Rn.again 2 128 (l.drop A) = decide (2 ≤ Rn.same (l.drop A) 128) := rfl
      rw [List.length_drop, HN.out] at hsz
      have HA1 : Hid (Calls Try.prog 51 #[.slice (some ⟨b, off, none⟩) n cap, .int .i64 (A : Int), .int .i64 128] wr fun e w' => e = .returned (.int .i64 ((Rn.same (l.drop A) 128 : Nat) : Int)) ∧ ∃ q, w' = wr.drewN q) := l7Equal_any b off cap n A 128 l wr hLr HN.out hnb hlt (by omega) (by omega)
      have HF1 : Hid (∀ q, Calls Try.prog 52 #[.slice (some ⟨b, off, none⟩) n cap, .int .i64 (A : Int), .int .i64 128] (wr.drewN q) fun e w' => e = .returned (.int .i64 ((Rn.fresh (l.drop A) 2 128 : Nat) : Int)) ∧ ∃ q', w' = (wr.drewN q).drewN q') := fun q => l7Other_any b off cap n A 128 l (wr.drewN q) hLr HN.out hnb hlt (by omega)
      generalize hzs : Rn.size 2 128 (l.drop A) = z at *
      generalize hza : Rn.again 2 128 (l.drop A) = ag at *
      generalize Rn.same (l.drop A) 128 = sm at *
      generalize Rn.fresh (l.drop A) 2 128 = fr at *
      obtain ⟨hz1, hz2, hz3⟩ := hsz
      have HXp : Hid (Rn.from_ 2 128 l 0 = (pre ++ [(A, z, ag)]) ++ Rn.from_ 2 128 l (A + z)) := by
        show _ = _
        rw [HQ.out.2.1, HFs]; simp
      have HPl : Hid ((Rt.piece S l (A, z, ag)).length ≤ 513 * z) := by
        show _ ≤ _
        have := Rt.piece_len S l (A, z, ag) hS hz3
        omega
      have hql : q.length ≤ 513000 := by have := HQ.out.2.2; omega
      clear HFs hdl hzs hza
      by_cases hag : 2 ≤ sm
      · rw [if_pos hag] at hszd
        subst hszd
        rw [show decide (2 ≤ z) = true by simp; exact hag] at hagd
        subst hagd
        have d3 : decide ((z : Int) ≥ 2) = true := by simp; omega
        have hAl : A < l.length := by rw [HN.out]; exact hlt
        have hcx := hLr.2 A hAl
        obtain ⟨hv0, hv1⟩ := Rt.fit_at HF.out A hAl
        have HP1 : Hid (Rt.txt S ((l.drop A).take 1) = Pt.low (l[A]).toNat S) := by
          show _ = _
          rw [List.drop_eq_getElem_cons hAl, List.take_succ_cons, List.take_zero]
          show Pt.low _ S ++ [] = _
          rw [List.append_nil]
        generalize l[A] = v at *
        obtain ⟨N, rfl⟩ := Int.eq_ofNat_of_zero_le hv0
        rw [Int.toNat_natCast] at HP1
        obtain ⟨p, hp⟩ : ∃ p, p = Pt.low N S := ⟨_, rfl⟩
        rw [← hp] at HP1
        have h4 := pow_le4 hS
        have HC : Hid (∀ w : World, Calls Try.prog 34 #[.int .i64 (N : Int), .int .i64 (S : Int), .bool false] w fun e w' => e = .returned (.string ⟨p.toArray⟩) ∧ Below w.heap.size w w') := fun w => by
          rw [hp]; exact l1Num_low N S w (by omega) hS
        have hpl : p.length ≤ 4 := by rw [hp, Pt.low_len]; exact hS
        obtain ⟨d, hd⟩ : ∃ d : Nat, d = 127 + z := ⟨_, rfl⟩
        have e1 : (127 : Int) + (z : Int) = (d : Int) := by omega
        have e2 := wrap_i64_nat d (by omega)
        have hdb : d < 256 := by omega
        have e3 : IntKind.u8.wrap (d : Int) = (d : Int) := by simp [IntKind.wrap, IntKind.bits, IntKind.signed]; omega
        obtain ⟨h, hh⟩ : ∃ h, h = UInt8.ofNat d := ⟨_, rfl⟩
        have HNx : Hid (q ++ h :: p = Rt.flat S l (pre ++ [(A, z, true)])) := by
          show _ = _
          rw [Rt.flat_snoc, ← HQ.out.1, hh, hd]
          show _ = q ++ (UInt8.ofNat (127 + z) :: Rt.txt S ((l.drop A).take 1))
          rw [HP1.out]
        have HG : Hid ((q ++ h :: p).length ≤ 513 * (A + z)) := by
          show _ ≤ _
          rw [HNx.out, Rt.flat_snoc, List.length_append, ← HQ.out.1]
          have := HPl.out; have := HQ.out.2.2; omega
        have hs1 : ByteArray.mk q.toArray ++ ByteArray.mk #[UInt8.ofNat d] = ByteArray.mk (q ++ [h]).toArray := by rw [hh]; exact str_end q _
        have hs2 : ByteArray.mk (q ++ [h]).toArray ++ ByteArray.mk p.toArray = ByteArray.mk (q ++ h :: p).toArray := by rw [ByteArray.mk_append_mk, List.append_assoc]; rfl
        have hl1 : (ByteArray.mk q.toArray).size ≤ 513000 := by simp [ByteArray.size]; exact hql
        have hAi : (A : Int) < (n : Int) := by omega
        clear hd hh hp HQ HPl HF1 hv0 hv1 h4 HP1 hLr
        go_wp2_with fail
        refine HA1.out.mono ?_
        rintro e w1 ⟨rfl, q1, hw⟩
        subst hw
        clear HA1
        go_wp2_with fail
        refine wp_region_held_drew (S := fun w' => w'.cell? ⟨b, off + A, none⟩ = some (.int .i64 (N : Int))) (by kernel_rfl) hcx (fun _ => ?_)
        have c0 : (wr.drewN q1).drew.cell? ⟨b, off + A, none⟩ = some (.int .i64 (N : Int)) := hcx
        have B0 : Below w.heap.size w (wr.drewN q1).drew := below_drewN hbel (q1 + 1)
        generalize (wr.drewN q1).drew = X0 at *
        refine wpAnyH_take (i := 0) (v := .string ⟨q.toArray⟩) rfl (by kernel_rfl) (by kernel_rfl) (by kernel_rfl) (fun _ _ _ h => h) (Or.inl ⟨by rfl, ?_⟩) c0 ?_
        · intro w' s1
          go_simp
          try omega
        try simp only [Act.put, List.setIfInBounds_toArray, List.set_cons_zero, List.set_cons_succ]
        refine wpAnyH_take (i := 1) (v := .int .i64 (z : Int)) rfl (by kernel_rfl) (by kernel_rfl) (by kernel_rfl) (fun _ _ _ h => h) (Or.inl ⟨by rfl, ?_⟩) c0 ?_
        · intro w' s1
          go_simp
          try omega
        try simp only [Act.put, List.setIfInBounds_toArray, List.set_cons_zero, List.set_cons_succ]
        refine wpAnyH_take (i := 2) (v := .int .i64 (d : Int)) rfl (by kernel_rfl) (by kernel_rfl) (by kernel_rfl) (fun _ _ _ h => h) (Or.inl ⟨by rfl, ?_⟩) c0 ?_
        · intro w' s1
          go_simp
          try omega
        try simp only [Act.put, List.setIfInBounds_toArray, List.set_cons_zero, List.set_cons_succ]
        refine wpAnyH_take (i := 3) (v := .int .u8 (d : Int)) rfl (by kernel_rfl) (by kernel_rfl) (by kernel_rfl) (fun _ _ _ h => h) (Or.inl ⟨by rfl, ?_⟩) c0 ?_
        · intro w' s1
          go_simp
          try omega
        try simp only [Act.put, List.setIfInBounds_toArray, List.set_cons_zero, List.set_cons_succ]
        refine wpAnyH_take (i := 7) (v := .slice (some ⟨b, off, none⟩) n cap) rfl (by kernel_rfl) (by kernel_rfl) (by kernel_rfl) (fun _ _ _ h => h) (Or.inl ⟨by rfl, ?_⟩) c0 ?_
        · intro w' s1
          go_simp
          try omega
        try simp only [Act.put, List.setIfInBounds_toArray, List.set_cons_zero, List.set_cons_succ]
        refine wpAnyH_take (i := 8) (v := .int .i64 (A : Int)) rfl (by kernel_rfl) (by kernel_rfl) (by kernel_rfl) (fun _ _ _ h => h) (Or.inl ⟨by rfl, ?_⟩) c0 ?_
        · intro w' s1
          go_simp
          try omega
        try simp only [Act.put, List.setIfInBounds_toArray, List.set_cons_zero, List.set_cons_succ]
        refine wpAnyH_take (i := 9) (v := .pointer (some ⟨b, off + A, none⟩)) rfl (by kernel_rfl) (by kernel_rfl) (by kernel_rfl) (fun _ _ _ h => h) (Or.inl ⟨by rfl, ?_⟩) c0 ?_
        · intro w' s1
          go_simp
          try omega
        try simp only [Act.put, List.setIfInBounds_toArray, List.set_cons_zero, List.set_cons_succ]
        refine wpAnyH_take (i := 10) (v := .int .i64 (N : Int)) rfl (by kernel_rfl) (by kernel_rfl) (by kernel_rfl) (fun _ _ _ h => h) (Or.inl ⟨by rfl, ?_⟩) c0 ?_
        · intro w' s1
          go_simp
          try omega
        try simp only [Act.put, List.setIfInBounds_toArray, List.set_cons_zero, List.set_cons_succ]
        refine wpAnyH_take (i := 11) (v := .int .i64 (S : Int)) rfl (by kernel_rfl) (by kernel_rfl) (by kernel_rfl) (fun _ _ _ h => h) (Or.inl ⟨by rfl, ?_⟩) c0 ?_
        · intro w' s1
          go_simp
          try omega
        try simp only [Act.put, List.setIfInBounds_toArray, List.set_cons_zero, List.set_cons_succ]
        refine wpAnyH_ready (rs := [4, 12]) (by kernel_rfl) (by simp) ?_
        refine AllReadyH.cons rfl (fun K hK => ?_) (AllReadyH.cons rfl (fun K hK => ?_) AllReadyH.nil)
        · have cA : (X0.alloc (.cells #[.int .u8 (d : Int)] 5)).cell? ⟨b, off + A, none⟩ = some (.int .i64 (N : Int)) := (World.cell?_alloc_some X0 _ _ (by rw [c0]; rfl)).trans c0
          have BA : Below w.heap.size w (X0.alloc (.cells #[.int .u8 (d : Int)] 5)) := B0.alloc B0.size _
          have tA : (X0.alloc (.cells #[.int .u8 (d : Int)] 5)).cell? ⟨X0.heap.size, 0, none⟩ = some (.int .u8 (d : Int)) := (Boxed.new X0 5 (.int .u8 (d : Int))).cell
          go_simp
          refine hK.out _ _ cA (fun _ => ?_)
          clear hK K
          try simp only [Act.put, List.setIfInBounds_toArray, List.set_cons_zero, List.set_cons_succ]
          refine wpAnyH_ready (rs := [5, 12]) (by kernel_rfl) (by simp) ?_
          refine AllReadyH.cons rfl (fun K hK => ?_) (AllReadyH.cons rfl (fun K hK => ?_) AllReadyH.nil)
          · have hrun := text_of_cell _ _ _ tA
            go_simp
            refine hK.out _ _ cA (fun _ => ?_)
            clear hK K
            try simp only [Act.put, List.setIfInBounds_toArray, List.set_cons_zero, List.set_cons_succ]
            refine wpAnyH_take (i := 6) (v := .string ⟨(q ++ [h]).toArray⟩) rfl (by kernel_rfl) (by kernel_rfl) (by kernel_rfl) (fun _ _ _ h => h) (Or.inl ⟨by rfl, ?_⟩) cA ?_
            · intro w' s1
              go_simp
              try omega
            try simp only [Act.put, List.setIfInBounds_toArray, List.set_cons_zero, List.set_cons_succ]
            refine wpAnyH_ready (rs := [12]) (by kernel_rfl) (by simp) ?_
            refine AllReadyH.cons rfl (fun K hK => ?_) AllReadyH.nil
            go_simp
            refine (HC.out _).mono ?_
            rintro e w6 ⟨rfl, bc⟩
            have c6 : w6.cell? ⟨b, off + A, none⟩ = some (.int .i64 (N : Int)) := (bc.cell (p := ⟨b, off + A, none⟩) (Nat.lt_of_lt_of_le (lt_of_cell c0) (by simp))).trans cA
            have B6 : Below w.heap.size w w6 := BA.trans (bc.mono BA.size)
            clear bc
            go_wp2_with fail
            refine hK.out _ _ c6 (fun _ => ?_)
            clear hK K
            try simp only [Act.put, List.setIfInBounds_toArray, List.set_cons_zero, List.set_cons_succ]
            refine wpAnyH_take (i := 13) (v := .string ⟨(q ++ h :: p).toArray⟩) rfl (by kernel_rfl) (by kernel_rfl) (by kernel_rfl) (fun _ _ _ h => h) (Or.inl ⟨by rfl, ?_⟩) c6 ?_
            · intro w' s1
              go_simp
              try omega
            try simp only [Act.put, List.setIfInBounds_toArray, List.set_cons_zero, List.set_cons_succ]
            refine wpAnyH_take (i := 14) (v := .string ⟨(q ++ h :: p).toArray⟩) rfl (by kernel_rfl) (by kernel_rfl) (by kernel_rfl) (fun _ _ _ h => h) (Or.inl ⟨by rfl, ?_⟩) c6 ?_
            · intro w' s1
              go_simp
              try omega
            try simp only [Act.put, List.setIfInBounds_toArray, List.set_cons_zero, List.set_cons_succ]
            refine wpAnyH_done (by kernel_rfl) ?_ _
            go_wp2_with fail
            go_roundw
            case rel => exact ⟨A + z, _, _, by omega, by go_num, rfl, ⟨HNx.out, HXp.out, HG.out⟩, B6⟩
            case measure => simp [intOf]; omega
          · go_simp
            refine (HC.out _).mono ?_
            rintro e w6 ⟨rfl, bc⟩
            have c6 : w6.cell? ⟨b, off + A, none⟩ = some (.int .i64 (N : Int)) := (bc.cell (p := ⟨b, off + A, none⟩) (Nat.lt_of_lt_of_le (lt_of_cell c0) (by simp))).trans cA
            have B6 : Below w.heap.size w w6 := BA.trans (bc.mono BA.size)
            have t6 : w6.cell? ⟨X0.heap.size, 0, none⟩ = some (.int .u8 (d : Int)) := (bc.cell (p := ⟨X0.heap.size, 0, none⟩) (by simp)).trans tA
            clear bc
            go_wp2_with fail
            refine hK.out _ _ c6 (fun _ => ?_)
            clear hK K
            try simp only [Act.put, List.setIfInBounds_toArray, List.set_cons_zero, List.set_cons_succ]
            refine wpAnyH_ready (rs := [5]) (by kernel_rfl) (by simp) ?_
            refine AllReadyH.cons rfl (fun K hK => ?_) AllReadyH.nil
            have hrun := text_of_cell _ _ _ t6
            go_simp
            refine hK.out _ _ c6 (fun _ => ?_)
            clear hK K
            try simp only [Act.put, List.setIfInBounds_toArray, List.set_cons_zero, List.set_cons_succ]
            refine wpAnyH_take (i := 6) (v := .string ⟨(q ++ [h]).toArray⟩) rfl (by kernel_rfl) (by kernel_rfl) (by kernel_rfl) (fun _ _ _ h => h) (Or.inl ⟨by rfl, ?_⟩) c6 ?_
            · intro w' s1
              go_simp
              try omega
            try simp only [Act.put, List.setIfInBounds_toArray, List.set_cons_zero, List.set_cons_succ]
            refine wpAnyH_take (i := 13) (v := .string ⟨(q ++ h :: p).toArray⟩) rfl (by kernel_rfl) (by kernel_rfl) (by kernel_rfl) (fun _ _ _ h => h) (Or.inl ⟨by rfl, ?_⟩) c6 ?_
            · intro w' s1
              go_simp
              try omega
            try simp only [Act.put, List.setIfInBounds_toArray, List.set_cons_zero, List.set_cons_succ]
            refine wpAnyH_take (i := 14) (v := .string ⟨(q ++ h :: p).toArray⟩) rfl (by kernel_rfl) (by kernel_rfl) (by kernel_rfl) (fun _ _ _ h => h) (Or.inl ⟨by rfl, ?_⟩) c6 ?_
            · intro w' s1
              go_simp
              try omega
            try simp only [Act.put, List.setIfInBounds_toArray, List.set_cons_zero, List.set_cons_succ]
            refine wpAnyH_done (by kernel_rfl) ?_ _
            go_wp2_with fail
            go_roundw
            case rel => exact ⟨A + z, _, _, by omega, by go_num, rfl, ⟨HNx.out, HXp.out, HG.out⟩, B6⟩
            case measure => simp [intOf]; omega
        · go_simp
          refine (HC.out _).mono ?_
          rintro e w6 ⟨rfl, bc⟩
          have c6 : w6.cell? ⟨b, off + A, none⟩ = some (.int .i64 (N : Int)) := (bc.cell (p := ⟨b, off + A, none⟩) (lt_of_cell c0)).trans c0
          have B6 : Below w.heap.size w w6 := B0.trans (bc.mono B0.size)
          clear bc
          go_wp2_with fail
          refine hK.out _ _ c6 (fun _ => ?_)
          clear hK K
          try simp only [Act.put, List.setIfInBounds_toArray, List.set_cons_zero, List.set_cons_succ]
          refine wpAnyH_ready (rs := [4]) (by kernel_rfl) (by simp) ?_
          refine AllReadyH.cons rfl (fun K hK => ?_) AllReadyH.nil
          have cB : (w6.alloc (.cells #[.int .u8 (d : Int)] 5)).cell? ⟨b, off + A, none⟩ = some (.int .i64 (N : Int)) := (World.cell?_alloc_some w6 _ _ (by rw [c6]; rfl)).trans c6
          have BB : Below w.heap.size w (w6.alloc (.cells #[.int .u8 (d : Int)] 5)) := B6.alloc B6.size _
          have tB : (w6.alloc (.cells #[.int .u8 (d : Int)] 5)).cell? ⟨w6.heap.size, 0, none⟩ = some (.int .u8 (d : Int)) := (Boxed.new w6 5 (.int .u8 (d : Int))).cell
          go_simp
          refine hK.out _ _ cB (fun _ => ?_)
          clear hK K
          try simp only [Act.put, List.setIfInBounds_toArray, List.set_cons_zero, List.set_cons_succ]
          refine wpAnyH_ready (rs := [5]) (by kernel_rfl) (by simp) ?_
          refine AllReadyH.cons rfl (fun K hK => ?_) AllReadyH.nil
          have hrun := text_of_cell _ _ _ tB
          go_simp
          refine hK.out _ _ cB (fun _ => ?_)
          clear hK K
          try simp only [Act.put, List.setIfInBounds_toArray, List.set_cons_zero, List.set_cons_succ]
          refine wpAnyH_take (i := 6) (v := .string ⟨(q ++ [h]).toArray⟩) rfl (by kernel_rfl) (by kernel_rfl) (by kernel_rfl) (fun _ _ _ h => h) (Or.inl ⟨by rfl, ?_⟩) cB ?_
          · intro w' s1
            go_simp
            try omega
          try simp only [Act.put, List.setIfInBounds_toArray, List.set_cons_zero, List.set_cons_succ]
          refine wpAnyH_take (i := 13) (v := .string ⟨(q ++ h :: p).toArray⟩) rfl (by kernel_rfl) (by kernel_rfl) (by kernel_rfl) (fun _ _ _ h => h) (Or.inl ⟨by rfl, ?_⟩) cB ?_
          · intro w' s1
            go_simp
            try omega
          try simp only [Act.put, List.setIfInBounds_toArray, List.set_cons_zero, List.set_cons_succ]
          refine wpAnyH_take (i := 14) (v := .string ⟨(q ++ h :: p).toArray⟩) rfl (by kernel_rfl) (by kernel_rfl) (by kernel_rfl) (fun _ _ _ h => h) (Or.inl ⟨by rfl, ?_⟩) cB ?_
          · intro w' s1
            go_simp
            try omega
          try simp only [Act.put, List.setIfInBounds_toArray, List.set_cons_zero, List.set_cons_succ]
          refine wpAnyH_done (by kernel_rfl) ?_ _
          go_wp2_with fail
          go_roundw
          case rel => exact ⟨A + z, _, _, by omega, by go_num, rfl, ⟨HNx.out, HXp.out, HG.out⟩, BB⟩
          case measure => simp [intOf]; omega
      · rw [if_neg hag] at hszd
        subst hszd
        rw [show decide (2 ≤ sm) = false by simp; omega] at hagd
        subst hagd
        have d3 : decide ((sm : Int) ≥ 2) = false := by simp; omega
        obtain ⟨d, hd⟩ : ∃ d : Nat, d = z - 1 := ⟨_, rfl⟩
        have e1 : (z : Int) - 1 = (d : Int) := by omega
        have hdb : d < 256 := by omega
        obtain ⟨h, hh⟩ : ∃ h, h = UInt8.ofNat d := ⟨_, rfl⟩
        obtain ⟨r0, hr0⟩ : ∃ r0, r0 = q ++ [h] := ⟨_, rfl⟩
        have hr0l : r0.length = q.length + 1 := by rw [hr0]; simp
        have HNx : Hid (r0 ++ Rt.txt S ((l.drop A).take z) = Rt.flat S l (pre ++ [(A, z, false)])) := by
          show _ = _
          rw [Rt.flat_snoc, ← HQ.out.1, hr0, List.append_assoc, hh, hd]; rfl
        have HG : Hid ((r0 ++ Rt.txt S ((l.drop A).take z)).length ≤ 513 * (A + z)) := by
          show _ ≤ _
          rw [HNx.out, Rt.flat_snoc, List.length_append, ← HQ.out.1]
          have := HPl.out; have := HQ.out.2.2; omega
        have hs1 : ByteArray.mk q.toArray ++ ByteArray.mk #[UInt8.ofNat d] = ByteArray.mk r0.toArray := by rw [hr0, hh]; exact str_end q _
        have hl1 : (ByteArray.mk q.toArray).size ≤ 513000 := by simp [ByteArray.size]; exact hql
        clear hd hh HQ HPl hLr hr0
        go_wp2_with fail
        refine HA1.out.mono ?_
        rintro e w1 ⟨rfl, q1, hw⟩
        subst hw
        clear HA1
        go_wp2_with fail
        refine (HF1.out q1).mono ?_
        rintro e w1 ⟨rfl, q2, hw⟩
        subst hw
        clear HF1
        have htx := run_text1 (wr.drewN (q1 + q2)) d wr.heap.size rfl
        have hB8 : Below w.heap.size w ((wr.drewN (q1 + q2)).alloc (.cells #[.int .u8 (d : Int)] 5)) := (below_drewN hbel (q1 + q2)).alloc hbs _
        go_wp2_with fail
        generalize (wr.drewN (q1 + q2)).alloc (.cells #[.int .u8 (d : Int)] 5) = W8 at *
        clear htx hbel hbs hs1 hl1
        generalize wr = ow at *
        go_loopw [5, 8] (fun o i wr => ∃ (t : Nat) (r : List UInt8), t ≤ z ∧ i = .int .i64 (t : Int) ∧ o = .string ⟨r.toArray⟩ ∧ Hid (r = r0 ++ Rt.txt S ((l.drop A).take t)) ∧ r.length ≤ 513001 + 4 * t ∧ Below w.heap.size w wr) (fun _ i _ => z - (intOf i).toNat)
        case atStart => exact ⟨0, r0, Nat.zero_le _, rfl, rfl, by show _ = _; rw [List.take_zero]; exact (List.append_nil _).symm, by omega, hB8⟩
        case round =>
          obtain ⟨t, r, ht, rfl, rfl, HR, hrl, hbelt⟩ := hrel
          by_cases htz : t < z
          · obtain ⟨j, hj⟩ : ∃ j, j = A + t := ⟨_, rfl⟩
            have e4 : (A : Int) + (t : Int) = (j : Int) := by omega
            have hjl : j < l.length := by rw [HN.out]; omega
            have hji : (j : Int) < (n : Int) := by have := HN.out; omega
            have hcx := (HL.out.kept hbelt).2 j hjl
            obtain ⟨hv0, hv1⟩ := Rt.fit_at HF.out j hjl
            have HT : Hid (Rt.txt S ((l.drop A).take (t + 1)) = Rt.txt S ((l.drop A).take t) ++ Pt.low (l[j]).toNat S) := by
              show _ = _
              have htd : t < (l.drop A).length := by rw [List.length_drop]; omega
              rw [List.take_succ_eq_append_getElem htd, Rt.txt_snoc, List.getElem_drop]
              subst hj; rfl
            generalize l[j] = v at *
            obtain ⟨N, rfl⟩ := Int.eq_ofNat_of_zero_le hv0
            rw [Int.toNat_natCast] at HT
            obtain ⟨p, hp⟩ : ∃ p, p = Pt.low N S := ⟨_, rfl⟩
            rw [← hp] at HT
            have h4 := pow_le4 hS
            have HC : Hid (∀ w : World, Calls Try.prog 34 #[.int .i64 (N : Int), .int .i64 (S : Int), .bool false] w fun e w' => e = .returned (.string ⟨p.toArray⟩) ∧ Below w.heap.size w w') := fun w => by
              rw [hp]; exact l1Num_low N S w (by omega) hS
            have hpl : p.length ≤ 4 := by rw [hp, Pt.low_len]; exact hS
            have hs3 : ByteArray.mk r.toArray ++ ByteArray.mk p.toArray = ByteArray.mk (r ++ p).toArray := ByteArray.mk_append_mk _ _
            have HR2 : Hid (r ++ p = r0 ++ Rt.txt S ((l.drop A).take (t + 1))) := by
              show _ = _
              rw [HT.out, HR.out, List.append_assoc]
            have HR3 : Hid ((r ++ p).length ≤ 513001 + 4 * (t + 1)) := by show _ ≤ _; rw [List.length_append]; omega
            clear hj hp hv0 hv1 h4 HT HR
            go_wp2_with fail
            refine (HC.out _).mono ?_
            rintro e w1 ⟨rfl, b1⟩
            have bel1 := hbelt.trans (b1.mono hbelt.size)
            clear HC b1 hbelt hcx
            go_wp2_with fail
            go_roundw
            case rel => exact ⟨t + 1, r ++ p, by omega, by go_num, rfl, HR2, HR3.out, bel1⟩
            case measure => simp [intOf]; omega
          · obtain rfl : t = z := by omega
            rw [← HR.out] at HNx HG
            clear HR
            go_wp2_with fail
            exact ⟨⟨A + t, _, r, by omega, by go_num, rfl, ⟨HNx.out, HXp.out, HG.out⟩, hbelt⟩, by simp [intOf]; omega⟩
    · obtain rfl : A = n := by omega
      have HE : Hid (q = Rt.all S l) := by
        have h := HQ.out.2.1
        rw [Rn.from_end (k := A) (by rw [HN.out]; exact Nat.le_refl _), List.append_nil] at h
        show _ = _
        unfold Rt.all
        rw [h]; exact HQ.out.1
      clear HQ
      go_wp2_with fail
      go_ret
      exact ⟨by rw [← HE.out]; rfl, hbel⟩
end Go.Proofs.Ytcahppmnfoopkaa
