/- CodeGet of the specification. -/
import Derived.Test.YtjdilanmkgodnaaGtTop
import Derived.Test.YtjdilanmkgodnaaBgBits
import Derived.Test.YtjdilanmkgodnaaInWalks
namespace Go.Proofs.Ytjdilanmkgodnaa
open Go.RowKit

/-- how l3Get ends -/
def L3Got (w : World) (ans : Option (Nat × Nat)) (e : Ending) (w' : World) : Prop :=
  (∃ m, w' = w.drewN m) ∧ ((ans = none ∧ ∃ z : Int, e = .returned (.tuple #[.int .i64 (-1), .int .i64 z])) ∨ ∃ i q : Nat, ans = some (i, q) ∧ e = .returned (.tuple #[.int .i64 (i : Int), .int .i64 (q : Int)]))
theorem l3Got_no {w w' : World} {ans : Option (Nat × Nat)} (z : Int) (m : Nat) (hw : w' = w.drewN m) (h : ans = none) : L3Got w ans (.returned (.tuple #[.int .i64 (-1), .int .i64 z])) w' := ⟨⟨m, hw⟩, .inl ⟨h, z, rfl⟩⟩
theorem l3Got_yes {w w' : World} {ans : Option (Nat × Nat)} (i q m : Nat) (hw : w' = w.drewN m) (h : ans = some (i, q)) : L3Got w ans (.returned (.tuple #[.int .i64 (i : Int), .int .i64 (q : Int)])) w' := ⟨⟨m, hw⟩, .inr ⟨i, q, h, rfl⟩⟩
/-- a cell of a list, wherever draws were made -/
theorem ints_at {w : World} {a : Option Addr} {zs : List Int} (h : Ints w a zs) {k : Nat} (hk : k < zs.length) : ∃ b off, a = some ⟨b, off, none⟩ ∧ ∀ m, (w.drewN m).cell? ⟨b, off + k, none⟩ = some (.int .i64 (zs.getD k 0)) := by
  rcases h with e | ⟨b, off, rfl, _, hc⟩
  · rw [e] at hk; simp at hk
  · exact ⟨b, off, rfl, fun m => by
      show w.cell? _ = _
      rw [hc k hk, List.getD_eq_getElem?_getD, List.getElem?_eq_getElem hk]; rfl⟩

set_option maxHeartbeats 2000000 in
set_option maxRecDepth 20000 in
theorem l3Get_any (s : ByteArray) (A : Nat) (x : Option Addr) (cx : Nat) (a : Option Addr) (cap n : Nat) (zs : List Int) (w : World) (hx : Ints w x (Mk.mk zs)) (h : Ints w a zs) (hn : zs.length = n) (hg : GoodC zs) (hs : s.size ≤ 9000) (hA : A ≤ 8 * s.size) :
    Calls Try.prog 43 #[.string s, .int .i64 (A : Int), .slice x n cx, .slice a n cap] w (L3Got w (Gt.get zs (bitAt s false) (8 * s.size) A)) := by
  have hl := hg.len
  have HG : Hid (GoodC zs) := hg
  have HN : Hid (zs.length = n) := hn
  have HI : Hid (Ints w a zs) := h
  have HX : Hid (Ints w x (Mk.mk zs)) := hx
  obtain ⟨ans, hans⟩ : ∃ ans, ans = Gt.get zs (bitAt s false) (8 * s.size) A := ⟨_, rfl⟩
  have HA0 : Hid (ans = Gt.go (Gt.S zs zs.length) (bitAt s false) (8 * s.size - (A + 0)) 0 0 (A + 0)) := hans
  rw [← hans]
  clear h hn hg hx hans
  go_enter Try.func43, Try.ntmps43
  go_wp2_with fail
  go_loopw [1, 10, 11] (fun p v d wr => ∃ D V P E m : Nat, D ≤ 15 ∧ P ≤ 8 * s.size ∧ E ≤ 16 ∧ E = D + 1 ∧ V < 2 ^ D ∧ p = .int .i64 (P : Int) ∧ v = .int .i64 (V : Int) ∧ d = .int .i64 (E : Int) ∧ Hid (P = A + D ∧ ans = Gt.go (Gt.S zs zs.length) (bitAt s false) (8 * s.size - (A + D)) D V (A + D)) ∧ Hid (wr = w.drewN m)) (fun _ _ d _ => 16 - (intOf d).toNat)
  case atStart => exact ⟨0, 0, A, 1, 0, by omega, hA, by omega, rfl, by decide, rfl, rfl, rfl, ⟨rfl, HA0.out⟩, rfl⟩
  case round =>
    obtain ⟨D, V, P, E, m, hD, hAD, hE16, hE, hV, rfl, rfl, rfl, HA, HW⟩ := hrel
    clear HA0
    by_cases hgo : D < 15 ∧ P < 8 * s.size
    · obtain ⟨hD1, hA1⟩ := hgo
      have hPe := HA.out.1
      have hVb : V < 32768 := Nat.lt_of_lt_of_le hV (Nat.le_trans (Nat.pow_le_pow_right (by omega) hD) (by decide))
      have i1 : (E : Int) ≤ 15 := by omega
      have i2 : (P : Int) < 8 * (s.size : Int) := by omega
      have HBT : Hid (Calls Try.prog 58 #[.string s, .int .i64 (P : Int), .bool false] wr fun e w' => e = .returned (.int .i64 ((bitAt s false P : Nat) : Int)) ∧ ∃ m, w' = wr.drewN m) := l1Bit_any s P false wr (by omega) hs
      obtain ⟨t, ht⟩ : ∃ t, t = bitAt s false P := ⟨_, rfl⟩
      have ht2 : t < 2 := by rw [ht]; exact bitAt_lt _ _ _
      rw [← ht] at HBT
      obtain ⟨U, hU⟩ : ∃ U : Nat, U = 2 * V + t := ⟨_, rfl⟩
      have eU : (2 : Int) * (V : Int) + (t : Int) = (U : Int) := by omega
      have hU2 : U < 2 ^ E := by rw [hE, Nat.pow_succ]; omega
      have hUb : U < 65536 := by omega
      obtain ⟨Q, hQ⟩ : ∃ Q : Nat, Q = P + 1 := ⟨_, rfl⟩
      have eQ : (P : Int) + 1 = (Q : Int) := by omega
      have hQb : Q ≤ 8 * s.size := by omega
      have HHIT : Hid (∀ i, Mk.Sym zs i E U → ans = some (i, Q)) := fun i hi => by
        rw [HA.out.2, show 8 * s.size - (A + D) = 8 * s.size - (A + (D + 1)) + 1 by omega, hQ, hPe]
        refine Gt.go_hit ?_
        rw [← hPe, ← ht, ← hU, ← hE]
        exact Gt.S_hit (Nat.le_refl _) (fun i hi => (HG.out.le i hi).2) HG.out.num hi.lt hi
      have HMISS : Hid ((∀ i, i < zs.length → ¬ Mk.Sym zs i E U) → ans = Gt.go (Gt.S zs zs.length) (bitAt s false) (8 * s.size - (A + E)) E U (A + E)) := fun hi => by
        rw [HA.out.2, show 8 * s.size - (A + D) = 8 * s.size - (A + E) + 1 by omega, Gt.go_miss (by rw [← hPe, ← ht, ← hU, ← hE]; exact Gt.S_miss (Nat.le_refl _) (fun i hi => (HG.out.le i hi).2) HG.out.num hi), ← hPe, ← ht, ← hU, ← hE, hPe, show A + D + 1 = A + E by omega]
      have HQE : Hid (Q = A + E) := by show _ = _; omega
      have HE : Hid (E = D + 1) := hE
      have hE15 : E ≤ 15 := by omega
      have hE1 : 1 ≤ E := by omega
      clear ht hU hQ HA hPe hV hE hA1 hD1 hD
      go_wp2_with fail
      refine HBT.out.mono ?_
      rintro e w1 ⟨rfl, m1, hw1⟩
      have HW1 : Hid (w1 = w.drewN (m + m1)) := by show _ = _; rw [hw1, HW.out, World.drewN_drewN]
      clear hw1 HBT HW
      generalize hgw : wr = ow at *
      clear hgw
      go_wp2_with fail
      go_loopw [12] (fun i wr => ∃ k : Nat, k ≤ n ∧ i = .int .i64 (k : Int) ∧ Hid (∀ j, j < k → ¬ Mk.Sym zs j E U) ∧ Hid (wr = w.drewN (m + m1))) (fun i _ => n - (intOf i).toNat)
      case atStart => exact ⟨0, Nat.zero_le _, rfl, fun j hj => by omega, HW1⟩
      case round =>
        obtain ⟨k, hk, rfl, HNO, HW⟩ := hrel
        clear HW1
        by_cases hlt : k < n
        · have hki : (k : Int) < (n : Int) := by omega
          have hkl : k < zs.length := by rw [HN.out]; exact hlt
          obtain ⟨b1, o1, rfl, hc1⟩ := ints_at HI.out hkl
          obtain ⟨b2, o2, rfl, hc2⟩ := ints_at HX.out (show k < (Mk.mk zs).length by rw [Mk.mk_len]; exact hkl)
          obtain ⟨C, L, hC, hL, _, hL15⟩ := Cp.parts HG.out.ok k hkl
          have e1 := hc1 (m + m1)
          have e2 := hc2 (m + m1)
          rw [hL, ← HW.out] at e1
          rw [hC, ← HW.out] at e2
          by_cases hLE : L = E
          · by_cases hCU : C = U
            · have HF : Hid (L3Got w ans (.returned (.tuple #[.int .i64 (k : Int), .int .i64 (Q : Int)])) wr) := l3Got_yes k Q (m + m1) HW.out (HHIT.out k ⟨hkl, by rw [hL, hLE], hE1, hE15, by rw [hC, hCU]⟩)
              subst hLE
              subst hCU
              clear hc1 hc2 hC hL HHIT HMISS HNO HW
              go_wp2_with fail
              go_ret2
              exact HF.out
            · have hcui : ¬ (C : Int) = (U : Int) := by omega
              have HN2 : Hid (∀ j, j < k + 1 → ¬ Mk.Sym zs j E U) := fun j hj g => by
                by_cases e : j = k
                · subst e
                  have := g.num
                  rw [hC] at this
                  exact hCU (by omega)
                · exact HNO.out j (by omega) g
              subst hLE
              clear hc1 hc2 hC hL HHIT HMISS HNO
              go_wp2_with fail
              go_roundw
              case rel => exact ⟨k + 1, by omega, by go_num, HN2, HW⟩
              case measure => simp [intOf]; omega
          · have hlei : ¬ (L : Int) = (E : Int) := by omega
            have HN2 : Hid (∀ j, j < k + 1 → ¬ Mk.Sym zs j E U) := fun j hj g => by
              by_cases e : j = k
              · subst e
                have := g.len
                rw [hL] at this
                exact hLE (by omega)
              · exact HNO.out j (by omega) g
            clear hc1 hc2 hC hL HHIT HMISS HNO
            go_wp2_with fail
            go_roundw
            case rel => exact ⟨k + 1, by omega, by go_num, HN2, HW⟩
            case measure => simp [intOf]; omega
        · have hki : ¬ (k : Int) < (n : Int) := by omega
          have HA2 : Hid (ans = Gt.go (Gt.S zs zs.length) (bitAt s false) (8 * s.size - (A + E)) E U (A + E)) := HMISS.out (fun i hi => HNO.out i (by rw [HN.out] at hi; omega))
          clear HHIT HMISS HNO
          go_wp2_with fail
          go_roundw
          case rel => exact ⟨E, U, Q, E + 1, m + m1, hE15, hQb, by omega, rfl, hU2, rfl, rfl, by go_num, ⟨HQE.out, HA2.out⟩, HW⟩
          case measure => simp [intOf]; omega
    · have HNO : Hid (ans = none) := by
        show _ = _
        rw [HA.out.2]
        by_cases h15 : D < 15
        · rw [show 8 * s.size - (A + D) = 0 by have := HA.out.1; omega]; rfl
        · exact Gt.go_deep (fun i hi => (HG.out.le i hi).2) HG.out.num _ _ _ _ _ (by omega)
      have HF : Hid (L3Got w ans (.returned (.tuple #[.int .i64 (-1), .int .i64 (P : Int)])) wr) := l3Got_no _ m HW.out HNO.out
      clear HNO HA HW
      by_cases h15 : D < 15
      · have i1 : (E : Int) ≤ 15 := by omega
        have i2 : ¬ (P : Int) < 8 * (s.size : Int) := by omega
        go_wp2_with fail
        go_ret2
        exact HF.out
      · have i1 : ¬ (E : Int) ≤ 15 := by omega
        go_wp2_with fail
        go_ret2
        exact HF.out

set_option maxHeartbeats 2000000 in
set_option maxRecDepth 20000 in
theorem spec_codeGet (s : ByteArray) (at_ : Int) (a : Option Addr) (cap n : Nat) (zs : List Int) (w : World) (h : Ints w a zs) (hn : zs.length = n) (hl : n ≤ 1048576) (hs : s.size ≤ 1048576) :
    Calls Try.prog 18 #[.string s, .int .i64 at_, .slice a n cap] w fun e w' => e = .returned (.tuple #[.int .i64 (cgAns s at_ zs).1, .int .i64 (cgAns s at_ zs).2]) ∧ Below w.heap.size w w' := by
  have HOK : Hid (Calls Try.prog 13 #[.slice a n cap] w fun e w' => e = .returned (.bool (Cd.okB zs)) ∧ w' = w) := spec_codeOk a cap n zs w h hn hl
  by_cases hk : CgOk s at_ zs
  · obtain ⟨h1, h2, h3, h4⟩ := id hk
    obtain ⟨A, rfl⟩ : ∃ A : Nat, at_ = (A : Int) := ⟨at_.toNat, by omega⟩
    have hg := goodC h1
    rw [h1] at HOK
    have hm3 := hg.len
    have d1 : decide ((s.size : Int) > 9000) = false := by simp; omega
    have HIN : Hid (Calls Try.prog 42 #[.int .i64 (A : Int), .int .i64 0, .int .i64 (8 * (s.size : Int))] w fun e w' => e = .returned (.bool true) ∧ w' = w) := l1In_yes _ _ _ w (by omega) (by omega)
    have HMK : Hid (Calls Try.prog 33 #[.slice a n cap] w fun e w' => e = .returned (.slice (some ⟨w.heap.size, 0, none⟩) n n) ∧ w' = w.alloc (.cells (arr (Mk.mk zs)) 3)) := l3Make_any a cap n zs w h hn (by omega)
    obtain ⟨W1, hW1⟩ : ∃ W1, W1 = w.alloc (.cells (arr (Mk.mk zs)) 3) := ⟨_, rfl⟩
    rw [← hW1] at HMK
    have HB1 : Hid (Below w.heap.size w W1) := by rw [hW1]; exact (Below.refl _ _).alloc (Nat.le_refl _) _
    have HIX : Hid (Ints W1 (some ⟨w.heap.size, 0, none⟩) (Mk.mk zs)) := by rw [hW1]; exact (owns_arr w (Mk.mk zs)).ints
    have HL3 : Hid (Calls Try.prog 43 #[.string s, .int .i64 (A : Int), .slice (some ⟨w.heap.size, 0, none⟩) n n, .slice a n cap] W1 (L3Got W1 (Gt.get zs (bitAt s false) (8 * s.size) A))) := l3Get_any s A _ n a cap n zs W1 HIX.out (h.kept HB1.out) hn hg h2 (by omega)
    have HK : Hid (CgOk s (A : Int) zs) := hk
    clear h hn hk hg h1 hW1 h3 h4 HIX
    go_enter Try.func18, Try.ntmps18
    go_wp2_with fail
    refine HOK.out.mono ?_
    rintro e w0 ⟨rfl, hw0⟩
    subst hw0
    clear HOK
    go_wp2_with fail
    refine HIN.out.mono ?_
    rintro e w1 ⟨rfl, hw1⟩
    replace hw1 := hw1.symm
    subst hw1
    clear HIN
    go_wp2_with fail
    refine HMK.out.mono ?_
    rintro e w2 ⟨rfl, hw2⟩
    subst hw2
    clear HMK
    go_wp2_with fail
    refine HL3.out.mono ?_
    rintro e w3 ⟨⟨m, hw3⟩, (⟨hno, z, rfl⟩ | ⟨i, q, hyes, rfl⟩)⟩
    · have HF : Hid (cgAns s (A : Int) zs = (-1, 0)) := cgAns_none hno
      have HB3 : Hid (Below w0.heap.size w0 w3) := by rw [hw3]; exact HB1.out.trans ⟨rfl, rfl, rfl, Nat.le_refl _, fun _ _ => rfl⟩
      clear HL3 hno HB1 hw3
      go_wp2_with fail
      go_ret2
      exact ⟨by rw [HF.out]; rfl, HB3.out⟩
    · have HF : Hid (cgAns s (A : Int) zs = ((i : Int), (q : Int))) := cgAns_some HK.out hyes
      have HB3 : Hid (Below w0.heap.size w0 w3) := by rw [hw3]; exact HB1.out.trans ⟨rfl, rfl, rfl, Nat.le_refl _, fun _ _ => rfl⟩
      have hi0 : ¬ (i : Int) < 0 := by omega
      clear HL3 hyes HB1 hw3
      go_wp2_with fail
      go_ret2
      exact ⟨by rw [HF.out]; rfl, HB3.out⟩
  · have HF : Hid (cgAns s at_ zs = (-1, 0)) := cgAns_no hk
    cases h1 : Cd.okB zs with
    | false =>
      rw [h1] at HOK
      clear h hn hk
      go_enter Try.func18, Try.ntmps18
      go_wp2_with fail
      refine HOK.out.mono ?_
      rintro e w0 ⟨rfl, hw0⟩
      subst hw0
      go_wp2_with fail
      go_ret2
      exact ⟨by rw [HF.out]; rfl, Below.refl _ _⟩
    | true =>
      rw [h1] at HOK
      by_cases h2 : s.size ≤ 9000
      · have d1 : decide ((s.size : Int) > 9000) = false := by simp; omega
        have HIN : Hid (Calls Try.prog 42 #[.int .i64 at_, .int .i64 0, .int .i64 (8 * (s.size : Int))] w fun e w' => e = .returned (.bool false) ∧ w' = w) := l1In_no _ _ _ w (fun g => hk ⟨h1, h2, g.1, g.2⟩)
        clear h hn hk h1
        go_enter Try.func18, Try.ntmps18
        go_wp2_with fail
        refine HOK.out.mono ?_
        rintro e w0 ⟨rfl, hw0⟩
        subst hw0
        go_wp2_with fail
        refine HIN.out.mono ?_
        rintro e w1 ⟨rfl, hw1⟩
        replace hw1 := hw1.symm
        subst hw1
        go_wp2_with fail
        go_ret2
        exact ⟨by rw [HF.out]; rfl, Below.refl _ _⟩
      · have d1 : decide ((s.size : Int) > 9000) = true := by simp; omega
        clear h hn hk h1
        go_enter Try.func18, Try.ntmps18
        go_wp2_with fail
        refine HOK.out.mono ?_
        rintro e w0 ⟨rfl, hw0⟩
        subst hw0
        go_wp2_with fail
        go_ret2
        exact ⟨by rw [HF.out]; rfl, Below.refl _ _⟩
end Go.Proofs.Ytjdilanmkgodnaa
