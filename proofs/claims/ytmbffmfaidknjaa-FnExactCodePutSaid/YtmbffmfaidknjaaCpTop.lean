/- CodePut of the program, for every list and code. -/
import Derived.Test.YtmbffmfaidknjaaCpImpl
namespace Go.Proofs.Ytmbffmfaidknjaa
open Go.RowKit

/-- what is made of a list of symbols, place by place -/
def symL (ls zs : List Int) : List (Int × Int) := zs.map (fun z => Cp.bit ls z.toNat)
theorem symL_len (ls zs : List Int) : (symL ls zs).length = zs.length := by simp [symL]
theorem symL_get (ls zs : List Int) (k : Nat) (h : k < (symL ls zs).length) : (symL ls zs)[k] = Cp.bit ls (zs[k]'(by simpa [symL] using h)).toNat := by simp [symL]

theorem not_ok {ls zs : List Int} {k : Nat} (hk : k < zs.length) (h : ¬ Cp.Good ls zs[k]) : ¬ Cp.Ok zs ls := fun g => h (g.2.2 zs[k] (List.getElem_mem hk))

set_option maxHeartbeats 2000000 in
set_option maxRecDepth 20000 in
theorem impl_codePut_yes (a : Option Addr) (n cap : Nat) (zs : List Int) (b : Option Addr) (m cap' : Nat) (ls : List Int) (w : World) (h : Ints w a zs) (hn : zs.length = n) (hl : n ≤ 9000) (g : Ints w b ls) (hm : ls.length = m) (hm3 : m ≤ 300) (hok : Cd.okB ls = true) :
    Calls Try.prog 10 #[.slice a n cap, .slice b m cap'] w fun e w' => (∃ v L c, e = .returned (.slice v L c) ∧ (Cp.put zs ls).length = L ∧ OwnP w' w.heap.size (.slice v L c) L (Cp.put zs ls)) ∧ Below w.heap.size w w' := by
  have HOK : Hid (Calls Try.prog 34 #[.slice b m cap'] w fun e w' => e = .returned (.bool true) ∧ w' = w) := by
    have := impl_codeOk b cap' m ls w g hm (by omega)
    rw [hok] at this; exact this
  have HCB : Hid (Calls Try.prog 35 #[.slice b m cap'] w fun e w' => e = .returned (.slice (some ⟨w.heap.size, 0, none⟩) m m) ∧ OwnP w' w.heap.size (.slice (some ⟨w.heap.size, 0, none⟩) m m) m (Cp.all ls) ∧ Below w.heap.size w w') := codeBits_any b m cap' ls w g hm hm3 hok
  have d1 : decide ((9000 : Int) < (n : Int)) = false := by simp; omega
  have hmk := fun w => make_pairs n (by omega) w
  have HI : Hid (Ints w a zs ∧ zs.length = n) := ⟨h, hn⟩
  have HG : Hid (Ints w b ls ∧ ls.length = m ∧ Cd.okB ls = true) := ⟨g, hm, hok⟩
  clear h hn g hm hok
  go_enter Try.func10, Try.ntmps10
  go_wp2_with fail
  refine HOK.out.mono ?_
  rintro e w1 ⟨rfl, hw1⟩
  have hv1 := hw1.symm
  subst hv1
  go_wp2_with fail
  refine HCB.out.mono ?_
  rintro e w2 ⟨rfl, hP2, b2⟩
  have hlt2 : w.heap.size < w2.heap.size := by
    by_cases h0 : 0 < m
    · exact (World.ownsRow.lt hP2 w.heap.size rfl).2
    · exact (World.ownsRow.lt hP2 w.heap.size rfl).2
  obtain ⟨W3, hW3⟩ : ∃ W3, W3 = w2.alloc (.cells (madeCells #[.int .i64 0, .int .i64 0] (n * 2)) 51) := ⟨_, rfl⟩
  have hown := own_made w2 (symL ls zs) (by rw [symL_len, HI.out.2]; omega)
  rw [symL_len, HI.out.2, ← hW3] at hown
  have b3 : Below w2.heap.size w2 W3 := by rw [hW3]; exact (Below.refl _ _).alloc (Nat.le_refl _) _
  have hs3 : W3.heap.size = w2.heap.size + 1 := by rw [hW3]; simp
  have HF : Hid (OwnP W3 w2.heap.size (.slice (some ⟨w2.heap.size, 0, none⟩) n n) n (half (symL ls zs) 0) ∧ OwnP W3 w.heap.size (.slice (some ⟨w.heap.size, 0, none⟩) m m) m (Cp.all ls) ∧ Ints W3 a zs ∧ Ints W3 b ls ∧ Below w.heap.size w W3) :=
    ⟨hown, hP2.kept b3, (HI.out.1.kept b2).kept b3, (HG.out.1.kept b2).kept b3, b2.trans (b3.mono b2.size)⟩
  have HA : Hid ((∀ y, a = some y → zs ≠ [] → y.block < w.heap.size) ∧ (∀ y, b = some y → ls ≠ [] → y.block < w.heap.size)) := by
    constructor
    · intro y hy hne
      rcases HI.out.1 with q | ⟨bb, off, e, hb, _⟩
      · exact absurd q hne
      · rw [e] at hy; cases hy; exact hb
    · intro y hy hne
      rcases HG.out.1 with q | ⟨bb, off, e, hb, _⟩
      · exact absurd q hne
      · rw [e] at hy; cases hy; exact hb
  have HW3 : Hid (W3 = w2.alloc (.cells (madeCells #[.int .i64 0, .int .i64 0] (n * 2)) 51)) := hW3
  clear hown hP2 b2 b3 hs3 HOK HCB hW3
  go_wp2_with fail
  rw [← HW3.out]
  clear hmk
  go_loopw [24] (fun i wr => ∃ k : Nat, k ≤ n ∧ i = .int .i64 k ∧ (∀ j (hj : j < zs.length), j < k → Cp.Good ls zs[j]) ∧ OwnP wr w2.heap.size (.slice (some ⟨w2.heap.size, 0, none⟩) n n) n (half (symL ls zs) k) ∧ Turned w2.heap.size W3 wr) (fun i _ => n - (intOf i).toNat)
  case atStart => exact ⟨0, Nat.zero_le _, rfl, fun j hj h0 => absurd h0 (by omega), HF.out.1, Turned.refl _ _⟩
  case round =>
    obtain ⟨k, hk, rfl, hall, hP, hT⟩ := hrel
    have HL : Hid (∀ j (hj : j < zs.length), j < k → Cp.Good ls zs[j]) := hall
    clear hall
    by_cases hlt : k < n
    · have hkl : k < zs.length := by have := HI.out.2; omega
      have hnz : zs ≠ [] := by intro q; rw [q] at hkl; simp at hkl
      obtain ⟨b1, o1, e1, hb1, c1⟩ := (HF.out.2.2.1).at hkl
      have hlt1 : b1 < w.heap.size := HA.out.1 _ e1 hnz
      subst e1
      have d2 := (hT.cell (c := b1) (by omega) (o1 + k)).trans c1
      obtain ⟨x, hx⟩ : ∃ x, x = zs[k] := ⟨_, rfl⟩
      rw [← hx] at d2
      have HX : Hid (x = zs[k]) := hx
      have hki : (k : Int) < (n : Int) := by omega
      clear hx c1 hb1
      by_cases hx0 : x < 0
      · have e1 : decide (x < 0) = true := by simpa using hx0
        have HP0 : Hid (Cp.put zs ls = []) := Cp.put_no (not_ok hkl (by rw [← HX.out]; exact fun q => by have := q.1; omega))
        have HB : Hid (Below w.heap.size w _) := HF.out.2.2.2.2.trans (hT.below (by omega))
        clear hP hT
        go_wp2_with fail
        go_ret
        rw [HP0.out]
        exact ⟨⟨_, _, _, rfl, rfl, World.ownsRow_nil _ _ _ _⟩, HB.out⟩
      · have e1 : decide (x < 0) = false := by simpa using hx0
        by_cases hxm : (m : Int) ≤ x
        · have e2 : decide ((m : Int) ≤ x) = true := by simpa using hxm
          have HP0 : Hid (Cp.put zs ls = []) := Cp.put_no (not_ok hkl (by rw [← HX.out]; exact fun q => by have := q.2.1; have := HG.out.2.1; omega))
          have HB : Hid (Below w.heap.size w _) := HF.out.2.2.2.2.trans (hT.below (by omega))
          clear hP hT
          go_wp2_with fail
          go_ret
          rw [HP0.out]
          exact ⟨⟨_, _, _, rfl, rfl, World.ownsRow_nil _ _ _ _⟩, HB.out⟩
        · have e2 : decide ((m : Int) ≤ x) = false := by simpa using hxm
          obtain ⟨s, rfl⟩ := Int.eq_ofNat_of_zero_le (show 0 ≤ x by omega)
          have hsm : s < m := by omega
          have hsl : s < ls.length := by have := HG.out.2.1; omega
          have hnl : ls ≠ [] := by intro q; rw [q] at hsl; simp at hsl
          obtain ⟨bb, oo, eb, hbb, cb⟩ := (HF.out.2.2.2.1).at hsl
          have hltb : bb < w.heap.size := HA.out.2 _ eb hnl
          subst eb
          obtain ⟨V, S, hV, hS, hVb, hSb⟩ := Cp.parts HG.out.2.2 s hsl
          have d3 : wr.cell? ⟨bb, oo + s, none⟩ = some (.int .i64 (S : Int)) := (hT.cell (c := bb) (by omega) (oo + s)).trans (by rw [cb, ← hS, List.getD_eq_getElem?_getD, List.getElem?_eq_getElem hsl]; rfl)
          have hsi : (s : Int) < (m : Int) := by omega
          clear cb hbb
          by_cases hS0 : S = 0
          · have HP0 : Hid (Cp.put zs ls = []) := Cp.put_no (not_ok hkl (by rw [← HX.out]; exact fun q => by have h3 := q.2.2; rw [Int.toNat_natCast, hS, hS0] at h3; exact h3 rfl))
            subst hS0
            have HB : Hid (Below w.heap.size w _) := HF.out.2.2.2.2.trans (hT.below (by omega))
            clear hP hT hV hS
            go_wp2_with fail
            go_ret
            rw [HP0.out]
            exact ⟨⟨_, _, _, rfl, rfl, World.ownsRow_nil _ _ _ _⟩, HB.out⟩
          · have e3 : ((S : Int) == 0) = false := by simp; omega
            have HGD : Hid (Cp.Good ls zs[k]) := by rw [← HX.out]; exact ⟨by omega, by have := HG.out.2.1; omega, by rw [Int.toNat_natCast, hS]; omega⟩
            have hbit := Cp.bit_of hV hS
            have hka : k < (symL ls zs).length := by rw [symL_len]; exact hkl
            have hset := half_set (symL ls zs) k hka
            rw [symL_get, ← HX.out, Int.toNat_natCast, hbit] at hset
            have hput := hP.put (k := k) hlt ((turned V S : Nat) : Int) (S : Int)
            rw [hset] at hput
            have hTT := (hT.set (k * 2) (.int .i64 ((turned V S : Nat) : Int))).set (k * 2 + 1) (.int .i64 (S : Int))
            have hall := HF.out.2.1
            have hsa : s < (Cp.all ls).length := by rw [Cp.all_len]; exact hsl
            have q0 : wr.cell? ⟨w.heap.size, s * 2, none⟩ = some (.int .i64 ((turned V S : Nat) : Int)) := (hT.cell (c := w.heap.size) (by omega) (s * 2)).trans ((World.ownsRow.cellAt hall (s * 2) (by omega)).trans (by rw [(cellsOf_get (Cp.all ls) s hsa).1, Cp.all_get, hbit]))
            have q1 : wr.cell? ⟨w.heap.size, s * 2 + 1, none⟩ = some (.int .i64 (S : Int)) := (hT.cell (c := w.heap.size) (by omega) (s * 2 + 1)).trans ((World.ownsRow.cellAt hall (s * 2 + 1) (by omega)).trans (by rw [(cellsOf_get (Cp.all ls) s hsa).2, Cp.all_get, hbit]))
            obtain ⟨u0, hu0⟩ : ∃ u0, wr.cell? ⟨w2.heap.size, k * 2, none⟩ = some u0 := ⟨_, (World.ownsRow.cellAt hP (k * 2) (by omega)).trans (cellsOf_get (half (symL ls zs) k) k (half_get _ _ hka)).1⟩
            obtain ⟨u1, hu1⟩ : ∃ u1, wr.cell? ⟨w2.heap.size, k * 2 + 1, none⟩ = some u1 := ⟨_, (World.ownsRow.cellAt hP (k * 2 + 1) (by omega)).trans (cellsOf_get (half (symL ls zs) k) k (half_get _ _ hka)).2⟩
            have z0 := World.ownsRow.frozenAt hP (k * 2)
            have z1 := World.ownsRow.frozenAt hP (k * 2 + 1)
            have HN : Hid (OwnP _ w2.heap.size (.slice (some ⟨w2.heap.size, 0, none⟩) n n) n (half (symL ls zs) (k + 1)) ∧ Turned w2.heap.size W3 _) := ⟨hput, hTT⟩
            generalize turned V S = T at *
            clear hP hT hput hTT hset hbit hV hS hall hka hsa
            go_wp2_with fail
            go_roundw
            case rel =>
              refine ⟨k + 1, by omega, by go_num, fun j hj h1 => ?_, HN.out.1, HN.out.2⟩
              by_cases e : j < k
              · exact HL.out j hj e
              · have : j = k := by omega
                subst this
                exact HGD.out
            case measure => simp [intOf]; omega
    · have hk' : k = n := by omega
      subst hk'
      have hgood : Cp.Ok zs ls := ⟨HG.out.2.2, by have := HI.out.2; omega, fun z hz => by
        obtain ⟨j, hj, rfl⟩ := List.getElem_of_mem hz
        exact HL.out j hj (by have := HI.out.2; omega)⟩
      have hput : Cp.put zs ls = symL ls zs := Cp.put_yes hgood
      have hall : half (symL ls zs) k = symL ls zs := by
        have := half_all (symL ls zs)
        rw [symL_len, HI.out.2] at this; exact this
      rw [hall, ← hput] at hP
      have HE : Hid (OwnP wr w.heap.size (.slice (some ⟨w2.heap.size, 0, none⟩) k k) k (Cp.put zs ls) ∧ Below w.heap.size w wr ∧ (Cp.put zs ls).length = k) := by
        refine ⟨⟨hP.1, ?_⟩, HF.out.2.2.2.2.trans (hT.below (by omega)), by rw [hput, symL_len]; exact HI.out.2⟩
        rcases hP.2 with q | ⟨g, c, cur, e, hg, r⟩
        · exact .inl q
        · exact .inr ⟨g, c, cur, e, by omega, r⟩
      clear hP hT hall hput hgood
      go_wp2_with fail
      go_ret
      exact ⟨⟨_, _, _, rfl, HE.out.2.2, HE.out.1⟩, HE.out.2.1⟩

set_option maxHeartbeats 1000000 in
theorem impl_codePut (a : Option Addr) (n cap : Nat) (zs : List Int) (b : Option Addr) (m cap' : Nat) (ls : List Int) (w : World) (h : Ints w a zs) (hn : zs.length = n) (hl : n ≤ 1048576) (g : Ints w b ls) (hm : ls.length = m) (hm2 : m ≤ 1048576) :
    Calls Try.prog 10 #[.slice a n cap, .slice b m cap'] w fun e w' => (∃ v L c, e = .returned (.slice v L c) ∧ (Cp.put zs ls).length = L ∧ OwnP w' w.heap.size (.slice v L c) L (Cp.put zs ls)) ∧ Below w.heap.size w w' := by
  have HOK := impl_codeOk b cap' m ls w g hm hm2
  cases hok : Cd.okB ls
  · rw [hok] at HOK
    have HO : Hid (Calls Try.prog 34 #[.slice b m cap'] w fun e w' => e = .returned (.bool false) ∧ w' = w) := HOK
    have HP0 : Hid (Cp.put zs ls = []) := Cp.put_no (fun q => by have := q.1; rw [hok] at this; cases this)
    clear HOK hok h g hn hm
    go_enter Try.func10, Try.ntmps10
    go_wp2_with fail
    refine HO.out.mono ?_
    rintro e w1 ⟨rfl, hw1⟩
    have hv1 := hw1.symm
    subst hv1
    go_wp2_with fail
    go_ret
    rw [HP0.out]
    exact ⟨⟨_, _, _, rfl, rfl, World.ownsRow_nil _ _ _ _⟩, Below.refl _ _⟩
  · by_cases hbig : 9000 < n
    · rw [hok] at HOK
      have HO : Hid (Calls Try.prog 34 #[.slice b m cap'] w fun e w' => e = .returned (.bool true) ∧ w' = w) := HOK
      have HP0 : Hid (Cp.put zs ls = []) := Cp.put_no (fun q => by have := q.2.1; omega)
      have d1 : decide ((9000 : Int) < (n : Int)) = true := by simp; omega
      clear HOK hok h g hn hm
      go_enter Try.func10, Try.ntmps10
      go_wp2_with fail
      refine HO.out.mono ?_
      rintro e w1 ⟨rfl, hw1⟩
      have hv1 := hw1.symm
      subst hv1
      go_wp2_with fail
      go_ret
      rw [HP0.out]
      exact ⟨⟨_, _, _, rfl, rfl, World.ownsRow_nil _ _ _ _⟩, Below.refl _ _⟩
    · exact impl_codePut_yes a n cap zs b m cap' ls w h hn (by omega) g hm (by rw [← hm]; exact okB_len' hok) hok
end Go.Proofs.Ytmbffmfaidknjaa
