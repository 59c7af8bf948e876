/- A format by its number, as the program finds it. -/
import Derived.Test.YtjmeaeimpkijmaaGreatDoorFmMath
namespace Go.Proofs.YtjmeaeimpkijmaaGreatDoor
open Go.RowKit

def cmpI (x y : Int) : Int := if x < y then -1 else if y < x then 1 else 0
set_option maxHeartbeats 1000000 in
theorem compare_any (x y : Int) (w : World) : Calls Tryz.prog 45 #[.int .i64 x, .int .i64 y] w fun e w' => e = .returned (.int .i64 (cmpI x y)) ∧ w' = w := by
  by_cases h1 : x < y
  · have HE : Hid (cmpI x y = -1) := by show _ = _; unfold cmpI; rw [if_pos h1]
    go_enter Tryz.func45, Tryz.ntmps45
    go_wp2
    go_ret
    exact ⟨by rw [HE.out]; rfl, rfl⟩
  · by_cases h2 : y < x
    · have HE : Hid (cmpI x y = 1) := by show _ = _; unfold cmpI; rw [if_neg h1, if_pos h2]
      go_enter Tryz.func45, Tryz.ntmps45
      go_wp2
      go_ret
      exact ⟨by rw [HE.out]; rfl, rfl⟩
    · have HE : Hid (cmpI x y = 0) := by show _ = _; unfold cmpI; rw [if_neg h1, if_neg h2]
      go_enter Tryz.func45, Tryz.ntmps45
      go_wp2
      go_ret
      exact ⟨by rw [HE.out]; rfl, rfl⟩
set_option maxHeartbeats 1000000 in
theorem formatCmp_any (v0 n : Int) (v1 v2 v3 v4 v5 v6 : Value) (w : World) : Calls Tryz.prog 44 #[.agg #[.int .i64 v0, v1, v2, v3, v4, v5, v6], .int .i64 n] w fun e w' => e = .returned (.int .i64 (cmpI v0 n)) ∧ Below w.heap.size w w' := by
  have HC : Hid (∀ w, Calls Tryz.prog 45 #[.int .i64 v0, .int .i64 n] w fun e w' => e = .returned (.int .i64 (cmpI v0 n)) ∧ w' = w) := compare_any v0 n
  go_enter Tryz.func44, Tryz.ntmps44
  go_wp2_with fail
  refine (HC.out _).mono ?_
  rintro e w1 ⟨rfl, hw1⟩
  subst hw1
  go_wp2_with fail
  go_ret
  exact ⟨rfl, (Below.refl _ _).alloc (Nat.le_refl _) _⟩
/-- where a format stands, and whether there is one -/
def fmtAt (n : Int) : Nat := if n ≤ 1 then 0 else if n ≤ 5 then n.toNat - 1 else 5
def SrEnd (n : Int) (w : World) (e : Ending) (w' : World) : Prop := (∃ (p : Nat) (ok : Bool), e = .returned (.tuple #[.int .i64 (p : Int), .bool ok]) ∧ p = fmtAt n ∧ (ok = true ↔ 1 ≤ n ∧ n ≤ 5)) ∧ Below w.heap.size w w'
set_option maxHeartbeats 4000000 in
set_option maxRecDepth 20000 in
theorem search_any (b : Nat) (n : Int) (w : World) (h : FmtRow w b) : Calls Tryz.prog 43 #[.slice (some ⟨b, 0, none⟩) 5 5, .int .i64 n, .func (.func 44) #[] #[]] w (SrEnd n w) := by
  have HF : Hid (FmtRow w b) := h
  clear h
  go_enter Tryz.func43, Tryz.ntmps43
  go_wp2_with fail
  go_loopw [9, 10] (fun i j wr => ∃ p q : Nat, p ≤ q ∧ q ≤ 5 ∧ i = .int .i64 (p : Int) ∧ j = .int .i64 (q : Int) ∧ (p = 0 ∨ (p : Int) < n) ∧ (q = 5 ∨ n ≤ (q : Int) + 1) ∧ Hid (Below w.heap.size w wr)) (fun i j _ => ((intOf j) - (intOf i)).toNat)
  case atStart => exact ⟨0, 5, by omega, by omega, rfl, rfl, .inl rfl, .inl rfl, Below.refl _ _⟩
  case round =>
    obtain ⟨p, q, hpq, hq5, rfl, rfl, hp, hq, HB⟩ := hrel
    by_cases hlt : p < q
    · have hli : (p : Int) < (q : Int) := by omega
      obtain ⟨m, hm⟩ : ∃ m, m = (p + q) / 2 := ⟨_, rfl⟩
      have hm5 : m < 5 := by omega
      obtain ⟨nm, bx, c0, c1, c2, c3, c4, c5, c6, _⟩ := (HF.out.below HB.out).2 m hm5
      have e1 : ((p : Int) + (q : Int)) / 2 = (m : Int) := by omega
      have hmi : (m : Int) < 5 := by omega
      have hmp : p ≤ m := by omega
      have hmq : m < q := by omega
      have HB2 : Hid (∀ w', Below wr.heap.size wr w' → Below w.heap.size w w') := fun w' k => HB.out.trans (k.mono HB.out.size)
      have HCM : Hid (Calls Tryz.prog 44 #[.agg #[.int .i64 ((m : Int) + 1), .string nm, .int .i64 (fmtWays m), .func (.func 50) #[] #[.pointer (some ⟨bx, 0, none⟩)], .func (.func (fmtHolds m)) #[] #[], .func (.func (fmtPut m)) #[] #[], .func (.func (fmtGet m)) #[] #[]], .int .i64 n] wr fun e w' => e = .returned (.int .i64 (cmpI ((m : Int) + 1) n)) ∧ Below wr.heap.size wr w') := formatCmp_any _ n _ _ _ _ _ _ wr
      clear hm
      by_cases hc : (m : Int) + 1 < n
      · have e2 : cmpI ((m : Int) + 1) n = -1 := by unfold cmpI; rw [if_pos hc]
        rw [e2] at HCM
        have HM : Hid ((m : Int) + 1 < n) := hc
        clear e2 hc
        go_wp2_with fail
        refine HCM.out.mono ?_
        rintro e w1 ⟨rfl, b1⟩
        have HB1 : Hid (Below w.heap.size w w1) := HB2.out _ b1
        clear b1 HCM
        go_wp2_with fail
        go_roundw
        case rel => exact ⟨m + 1, q, by omega, hq5, by go_num, rfl, .inr (by have := HM.out; omega), hq, HB1⟩
        case measure => simp [intOf]; omega
      · obtain ⟨c, hcv⟩ : ∃ c, c = cmpI ((m : Int) + 1) n := ⟨_, rfl⟩
        have hc0 : ¬ c < 0 := by rw [hcv]; unfold cmpI; rw [if_neg hc]; split <;> omega
        rw [← hcv] at HCM
        have HM : Hid (n ≤ (m : Int) + 1) := by show _ ≤ _; omega
        clear hc hcv
        go_wp2_with fail
        refine HCM.out.mono ?_
        rintro e w1 ⟨rfl, b1⟩
        have HB1 : Hid (Below w.heap.size w w1) := HB2.out _ b1
        clear b1 HCM
        go_wp2_with fail
        go_roundw
        case rel => exact ⟨p, m, hmp, by omega, rfl, rfl, hp, .inr HM.out, HB1⟩
        case measure => simp [intOf]; omega
    · have hli : ¬ (p : Int) < (q : Int) := by omega
      have hpq' : p = q := by omega
      subst hpq'
      have HAT : Hid (fmtAt n = p) := by show _ = _; unfold fmtAt; split; omega; split <;> omega
      by_cases h5 : p < 5
      · have h5i : (p : Int) < 5 := by omega
        obtain ⟨nm, bx, c0, c1, c2, c3, c4, c5, c6, _⟩ := (HF.out.below HB.out).2 p h5
        have HCM : Hid (Calls Tryz.prog 44 #[.agg #[.int .i64 ((p : Int) + 1), .string nm, .int .i64 (fmtWays p), .func (.func 50) #[] #[.pointer (some ⟨bx, 0, none⟩)], .func (.func (fmtHolds p)) #[] #[], .func (.func (fmtPut p)) #[] #[], .func (.func (fmtGet p)) #[] #[]], .int .i64 n] wr fun e w' => e = .returned (.int .i64 (cmpI ((p : Int) + 1) n)) ∧ Below wr.heap.size wr w') := formatCmp_any _ n _ _ _ _ _ _ wr
        obtain ⟨c, hcv⟩ : ∃ c, c = cmpI ((p : Int) + 1) n := ⟨_, rfl⟩
        have HD : Hid ((c == 0) = true ↔ 1 ≤ n ∧ n ≤ 5) := by
          show _ ↔ _
          rw [hcv, beq_iff_eq]
          unfold cmpI
          split
          · omega
          · split <;> omega
        rw [← hcv] at HCM
        clear hcv hp hq hlt
        go_wp2_with fail
        refine HCM.out.mono ?_
        rintro e w1 ⟨rfl, b1⟩
        have HB1 : Hid (Below w.heap.size w w1) := HB.out.trans (b1.mono HB.out.size)
        clear b1 HCM
        go_wp2_with fail
        go_ret2
        exact ⟨⟨p, c == 0, rfl, HAT.out.symm, HD.out⟩, HB1.out⟩
      · have h5i : ¬ (p : Int) < 5 := by omega
        have HD : Hid (¬ (1 ≤ n ∧ n ≤ 5)) := by show ¬ _; omega
        clear hp hq hlt
        go_wp2_with fail
        go_ret2
        exact ⟨⟨p, false, rfl, HAT.out.symm, by simpa using HD.out⟩, HB.out⟩
/-- a format of a number: its cells, and whether there is one -/
def FmtIs (n : Int) (v : Value) (ok : Bool) : Prop :=
  (1 ≤ n ∧ n ≤ 5 ∧ ok = true ∧ ∃ (nm : ByteArray) (bx : Nat), v = .agg #[.int .i64 n, .string nm, .int .i64 (fmtWays (n.toNat - 1)), .func (.func 50) #[] #[.pointer (some ⟨bx, 0, none⟩)], .func (.func (fmtHolds (n.toNat - 1))) #[] #[], .func (.func (fmtPut (n.toNat - 1))) #[] #[], .func (.func (fmtGet (n.toNat - 1))) #[] #[]]) ∨
  (¬ (1 ≤ n ∧ n ≤ 5) ∧ ok = false ∧ v = .agg #[.int .i64 0, .string ⟨#[]⟩, .int .i64 0, .nilFunc, .nilFunc, .nilFunc, .nilFunc])
def FoEnd (n : Int) (w : World) (e : Ending) (w' : World) : Prop := (∃ v ok, e = .returned (.tuple #[v, .bool ok]) ∧ FmtIs n v ok) ∧ Below w.heap.size w w'
set_option maxHeartbeats 4000000 in
set_option maxRecDepth 20000 in
theorem formatOf_any (n : Int) (w : World) : Calls Tryz.prog 18 #[.int .i64 n] w (FoEnd n w) := by
  have HFM : Hid (∀ w, Calls Tryz.prog 17 #[] w fun e w' => (∃ b, e = .returned (.slice (some ⟨b, 0, none⟩) 5 5) ∧ FmtRow w' b) ∧ Below w.heap.size w w') := formats_any
  obtain ⟨W0, hW0⟩ : ∃ W0, W0 = w.alloc (.cells #[.int .i64 0, .string ⟨#[]⟩, .int .i64 0, .nilFunc, .nilFunc, .nilFunc, .nilFunc] 43) := ⟨_, rfl⟩
  obtain ⟨bx, hbx⟩ : ∃ bx, bx = w.heap.size := ⟨_, rfl⟩
  have HB0 : Hid (Below w.heap.size w W0 ∧ W0.heap[bx]? = some (.cells #[.int .i64 0, .string ⟨#[]⟩, .int .i64 0, .nilFunc, .nilFunc, .nilFunc, .nilFunc] 43 (0, 0)) ∧ bx = w.heap.size) := by
    rw [hW0, hbx]
    exact ⟨(Below.refl _ _).alloc (Nat.le_refl _) _, heap_alloc_new _ _, rfl⟩
  go_enter Tryz.func18, Tryz.ntmps18
  go_wp2_with fail
  rw [← hW0, ← hbx]
  clear hW0 hbx
  refine (HFM.out W0).mono ?_
  rintro e w1 ⟨⟨b, rfl, hF⟩, b1⟩
  have HF : Hid (FmtRow w1 b ∧ Below w.heap.size w w1 ∧ w1.heap[bx]? = some (.cells #[.int .i64 0, .string ⟨#[]⟩, .int .i64 0, .nilFunc, .nilFunc, .nilFunc, .nilFunc] 43 (0, 0)) ∧ bx < W0.heap.size) := ⟨hF, HB0.out.1.trans (b1.mono HB0.out.1.size), (b1.block bx (Array.getElem?_eq_some_iff.1 HB0.out.2.1).1).trans HB0.out.2.1, (Array.getElem?_eq_some_iff.1 HB0.out.2.1).1⟩
  have HSE : Hid (Calls Tryz.prog 43 #[.slice (some ⟨b, 0, none⟩) 5 5, .int .i64 n, .func (.func 44) #[] #[]] w1 (SrEnd n w1)) := search_any b n w1 hF
  clear hF b1 HFM
  go_wp2_with fail
  refine HSE.out.mono ?_
  rintro e w2 ⟨⟨p, ok, rfl, hp, hok⟩, b2⟩
  have hbw : bx < w1.heap.size := (Array.getElem?_eq_some_iff.1 HF.out.2.2.1).1
  have hx2 := (b2.block bx hbw).trans HF.out.2.2.1
  have HF2 : Hid (FmtRow w2 b ∧ Below w.heap.size w w2 ∧ w.heap.size ≤ bx) := ⟨HF.out.1.below b2, HF.out.2.1.trans (b2.mono HF.out.2.1.size), by rw [HB0.out.2.2]; exact Nat.le_refl _⟩
  clear b2 HSE
  by_cases hn : 1 ≤ n ∧ n ≤ 5
  · have hokt : ok = true := hok.2 hn
    subst hokt
    have hpn : p = n.toNat - 1 := by
      rw [hp]
      unfold fmtAt
      split
      · omega
      · rw [if_pos hn.2]
    have hp5 : p < 5 := by omega
    have hp5i : (p : Int) < 5 := by omega
    obtain ⟨nm, by', c0, c1, c2, c3, c4, c5, c6, _⟩ := HF2.out.1.2 p hp5
    have hpi : (p : Int) + 1 = n := by omega
    rw [hpi] at c0
    have HN : Hid (1 ≤ n ∧ n ≤ 5 ∧ p = n.toNat - 1) := ⟨hn.1, hn.2, hpn⟩
    clear hp hok hpi hpn hn
    obtain ⟨V, hV⟩ : ∃ V, V = w2.setRow bx #[.int .i64 n, .string nm, .int .i64 (fmtWays p), .func (.func 50) #[] #[.pointer (some ⟨by', 0, none⟩)], .func (.func (fmtHolds p)) #[] #[], .func (.func (fmtPut p)) #[] #[], .func (.func (fmtGet p)) #[] #[]] := ⟨_, rfl⟩
    have hs := setRow_heap w2 bx _ #[.int .i64 n, .string nm, .int .i64 (fmtWays p), .func (.func 50) #[] #[.pointer (some ⟨by', 0, none⟩)], .func (.func (fmtHolds p)) #[] #[], .func (.func (fmtPut p)) #[] #[], .func (.func (fmtGet p)) #[] #[]] _ _ hx2
    rw [← hV] at hs
    have k : ∀ o, V.cell? ⟨bx, o, none⟩ = (#[.int .i64 n, .string nm, .int .i64 (fmtWays p), .func (.func 50) #[] #[.pointer (some ⟨by', 0, none⟩)], .func (.func (fmtHolds p)) #[] #[], .func (.func (fmtPut p)) #[] #[], .func (.func (fmtGet p)) #[] #[]] : Array Value)[o]? := fun o => by simp only [World.cell?, hs]; rfl
    have k0 : V.cell? ⟨bx, 0, none⟩ = some (.int .i64 n) := k 0
    have k1 : V.cell? ⟨bx, 1, none⟩ = some (.string nm) := k 1
    have k2 : V.cell? ⟨bx, 2, none⟩ = some (.int .i64 (fmtWays p)) := k 2
    have k3 : V.cell? ⟨bx, 3, none⟩ = some (.func (.func 50) #[] #[.pointer (some ⟨by', 0, none⟩)]) := k 3
    have k4 : V.cell? ⟨bx, 4, none⟩ = some (.func (.func (fmtHolds p)) #[] #[]) := k 4
    have k5 : V.cell? ⟨bx, 5, none⟩ = some (.func (.func (fmtPut p)) #[] #[]) := k 5
    have k6 : V.cell? ⟨bx, 6, none⟩ = some (.func (.func (fmtGet p)) #[] #[]) := k 6
    have HBV : Hid (Below w.heap.size w V) := HF2.out.2.1.trans (by rw [hV]; exact ⟨rfl, rfl, rfl, by simp, fun i hi => setRow_other w2 bx i _ (by have := HF2.out.2.2; omega)⟩)
    have HE : Hid (FoEnd n w (.returned (.tuple #[.agg #[.int .i64 n, .string nm, .int .i64 (fmtWays p), .func (.func 50) #[] #[.pointer (some ⟨by', 0, none⟩)], .func (.func (fmtHolds p)) #[] #[], .func (.func (fmtPut p)) #[] #[], .func (.func (fmtGet p)) #[] #[]], .bool true])) V) := by
      refine ⟨⟨_, _, rfl, .inl ⟨HN.out.1, HN.out.2.1, rfl, nm, by', ?_⟩⟩, HBV.out⟩
      rw [HN.out.2.2]
    clear k hs HBV
    have hI7 : (Tryz.prog.info? 43).map (·.size) = some (#[Value.int .i64 n, .string nm, .int .i64 (fmtWays p), .func (.func 50) #[] #[.pointer (some ⟨by', 0, none⟩)], .func (.func (fmtHolds p)) #[] #[], .func (.func (fmtPut p)) #[] #[], .func (.func (fmtGet p)) #[] #[]]).size := by kernel_rfl
    have h17 : (#[Value.int .i64 n, .string nm, .int .i64 (fmtWays p), .func (.func 50) #[] #[.pointer (some ⟨by', 0, none⟩)], .func (.func (fmtHolds p)) #[] #[], .func (.func (fmtPut p)) #[] #[], .func (.func (fmtGet p)) #[] #[]]).all (·.oneCell') = true := by simp [Value.oneCell']
    go_wp2_with (refine wpList_store_row rfl 43 (.tmp 2) (.tmp 20) rfl bx #[.int .i64 n, .string nm, .int .i64 (fmtWays p), .func (.func 50) #[] #[.pointer (some ⟨by', 0, none⟩)], .func (.func (fmtHolds p)) #[] #[], .func (.func (fmtPut p)) #[] #[], .func (.func (fmtGet p)) #[] #[]] rfl rfl 43 #[.int .i64 0, .string ⟨#[]⟩, .int .i64 0, .nilFunc, .nilFunc, .nilFunc, .nilFunc] hx2 hI7 rfl h17 ?_)
    rw [← hV]
    clear hV
    go_wp2_with fail
    refine bodyPost_ret (v := .tuple #[.agg #[.int .i64 n, .string nm, .int .i64 (fmtWays p), .func (.func 50) #[] #[.pointer (some ⟨by', 0, none⟩)], .func (.func (fmtHolds p)) #[] #[], .func (.func (fmtPut p)) #[] #[], .func (.func (fmtGet p)) #[] #[]], .bool true]) (by simp [results, Tryz.results18, go_sem, k0, k1, k2, k3, k4, k5, k6]) rfl HE.out
  · have hokf : ok = false := by cases ok with | false => rfl | true => exact absurd (hok.1 rfl) hn
    subst hokf
    have HN : Hid (¬ (1 ≤ n ∧ n ≤ 5)) := hn
    clear hp hok hn
    obtain ⟨V, hV⟩ : ∃ V, V = w2.setRow bx #[.int .i64 0, .string ⟨#[]⟩, .int .i64 0, .nilFunc, .nilFunc, .nilFunc, .nilFunc] := ⟨_, rfl⟩
    have hs := setRow_heap w2 bx _ #[.int .i64 0, .string ⟨#[]⟩, .int .i64 0, .nilFunc, .nilFunc, .nilFunc, .nilFunc] _ _ hx2
    rw [← hV] at hs
    have k : ∀ o, V.cell? ⟨bx, o, none⟩ = (#[.int .i64 0, .string ⟨#[]⟩, .int .i64 0, .nilFunc, .nilFunc, .nilFunc, .nilFunc] : Array Value)[o]? := fun o => by simp only [World.cell?, hs]; rfl
    have k0 : V.cell? ⟨bx, 0, none⟩ = some (.int .i64 0) := k 0
    have k1 : V.cell? ⟨bx, 1, none⟩ = some (.string ⟨#[]⟩) := k 1
    have k2 : V.cell? ⟨bx, 2, none⟩ = some (.int .i64 0) := k 2
    have k3 : V.cell? ⟨bx, 3, none⟩ = some .nilFunc := k 3
    have k4 : V.cell? ⟨bx, 4, none⟩ = some .nilFunc := k 4
    have k5 : V.cell? ⟨bx, 5, none⟩ = some .nilFunc := k 5
    have k6 : V.cell? ⟨bx, 6, none⟩ = some .nilFunc := k 6
    have HBV : Hid (Below w.heap.size w V) := HF2.out.2.1.trans (by rw [hV]; exact ⟨rfl, rfl, rfl, by simp, fun i hi => setRow_other w2 bx i _ (by have := HF2.out.2.2; omega)⟩)
    have HE : Hid (FoEnd n w (.returned (.tuple #[.agg #[.int .i64 0, .string ⟨#[]⟩, .int .i64 0, .nilFunc, .nilFunc, .nilFunc, .nilFunc], .bool false])) V) := ⟨⟨_, _, rfl, .inr ⟨HN.out, rfl, rfl⟩⟩, HBV.out⟩
    clear k hs HBV
    have hI7 : (Tryz.prog.info? 43).map (·.size) = some (#[Value.int .i64 0, .string ⟨#[]⟩, .int .i64 0, .nilFunc, .nilFunc, .nilFunc, .nilFunc]).size := by kernel_rfl
    have h17 : (#[Value.int .i64 0, .string ⟨#[]⟩, .int .i64 0, .nilFunc, .nilFunc, .nilFunc, .nilFunc]).all (·.oneCell') = true := by simp [Value.oneCell']
    go_wp2_with (refine wpList_store_row rfl 43 (.tmp 2) (.tmp 16) rfl bx #[.int .i64 0, .string ⟨#[]⟩, .int .i64 0, .nilFunc, .nilFunc, .nilFunc, .nilFunc] rfl rfl 43 #[.int .i64 0, .string ⟨#[]⟩, .int .i64 0, .nilFunc, .nilFunc, .nilFunc, .nilFunc] hx2 hI7 rfl h17 ?_)
    rw [← hV]
    clear hV
    go_wp2_with fail
    refine bodyPost_ret (v := .tuple #[.agg #[.int .i64 0, .string ⟨#[]⟩, .int .i64 0, .nilFunc, .nilFunc, .nilFunc, .nilFunc], .bool false]) (by simp [results, Tryz.results18, go_sem, k0, k1, k2, k3, k4, k5, k6]) rfl HE.out
set_option maxHeartbeats 2000000 in
set_option maxRecDepth 20000 in
theorem impl_ways (n : Int) (w : World) : Calls Tryz.prog 9 #[.int .i64 n] w fun e w' => e = .returned (.int .i64 (if 1 ≤ n ∧ n ≤ 5 then fmtWays (n.toNat - 1) else 0)) ∧ Below w.heap.size w w' := by
  have HFO : Hid (Calls Tryz.prog 18 #[.int .i64 n] w (FoEnd n w)) := formatOf_any n w
  obtain ⟨r, hr⟩ : ∃ r, r = (if 1 ≤ n ∧ n ≤ 5 then fmtWays (n.toNat - 1) else 0) := ⟨_, rfl⟩
  have HR : Hid (r = (if 1 ≤ n ∧ n ≤ 5 then fmtWays (n.toNat - 1) else 0)) := hr
  rw [← hr]
  clear hr
  go_enter Tryz.func9, Tryz.ntmps9
  go_wp2_with fail
  refine HFO.out.mono ?_
  rintro e w1 ⟨⟨v, ok, rfl, hv⟩, b1⟩
  have HB1 : Hid (Below w.heap.size w w1) := b1
  clear b1
  rcases hv with ⟨h1, h5, rfl, nm, bx, rfl⟩ | ⟨hn, rfl, rfl⟩
  · have HI : Hid (1 ≤ n ∧ n ≤ 5) := ⟨h1, h5⟩
    clear h1 h5
    have HQ : Hid (r = fmtWays (n.toNat - 1)) := by have h := HR.out; rw [if_pos HI.out] at h; exact h
    clear HR
    generalize fmtWays (n.toNat - 1) = wy at HQ ⊢
    generalize fmtHolds (n.toNat - 1) = hf
    generalize fmtPut (n.toNat - 1) = pf
    generalize fmtGet (n.toNat - 1) = gf
    have hg : (w1.alloc (.cells #[.int .i64 0, .string ⟨#[]⟩, .int .i64 0, .nilFunc, .nilFunc, .nilFunc, .nilFunc] 43)).heap[w1.heap.size]? = some (.cells #[.int .i64 0, .string ⟨#[]⟩, .int .i64 0, .nilFunc, .nilFunc, .nilFunc, .nilFunc] 43 (0, 0)) := heap_alloc_new _ _
    have hs := setRow_heap _ _ _ #[.int .i64 n, .string nm, .int .i64 wy, .func (.func 50) #[] #[.pointer (some ⟨bx, 0, none⟩)], .func (.func hf) #[] #[], .func (.func pf) #[] #[], .func (.func gf) #[] #[]] _ _ hg
    have k2 : ((w1.alloc (.cells #[.int .i64 0, .string ⟨#[]⟩, .int .i64 0, .nilFunc, .nilFunc, .nilFunc, .nilFunc] 43)).setRow w1.heap.size #[.int .i64 n, .string nm, .int .i64 wy, .func (.func 50) #[] #[.pointer (some ⟨bx, 0, none⟩)], .func (.func hf) #[] #[], .func (.func pf) #[] #[], .func (.func gf) #[] #[]]).cell? ⟨w1.heap.size, 2, none⟩ = some (.int .i64 wy) := by simp only [World.cell?, hs]; rfl
    have hI7 : (Tryz.prog.info? 43).map (·.size) = some (#[Value.int .i64 n, .string nm, .int .i64 wy, .func (.func 50) #[] #[.pointer (some ⟨bx, 0, none⟩)], .func (.func hf) #[] #[], .func (.func pf) #[] #[], .func (.func gf) #[] #[]]).size := by kernel_rfl
    have h17 : (#[Value.int .i64 n, .string nm, .int .i64 wy, .func (.func 50) #[] #[.pointer (some ⟨bx, 0, none⟩)], .func (.func hf) #[] #[], .func (.func pf) #[] #[], .func (.func gf) #[] #[]]).all (·.oneCell') = true := by simp [Value.oneCell']
    have HBV : Hid (Below w.heap.size w ((w1.alloc (.cells #[.int .i64 0, .string ⟨#[]⟩, .int .i64 0, .nilFunc, .nilFunc, .nilFunc, .nilFunc] 43)).setRow w1.heap.size #[.int .i64 n, .string nm, .int .i64 wy, .func (.func 50) #[] #[.pointer (some ⟨bx, 0, none⟩)], .func (.func hf) #[] #[], .func (.func pf) #[] #[], .func (.func gf) #[] #[]])) := by
      have b2 : Below w1.heap.size w1 (w1.alloc (.cells #[.int .i64 0, .string ⟨#[]⟩, .int .i64 0, .nilFunc, .nilFunc, .nilFunc, .nilFunc] 43)) := (Below.refl _ _).alloc (Nat.le_refl _) _
      have b3 : Below w1.heap.size (w1.alloc (.cells #[.int .i64 0, .string ⟨#[]⟩, .int .i64 0, .nilFunc, .nilFunc, .nilFunc, .nilFunc] 43)) ((w1.alloc (.cells #[.int .i64 0, .string ⟨#[]⟩, .int .i64 0, .nilFunc, .nilFunc, .nilFunc, .nilFunc] 43)).setRow w1.heap.size #[.int .i64 n, .string nm, .int .i64 wy, .func (.func 50) #[] #[.pointer (some ⟨bx, 0, none⟩)], .func (.func hf) #[] #[], .func (.func pf) #[] #[], .func (.func gf) #[] #[]]) := ⟨rfl, rfl, rfl, by simp, fun i hi => setRow_other _ w1.heap.size i _ (by omega)⟩
      exact HB1.out.trans ((b2.trans b3).mono HB1.out.size)
    clear hs
    go_wp2_with (refine wpList_store_row rfl 43 (.tmp 3) (.tmp 8) rfl w1.heap.size #[.int .i64 n, .string nm, .int .i64 wy, .func (.func 50) #[] #[.pointer (some ⟨bx, 0, none⟩)], .func (.func hf) #[] #[], .func (.func pf) #[] #[], .func (.func gf) #[] #[]] rfl rfl 43 #[.int .i64 0, .string ⟨#[]⟩, .int .i64 0, .nilFunc, .nilFunc, .nilFunc, .nilFunc] hg hI7 rfl h17 ?_)
    go_ret
    exact ⟨by rw [HQ.out]; rfl, HBV.out⟩
  · have HQ : Hid (r = 0) := by have h := HR.out; rw [if_neg hn] at h; exact h
    clear hn HR
    have hg : (w1.alloc (.cells #[.int .i64 0, .string ⟨#[]⟩, .int .i64 0, .nilFunc, .nilFunc, .nilFunc, .nilFunc] 43)).heap[w1.heap.size]? = some (.cells #[.int .i64 0, .string ⟨#[]⟩, .int .i64 0, .nilFunc, .nilFunc, .nilFunc, .nilFunc] 43 (0, 0)) := heap_alloc_new _ _
    have hs := setRow_heap _ _ _ #[.int .i64 0, .string ⟨#[]⟩, .int .i64 0, .nilFunc, .nilFunc, .nilFunc, .nilFunc] _ _ hg
    have k2 : ((w1.alloc (.cells #[.int .i64 0, .string ⟨#[]⟩, .int .i64 0, .nilFunc, .nilFunc, .nilFunc, .nilFunc] 43)).setRow w1.heap.size #[.int .i64 0, .string ⟨#[]⟩, .int .i64 0, .nilFunc, .nilFunc, .nilFunc, .nilFunc]).cell? ⟨w1.heap.size, 2, none⟩ = some (.int .i64 0) := by simp only [World.cell?, hs]; rfl
    have hI7 : (Tryz.prog.info? 43).map (·.size) = some (#[Value.int .i64 0, .string ⟨#[]⟩, .int .i64 0, .nilFunc, .nilFunc, .nilFunc, .nilFunc]).size := by kernel_rfl
    have h17 : (#[Value.int .i64 0, .string ⟨#[]⟩, .int .i64 0, .nilFunc, .nilFunc, .nilFunc, .nilFunc]).all (·.oneCell') = true := by simp [Value.oneCell']
    have HBV : Hid (Below w.heap.size w ((w1.alloc (.cells #[.int .i64 0, .string ⟨#[]⟩, .int .i64 0, .nilFunc, .nilFunc, .nilFunc, .nilFunc] 43)).setRow w1.heap.size #[.int .i64 0, .string ⟨#[]⟩, .int .i64 0, .nilFunc, .nilFunc, .nilFunc, .nilFunc])) := by
      have b2 : Below w1.heap.size w1 (w1.alloc (.cells #[.int .i64 0, .string ⟨#[]⟩, .int .i64 0, .nilFunc, .nilFunc, .nilFunc, .nilFunc] 43)) := (Below.refl _ _).alloc (Nat.le_refl _) _
      have b3 : Below w1.heap.size (w1.alloc (.cells #[.int .i64 0, .string ⟨#[]⟩, .int .i64 0, .nilFunc, .nilFunc, .nilFunc, .nilFunc] 43)) ((w1.alloc (.cells #[.int .i64 0, .string ⟨#[]⟩, .int .i64 0, .nilFunc, .nilFunc, .nilFunc, .nilFunc] 43)).setRow w1.heap.size #[.int .i64 0, .string ⟨#[]⟩, .int .i64 0, .nilFunc, .nilFunc, .nilFunc, .nilFunc]) := ⟨rfl, rfl, rfl, by simp, fun i hi => setRow_other _ w1.heap.size i _ (by omega)⟩
      exact HB1.out.trans ((b2.trans b3).mono HB1.out.size)
    clear hs
    go_wp2_with (refine wpList_store_row rfl 43 (.tmp 3) (.tmp 8) rfl w1.heap.size #[.int .i64 0, .string ⟨#[]⟩, .int .i64 0, .nilFunc, .nilFunc, .nilFunc, .nilFunc] rfl rfl 43 #[.int .i64 0, .string ⟨#[]⟩, .int .i64 0, .nilFunc, .nilFunc, .nilFunc, .nilFunc] hg hI7 rfl h17 ?_)
    go_ret
    exact ⟨by rw [HQ.out]; rfl, HBV.out⟩
set_option maxHeartbeats 2000000 in
theorem spec_ways (n : Int) (w : World) : Calls Tryz.prog 8 #[.int .i64 n] w fun e w' => e = .returned (.int .i64 (if 1 ≤ n ∧ n ≤ 5 then fmtWays (n.toNat - 1) else 0)) ∧ w' = w := by
  have HA : Hid (∀ v, v = (if 1 ≤ n ∧ n ≤ 5 then fmtWays (n.toNat - 1) else 0) → Ending.returned (.int .i64 v) = .returned (.int .i64 (if 1 ≤ n ∧ n ≤ 5 then fmtWays (n.toNat - 1) else 0))) := fun v h => by rw [h]
  by_cases h1 : n = 1
  · subst h1
    go_enter Tryz.func8, Tryz.ntmps8
    go_wp2_with fail
    go_ret
    exact ⟨rfl, rfl⟩
  · by_cases h2 : 2 ≤ n ∧ n ≤ 5
    · rcases (by omega : n = 2 ∨ n = 3 ∨ n = 4 ∨ n = 5) with rfl | rfl | rfl | rfl
      all_goals
        go_enter Tryz.func8, Tryz.ntmps8
        go_wp2_with fail
        go_ret
        exact ⟨rfl, rfl⟩
    · have g2 : ¬ n = 2 := by omega
      have g3 : ¬ n = 3 := by omega
      have g4 : ¬ n = 4 := by omega
      have g5 : ¬ n = 5 := by omega
      rw [if_neg (by omega)]
      clear h2
      go_enter Tryz.func8, Tryz.ntmps8
      go_wp2_with fail
      go_ret
      exact ⟨rfl, rfl⟩
set_option maxHeartbeats 1000000 in
theorem exWays (n : Int) (w : World) (_hw : (Lit.int .i64 n).wf = true) : Calls Tryz.prog 4 #[.int .i64 n] w fun e w' => e = .returned (.bool true) ∧ Below w.heap.size w w' := by
  have HS : Hid (∀ w, Calls Tryz.prog 8 #[.int .i64 n] w fun e w' => e = .returned (.int .i64 (if 1 ≤ n ∧ n ≤ 5 then fmtWays (n.toNat - 1) else 0)) ∧ w' = w) := spec_ways n
  have HI : Hid (∀ w, Calls Tryz.prog 9 #[.int .i64 n] w fun e w' => e = .returned (.int .i64 (if 1 ≤ n ∧ n ≤ 5 then fmtWays (n.toNat - 1) else 0)) ∧ Below w.heap.size w w') := impl_ways n
  generalize (if 1 ≤ n ∧ n ≤ 5 then fmtWays (n.toNat - 1) else 0) = r at *
  go_enter Tryz.func4, Tryz.ntmps4
  go_wp2_with fail
  refine (HS.out _).mono ?_
  rintro e w1 ⟨rfl, hw1⟩
  subst hw1
  go_wp2_with fail
  refine (HI.out _).mono ?_
  rintro e w2 ⟨rfl, b2⟩
  go_wp2_with fail
  go_ret
  exact ⟨rfl, b2⟩
end Go.Proofs.YtjmeaeimpkijmaaGreatDoor
