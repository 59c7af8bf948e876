/- Which format a text begins as: the program's side and the specification's. -/
import Derived.Test.YtjmeaeimpkijmaaGreatDoorProg
import Derived.Test.YtjmeaeimpkijmaaGreatDoorFmMath
namespace Go.Proofs.YtjmeaeimpkijmaaGreatDoor
open Go.RowKit

/-- one text begins with another -/
def begins (s p : ByteArray) : Bool := decide (p.size ≤ s.size) && ((s.extract 0 p.size).toList == p.toList)
set_option maxHeartbeats 1000000 in
theorem liteHas_any (s p : ByteArray) (w : World) : Calls Tryz.prog 76 #[.string s, .string p] w fun e w' => e = .returned (.bool (begins s p)) ∧ w' = w := by
  unfold begins
  by_cases h : p.size ≤ s.size
  · have h0 : (p.size : Int) ≤ (s.size : Int) := by omega
    have h1 : (0 : Int) ≤ (p.size : Int) := by omega
    rw [decide_eq_true h, Bool.true_and]
    go_enter Tryz.func76, Tryz.ntmps76
    go_wp2_with fail
    go_ret
    exact ⟨rfl, rfl⟩
  · have h0 : ¬ (p.size : Int) ≤ (s.size : Int) := by omega
    rw [decide_eq_false h, Bool.false_and]
    go_enter Tryz.func76, Tryz.ntmps76
    go_wp2_with fail
    go_ret
    exact ⟨rfl, rfl⟩
set_option maxHeartbeats 1000000 in
theorem hasPrefix_any (s p : ByteArray) (w : World) : Calls Tryz.prog 53 #[.string s, .string p] w fun e w' => e = .returned (.bool (begins s p)) ∧ w' = w := by
  have HL : Hid (Calls Tryz.prog 76 #[.string s, .string p] w fun e w' => e = .returned (.bool (begins s p)) ∧ w' = w) := liteHas_any s p w
  generalize begins s p = r at *
  go_enter Tryz.func53, Tryz.ntmps53
  go_wp2_with fail
  refine HL.out.mono ?_
  rintro e w1 ⟨rfl, hw1⟩
  subst hw1
  go_wp2_with fail
  go_ret
  exact ⟨rfl, rfl⟩
set_option maxHeartbeats 1000000 in
theorem starts_any (s p : ByteArray) (w : World) : Calls Tryz.prog 15 #[.string s, .string p] w fun e w' => e = .returned (.bool (begins s p)) ∧ w' = w := by
  unfold begins
  by_cases h : p.size ≤ s.size
  · have h0 : (p.size : Int) ≤ (s.size : Int) := by omega
    have h1 : (0 : Int) ≤ (p.size : Int) := by omega
    rw [decide_eq_true h, Bool.true_and]
    go_enter Tryz.func15, Tryz.ntmps15
    go_wp2_with fail
    go_ret
    exact ⟨rfl, rfl⟩
  · have h0 : ¬ (p.size : Int) ≤ (s.size : Int) := by omega
    rw [decide_eq_false h, Bool.false_and]
    go_enter Tryz.func15, Tryz.ntmps15
    go_wp2_with fail
    go_ret
    exact ⟨rfl, rfl⟩
set_option maxHeartbeats 1000000 in
theorem sign_any (s p : ByteArray) (b : Nat) (w : World) (hb : w.cell? ⟨b, 0, none⟩ = some (.string s)) :
    Calls Tryz.prog 52 #[.string p, .pointer (some ⟨b, 0, none⟩)] w fun e w' => e = .returned (.bool (begins s p)) ∧ w' = w := by
  have HL : Hid (Calls Tryz.prog 53 #[.string s, .string p] w fun e w' => e = .returned (.bool (begins s p)) ∧ w' = w) := hasPrefix_any s p w
  generalize begins s p = r at *
  go_enter Tryz.func52, Tryz.ntmps52
  go_wp2_with fail
  refine HL.out.mono ?_
  rintro e w1 ⟨rfl, hw1⟩
  subst hw1
  go_wp2_with fail
  go_ret
  exact ⟨rfl, rfl⟩
def OnIdx (s : ByteArray) (l : List ByteArray) (w : World) (e : Ending) (w' : World) : Prop := (∃ r : Int, e = .returned (.int .i64 r) ∧ decide (0 ≤ r) = l.any (begins s)) ∧ w' = w
set_option maxHeartbeats 2000000 in
set_option maxRecDepth 20000 in
theorem index_any (s : ByteArray) (a : Option Addr) (l : List ByteArray) (L c b : Nat) (w : World) (hs : Strs w a l) (hL : l.length = L) (hLb : L ≤ 10) (hb : w.cell? ⟨b, 0, none⟩ = some (.string s)) :
    Calls Tryz.prog 75 #[.slice a L c, .func (.func 52) #[] #[.pointer (some ⟨b, 0, none⟩)]] w (OnIdx s l w) := by
  have HS : Hid (∀ p, Calls Tryz.prog 52 #[.string p, .pointer (some ⟨b, 0, none⟩)] w fun e w' => e = .returned (.bool (begins s p)) ∧ w' = w) := fun p => sign_any s p b w hb
  have HR : Hid (Strs w a l) := hs
  clear hs hb
  go_enter Tryz.func75, Tryz.ntmps75
  go_wp2_with fail
  go_loopw [8] (fun i wr => ∃ k : Nat, k ≤ L ∧ i = .int .i64 (k : Int) ∧ wr = w ∧ (l.take k).any (begins s) = false) (fun i _ => L - (intOf i).toNat)
  case atStart => exact ⟨0, Nat.zero_le _, rfl, rfl, rfl⟩
  case round =>
    obtain ⟨k, hk, rfl, rfl, hno⟩ := hrel
    by_cases hlt : k < L
    · have hki : (k : Int) < (L : Int) := by omega
      have hkl : k < l.length := by omega
      have hk0 : (0 : Int) ≤ (k : Int) := by omega
      have hstep : (l.take (k + 1)).any (begins s) = begins s l[k] := by
        rw [List.take_succ_eq_append_getElem hkl, List.any_append, hno]
        simp
      have hwk : IntKind.i64.wrap ((k : Int) + 1) = ((k + 1 : Nat) : Int) := by
        have h := wrap_i64_nat (k + 1) (by omega)
        rw [← h]; rfl
      rcases HR.out with rfl | ⟨bb, off, rfl, hbb, hc⟩
      · exact absurd hkl (by simp)
      have hck := hc k hkl
      have HST : Hid ((l.take (k + 1)).any (begins s) = begins s l[k] ∧ (begins s l[k] = true → l.any (begins s) = true)) := ⟨hstep, fun h => List.any_eq_true.2 ⟨l[k], List.getElem_mem _, h⟩⟩
      have HC := HS.out l[k]
      clear hc hno hstep
      obtain ⟨p, hp⟩ : ∃ p, p = l[k] := ⟨_, rfl⟩
      rw [← hp] at hck HC HST
      obtain ⟨r, hr⟩ : ∃ r, r = begins s p := ⟨_, rfl⟩
      rw [← hr] at HC HST
      have HCH : Hid (Calls Tryz.prog 52 #[.string p, .pointer (some ⟨b, 0, none⟩)] wr fun e w' => e = .returned (.bool r) ∧ w' = wr) := HC
      clear HC hp hr
      go_wp2_with fail
      refine HCH.out.mono ?_
      rintro e w1 ⟨rfl, hw1⟩
      subst hw1
      cases r with
      | true =>
        go_wp2_with fail
        go_ret
        refine ⟨⟨_, rfl, ?_⟩, rfl⟩
        rw [HST.out.2 (by first | rfl | trivial)]
        exact decide_eq_true hk0
      | false =>
        go_wp2_with fail
        exact ⟨⟨k + 1, by omega, by first | rfl | trivial, by first | rfl | trivial, HST.out.1⟩, by simp [intOf]; omega⟩
    · have hke : k = L := by omega
      subst hke
      go_wp2_with fail
      go_ret
      refine ⟨⟨_, rfl, ?_⟩, rfl⟩
      rw [← hL, List.take_length] at hno
      rw [hno]
      rfl
set_option maxHeartbeats 1000000 in
theorem contains_any (s : ByteArray) (a : Option Addr) (l : List ByteArray) (L c b : Nat) (w : World) (hs : Strs w a l) (hL : l.length = L) (hLb : L ≤ 10) (hb : w.cell? ⟨b, 0, none⟩ = some (.string s)) :
    Calls Tryz.prog 51 #[.slice a L c, .func (.func 52) #[] #[.pointer (some ⟨b, 0, none⟩)]] w fun e w' => e = .returned (.bool (l.any (begins s))) ∧ w' = w := by
  have HI : Hid (Calls Tryz.prog 75 #[.slice a L c, .func (.func 52) #[] #[.pointer (some ⟨b, 0, none⟩)]] w (OnIdx s l w)) := index_any s a l L c b w hs hL hLb hb
  clear hs hb
  go_enter Tryz.func51, Tryz.ntmps51
  go_wp2_with fail
  refine HI.out.mono ?_
  rintro e w1 ⟨⟨r, rfl, hr⟩, hw1⟩
  subst hw1
  have HRR : Hid (decide (0 ≤ r) = l.any (begins s)) := hr
  clear hr
  go_wp2_with fail
  go_ret
  exact ⟨by rw [← HRR.out]; rfl, rfl⟩
set_option maxHeartbeats 1000000 in
theorem signs_any (s : ByteArray) (l : List ByteArray) (bx : Nat) (w : World) (hs : Signs w bx l) (hLb : l.length ≤ 10) :
    Calls Tryz.prog 50 #[.string s, .pointer (some ⟨bx, 0, none⟩)] w fun e w' => e = .returned (.bool (l.any (begins s))) ∧ Below w.heap.size w w' := by
  obtain ⟨hbx, a, c, hcell, hrow⟩ := hs
  obtain ⟨W, hW⟩ : ∃ W, W = w.alloc (.cells #[.string s] 9) := ⟨_, rfl⟩
  have hB : Below w.heap.size w W := by rw [hW]; exact (Below.refl _ _).alloc (Nat.le_refl _) _
  have hbs : W.cell? ⟨w.heap.size, 0, none⟩ = some (.string s) := by rw [hW, World.cell?_alloc_at _ _ _ _ rfl]; rfl
  have hcW : W.cell? ⟨bx, 0, none⟩ = some (.slice a l.length c) := (hB.cell (p := ⟨bx, 0, none⟩) hbx).trans hcell
  have HC : Hid (Calls Tryz.prog 51 #[.slice a l.length c, .func (.func 52) #[] #[.pointer (some ⟨w.heap.size, 0, none⟩)]] W fun e w' => e = .returned (.bool (l.any (begins s))) ∧ w' = W) := contains_any s a l l.length c w.heap.size W (hrow.below hB) rfl hLb hbs
  have HB : Hid (Below w.heap.size w W) := hB
  have hcX := hcW
  rw [hW] at hcX
  clear hrow hcell hbs hB
  generalize l.any (begins s) = r at *
  generalize l.length = n at *
  go_enter Tryz.func50, Tryz.ntmps50
  go_wp2_with fail
  rw [← hW]
  clear hW hcX
  refine HC.out.mono ?_
  rintro e w1 ⟨rfl, hw1⟩
  subst hw1
  go_wp2_with fail
  go_ret
  exact ⟨rfl, HB.out⟩
end Go.Proofs.YtjmeaeimpkijmaaGreatDoor
