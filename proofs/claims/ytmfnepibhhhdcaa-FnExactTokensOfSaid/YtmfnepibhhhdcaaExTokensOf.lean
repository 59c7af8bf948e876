/- The exact law on TokensOf, walked: program and specification answer alike, and the answer owns its memory. -/
import Derived.Test.YtmfnepibhhhdcaaTyColl
import Derived.Test.YtmfnepibhhhdcaaTySpec
import Derived.Test.YtmfnepibhhhdcaaTkMark
import Derived.Test.YtmfnepibhhhdcaaTkWalks
namespace Go.Proofs.Ytmfnepibhhhdcaa
open Go.RowKit

theorem tyAns_len (s : ByteArray) : (tyAns s).length ≤ 5000 := by
  unfold tyAns
  split
  · simp
  · have := Ty.from_len s 0; omega
theorem OwnK.below {w w' : World} {B n : Nat} {v : Value} {l : List Tk} (h : OwnK w B v n l) (hb : Below w.heap.size w w') : OwnK w' B v n l := h.same (fun k hk _ => hb.block k hk)
set_option maxHeartbeats 2000000 in
set_option maxRecDepth 20000 in
theorem exTokensOf (s : ByteArray) (hs0 : s.size ≤ maxLen) (w : World) :
    Calls Try.prog 4 #[.string s] w fun e w' => e = .returned (.bool true) ∧ Below w.heap.size w w' := by
  unfold maxLen at hs0
  by_cases hbig : 1048576 < s.size
  · have d0 : decide ((s.size : Int) > 1048576) = true := by simp; omega
    go_enter Try.func4, Try.ntmps4
    go_wp2_with fail
    go_ret
    exact ⟨rfl, Below.refl _ _⟩
  have d0 : decide ((s.size : Int) > 1048576) = false := by simp; omega
  have HSP : Hid (∀ w, Calls Try.prog 14 #[.string s] w (TkIs w (tyAns s))) := fun w => spec_tokensOf s w (by omega)
  have HIM : Hid (∀ w, Calls Try.prog 15 #[.string s] w (TkImp w (tyAns s))) := fun w => impl_tokensOf s w (by omega)
  have hl := tyAns_len s
  generalize tyAns s = l at *
  obtain ⟨L, hL⟩ : ∃ L, L = l.length := ⟨_, rfl⟩
  have HL : Hid (l.length = L) := hL.symm
  have hLb : L ≤ 5000 := by omega
  have HIM2 : Hid (∀ w, Calls Try.prog 15 #[.string s] w fun e w' => ∃ a c, e = .returned (.slice a L c) ∧ OwnK w' w.heap.size (.slice a L c) L l ∧ Below w.heap.size w w') := fun w => by
    refine (HIM.out w).mono ?_
    rintro e w' ⟨v, rfl, h1, _, h2⟩
    rw [← hL] at h1
    obtain ⟨a, c, rfl, _⟩ := h1.toks
    exact ⟨a, c, rfl, h1, h2⟩
  have HSP2 : Hid (∀ w, Calls Try.prog 14 #[.string s] w fun e w' => ∃ a c, e = .returned (.slice a L c) ∧ OwnK w' w.heap.size (.slice a L c) L l ∧ Below w.heap.size w w') := fun w => by
    refine (HSP.out w).mono ?_
    rintro e w' ⟨a, c, rfl, h1, h2⟩
    rw [← hL] at h1 ⊢
    exact ⟨a, c, rfl, h1, h2⟩
  have HEQ : Hid (∀ (w : World) (a b : Option Addr) (c d : Nat), Toks w a l → Toks w b l → Calls Try.prog 16 #[.slice a L c, .slice b L d] w fun e w' => e = .returned (.bool true) ∧ Below w.heap.size w w') := fun w a b c d h1 h2 => eqToks_same a c b d L l w h1 h2 HL.out (by omega)
  have toks_of : ∀ {w : World} {B c : Nat} {a : Option Addr}, OwnK w B (.slice a L c) L l → Toks w a l := fun {w B c a} h => by
    obtain ⟨a', c', e, h2⟩ := h.toks
    cases e
    exact h2
  have TOK : Hid (∀ (w : World) (B c : Nat) (a : Option Addr), OwnK w B (.slice a L c) L l → Toks w a l) := fun w B c a h => toks_of h
  clear HIM HSP hL hl toks_of hbig
  go_enter Try.func4, Try.ntmps4
  go_wp2_with fail
  refine (HSP2.out w).mono ?_
  rintro e w1 ⟨a1, c1, rfl, o1, b1⟩
  have O1 : Hid (OwnK w1 w.heap.size (.slice a1 L c1) L l) := o1
  clear o1
  go_wp2_with fail
  refine (HIM2.out w1).mono ?_
  rintro e w2 ⟨a2, c2, rfl, o2, b2⟩
  have O2 : Hid (OwnK w2 w1.heap.size (.slice a2 L c2) L l) := o2
  have O1' : Hid (OwnK w2 w.heap.size (.slice a1 L c1) L l) := O1.out.below b2
  have bel2 := b1.trans (b2.mono b1.size)
  have s2 := b2.size
  clear o2
  go_wp2_with fail
  refine (HEQ.out w2 a2 a1 c2 c1 (TOK.out _ _ _ _ O2.out) (TOK.out _ _ _ _ O1'.out)).mono ?_
  rintro e w3 ⟨rfl, b3⟩
  have O2c : Hid (OwnK w3 w1.heap.size (.slice a2 L c2) L l) := O2.out.below b3
  have bel3 := bel2.trans (b3.mono bel2.size)
  have b13 : Below w1.heap.size w1 w3 := b2.trans (b3.mono b2.size)
  have HMK : Hid (Calls Try.prog 17 #[.slice a2 L c2, .int .i64 1] w3 fun e w' => e = .returned (.int .i64 ((L : Int) * 3 + 1)) ∧ Mk3 w' a2 L ∧ Below w1.heap.size w3 w') := markToks_any a2 L c2 w1.heap.size l w3 O2c.out (by omega) b13.size
  clear b2 b3 bel2 O2 O1' s2
  go_wp2_with fail
  refine HMK.out.mono ?_
  rintro e w4 ⟨rfl, m4, b4⟩
  have M4 : Hid (Mk3 w4 a2 L) := m4
  have b14 : Below w1.heap.size w1 w4 := b13.trans b4
  have bel4 : Below w.heap.size w w4 := bel3.trans (b4.mono b1.size)
  have HHD : Hid (∀ w, Mk3 w a2 L → Calls Try.prog 18 #[.slice a2 L c2, .int .i64 1] w fun e w' => e = .returned (.int .i64 ((L : Int) * 3 + 1)) ∧ w' = w) := fun w h => heldToks_any a2 L c2 w h (by omega)
  have hneg : ¬ ((L : Int) * 3 + 1) < 0 := by omega
  clear m4 b4 bel3 b13 HMK O2c
  go_wp2_with fail
  refine (HHD.out w4 M4.out).mono ?_
  rintro e w5 ⟨rfl, hw5⟩
  replace hw5 := hw5.symm
  subst hw5
  go_wp2_with fail
  refine (HIM2.out w4).mono ?_
  rintro e w6 ⟨a6, c6, rfl, o6, b6⟩
  have O6 : Hid (OwnK w6 w4.heap.size (.slice a6 L c6) L l) := o6
  have T1 : Hid (Toks w6 a1 l) := (TOK.out _ _ _ _ (O1.out.below (b14.trans (b6.mono b14.size))))
  have M6 : Hid (Mk3 w6 a2 L) := M4.out.kept b6
  have bel6 := bel4.trans (b6.mono bel4.size)
  clear o6 b6 b14 bel4 M4
  go_wp2_with fail
  refine (HEQ.out w6 a6 a1 c6 c1 (TOK.out _ _ _ _ O6.out) T1.out).mono ?_
  rintro e w7 ⟨rfl, b7⟩
  have M7 : Hid (Mk3 w7 a2 L) := M6.out.kept b7
  have bel7 := bel6.trans (b7.mono bel6.size)
  clear b7 bel6 M6
  go_wp2_with fail
  refine (HHD.out w7 M7.out).mono ?_
  rintro e w8 ⟨rfl, hw8⟩
  replace hw8 := hw8.symm
  subst hw8
  go_wp2_with fail
  go_ret
  exact ⟨rfl, bel7⟩
end Go.Proofs.Ytmfnepibhhhdcaa
