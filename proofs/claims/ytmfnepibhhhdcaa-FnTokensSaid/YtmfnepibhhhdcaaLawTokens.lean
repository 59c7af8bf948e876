/- The law that the tokens of a text make it, walked. -/
import Derived.Test.YtmfnepibhhhdcaaTyColl
import Derived.Test.YtmfnepibhhhdcaaTySpec
import Derived.Test.YtmfnepibhhhdcaaWiToks
import Derived.Test.YtmfnepibhhhdcaaTyBack2
import Derived.Test.YtmfnepibhhhdcaaToTop
import Derived.Test.YtmfnepibhhhdcaaDrawWalks
import Derived.Test.YtmfnepibhhhdcaaTextWalks
namespace Go.Proofs.Ytmfnepibhhhdcaa
open Go.RowKit

set_option maxHeartbeats 1000000 in
theorem drawTokensOf_any (a : Option Addr) (len cap : Nat) (w : World) (h : Code8 w a len cap) :
    Calls Try.prog 19 #[.slice a len cap] w fun e w' => (∃ t : ByteArray, e = .returned (.string t) ∧ t.size ≤ 9001) ∧ Below w.heap.size w w' := by
  have HOP : Hid (Calls Try.prog 50 #[.slice a len cap] w fun e w' => e = .returned (.pointer (some ⟨w.heap.size, 0, none⟩)) ∧ RdAt w' w.heap.size 0 ∧ Below w.heap.size w w') := open_any a len cap w h
  clear h
  go_enter Try.func19, Try.ntmps19
  go_wp2_with fail
  refine HOP.out.mono ?_
  rintro e w1 ⟨rfl, hR1, b1⟩
  have HTX : Hid (Calls Try.prog 49 #[.pointer (some ⟨w.heap.size, 0, none⟩)] w1 fun e w' => (∃ t : ByteArray, e = .returned (.string t) ∧ t.size ≤ 9001) ∧ Below w.heap.size w w') := by
    refine (text_any w.heap.size 0 w1 hR1 (by omega)).mono ?_
    rintro e w' ⟨h1, ⟨q, h2, h3⟩, h4⟩
    exact ⟨h1, b1.trans h4.below⟩
  clear hR1 b1 HOP
  go_wp2_with fail
  refine HTX.out.mono ?_
  rintro e w2 ⟨⟨t, rfl, ht⟩, hb⟩
  go_wp2_with fail
  go_ret
  exact ⟨⟨t, rfl, ht⟩, hb⟩
set_option maxHeartbeats 400000 in
theorem wiIn_tk (n lo hi : Int) (w : World) (h1 : lo ≤ n) (h2 : n ≤ hi) :
    Calls Try.prog 21 #[.int .i64 n, .int .i64 lo, .int .i64 hi] w fun e w' => e = .returned (.bool true) ∧ w' = w := by
  have hd : decide (n ≤ hi) = true := by simp; omega
  have hd2 : decide (n ≥ lo) = true := by simp; omega
  go_enter Try.func21, Try.ntmps21
  go_wp2_with fail
  go_ret
  exact ⟨rfl, rfl⟩
theorem OwnK.at0 {w : World} {B n : Nat} {v : Value} {l : List Tk} (h : OwnK w B v n l) : ∃ ao cap, v = .slice ao n cap ∧ Toks w ao l ∧ n ≤ cap := by
  obtain ⟨ao, cap, e, ht⟩ := h.toks
  refine ⟨ao, cap, e, ht, ?_⟩
  rcases h.2 with ⟨e1, h0⟩ | ⟨g, c, cur, e1, _, _, h1, _⟩
  · omega
  · rw [e] at e1; cases e1; omega

set_option maxHeartbeats 4000000 in
set_option maxRecDepth 20000 in
theorem lawTokens (a : Option Addr) (len cap : Nat) (w : World) (h : Code8 w a len cap) :
    Calls Try.prog 5 #[.slice a len cap] w fun e w' => e = .returned (.bool true) ∧ Below w.heap.size w w' := by
  by_cases hbig : 1048576 < len
  · have d0 : decide ((len : Int) > 1048576) = true := by simp; omega
    clear h
    go_enter Try.func5, Try.ntmps5
    go_wp2_with fail
    go_ret
    exact ⟨rfl, Below.refl _ _⟩
  have d0 : decide ((len : Int) > 1048576) = false := by simp; omega
  have HD : Hid (Calls Try.prog 19 #[.slice a len cap] w fun e w' => (∃ t : ByteArray, e = .returned (.string t) ∧ t.size ≤ 9001) ∧ Below w.heap.size w w') := drawTokensOf_any a len cap w h
  clear h hbig
  go_enter Try.func5, Try.ntmps5
  go_wp2_with fail
  refine HD.out.mono ?_
  rintro e w1 ⟨⟨s, rfl, hs⟩, b1⟩
  clear HD d0
  have HSP : Hid (∀ w, Calls Try.prog 14 #[.string s] w (TkIs w (tyAns s))) := fun w => spec_tokensOf s w (by omega)
  have HIM : Hid (∀ w, Calls Try.prog 15 #[.string s] w (TkImp w (tyAns s))) := fun w => impl_tokensOf s w (by omega)
  have hlen : (tyAns s).length ≤ 5000 := by
    unfold tyAns
    split
    · simp
    · have := Ty.from_len s 0; omega
  obtain ⟨l, hl⟩ : ∃ l, l = tyAns s := ⟨_, rfl⟩
  rw [← hl] at HSP HIM hlen
  have HLS : Hid (l = tyAns s) := hl
  obtain ⟨L, hL⟩ : ∃ L, L = l.length := ⟨_, rfl⟩
  have HL : Hid (l.length = L) := hL.symm
  have hLb : L ≤ 5000 := by omega
  have HIM2 : Hid (∀ w, Calls Try.prog 15 #[.string s] w fun e w' => ∃ a c, e = .returned (.slice a L c) ∧ Toks w' a l ∧ L ≤ c ∧ Below w.heap.size w w') := fun w => by
    refine (HIM.out w).mono ?_
    rintro e w' ⟨v, rfl, h1, _, h2⟩
    rw [← hL] at h1
    obtain ⟨a, c, rfl, h3, h4⟩ := h1.at0
    exact ⟨a, c, rfl, h3, h4, h2⟩
  have HSP2 : Hid (∀ w, Calls Try.prog 14 #[.string s] w fun e w' => ∃ a c, e = .returned (.slice a L c) ∧ Toks w' a l ∧ Below w.heap.size w w') := fun w => by
    refine (HSP.out w).mono ?_
    rintro e w' ⟨a, c, rfl, h1, h2⟩
    rw [← hL] at h1 ⊢
    obtain ⟨a', c', e, h3, _⟩ := h1.at0
    cases e
    exact ⟨a, c, rfl, h3, h2⟩
  have HWI : Hid (∀ (w : World) (a b : Option Addr) (c d : Nat), Toks w a l → Toks w b l → Calls Try.prog 20 #[.slice a L c, .slice b L d] w fun e w' => e = .returned (.bool true) ∧ ∃ m, w' = w.drewN m) := fun w a b c d h1 h2 => wiToks_same a c b d L l w h1 h2 HL.out (by omega)
  clear HIM HSP hl hL hlen
  have HB1 : Hid (Below w.heap.size w w1) := b1
  clear b1
  go_wp2_with fail
  refine (HIM2.out w1).mono ?_
  rintro e w2 ⟨a2, c2, rfl, t2, hc2, b2⟩
  have T2 : Hid (Toks w2 a2 l) := t2
  have HB2 : Hid (Below w.heap.size w w2) := HB1.out.trans (b2.mono HB1.out.size)
  clear t2 b2 HB1 HIM2
  go_wp2_with fail
  refine (HSP2.out w2).mono ?_
  rintro e w3 ⟨a3, c3, rfl, t3, b3⟩
  have T3 : Hid (Toks w3 a3 l) := t3
  have T2' : Hid (Toks w3 a2 l) := T2.out.kept b3
  have HB3 : Hid (Below w.heap.size w w3) := HB2.out.trans (b3.mono HB2.out.size)
  clear t3 b3 HB2 HSP2 T2
  go_wp2_with fail
  refine (HWI.out w3 a2 a3 c2 c3 T2'.out T3.out).mono ?_
  rintro e w4 ⟨rfl, m4, hw4⟩
  have T4 : Hid (Toks w4 a2 l) := by rw [hw4]; exact T2'.out
  have HB4 : Hid (Below w.heap.size w w4) := by rw [hw4]; exact below_drewN HB3.out _
  clear hw4 HB3 T2' T3 HWI
  by_cases hbg : 5000 < s.size
  · have dg : decide ((s.size : Int) > 5000) = true := by simp; omega
    have hL0 : L = 0 := by
      rw [← HL.out, HLS.out]
      unfold tyAns
      rw [if_pos hbg]; rfl
    subst hL0
    go_wp2_with fail
    go_ret
    exact ⟨rfl, HB4.out⟩
  have dg : decide ((s.size : Int) > 5000) = false := by simp; omega
  have hl2 : l = Ty.from_ s 0 := by
    rw [HLS.out]
    unfold tyAns
    rw [if_neg hbg]
  have hget := Ty.from_get (s := s) (by omega)
  rw [← hl2] at hget
  obtain ⟨e1, e2⟩ := To.ans_some hget
  have hLs : L ≤ s.size := by
    have := Ty.from_len s 0
    rw [← hl2, HL.out] at this
    omega
  have HOU : Hid (∀ w, Toks w a2 l → Calls Try.prog 22 #[.slice a2 L c2] w fun e w' => e = .returned (.tuple #[.string s, .bool true]) ∧ Below w.heap.size w w') := fun w hw => by
    have h1 := impl_tokensOut a2 L c2 l w hw HL.out (by omega)
    have h2 : ToEnd w l = fun e w' => e = .returned (.tuple #[.string s, .bool true]) ∧ Below w.heap.size w w' := by
      funext e w'
      unfold ToEnd
      rw [e1, e2, Ty.bl_mk]
    rw [h2] at h1
    exact h1
  have HFR : Hid (l = Ty.from_ s 0) := hl2
  clear hl2 hget e1 e2 HLS
  go_wp2_with fail
  go_loopw [5, 6] (fun n i wr => ∃ A k : Nat, k ≤ L ∧ A ≤ s.size ∧ n = .int .i64 (A : Int) ∧ i = .int .i64 (k : Int) ∧ Hid (l.drop k = Ty.from_ s A) ∧ wr = w4) (fun _ i _ => L - (intOf i).toNat)
  case atStart => exact ⟨0, 0, Nat.zero_le _, Nat.zero_le _, rfl, rfl, by show _ = _; rw [List.drop_zero]; exact HFR.out, rfl⟩
  case round =>
    obtain ⟨A, k, hk, hA, rfl, rfl, HDR, hwr⟩ := hrel
    subst hwr
    by_cases hlt : k < L
    · have hki : (k : Int) < (L : Int) := by omega
      have hkl : k < l.length := by rw [HL.out]; exact hlt
      obtain ⟨hA2, hlk, hdr⟩ := Ty.from_at HDR.out hkl
      have HDR2 : Hid (l.drop (k + 1) = Ty.from_ s (A + Ty.adv s A)) := hdr
      obtain ⟨bb, off, rfl, hbb, c0, c1, c2'⟩ := T4.out.at hkl
      rw [hlk] at c1 c2'
      have hin := Ty.adv_in hA2
      have hft := Ty.tok_fits hA2
      generalize Ty.adv s A = av at *
      generalize (Ty.tok s A).2.1 = z at *
      generalize (Ty.tok s A).2.2 = dd at *
      clear hdr hlk HDR c0
      rcases hft with ⟨rfl, rfl⟩ | ⟨rfl, h3, h258, hd1, hd2⟩
      · go_wp2_with fail
        go_roundw
        case rel => exact ⟨A + 1, k + 1, by omega, by omega, by go_num, by go_num, HDR2, trivial⟩
        case measure => simp [intOf]; omega
      · have dz : ((av : Int) == 0) = false := by rw [beq_eq_false_iff_ne]; omega
        have HW1 : Hid (Calls Try.prog 21 #[.int .i64 (av : Int), .int .i64 3, .int .i64 258] wr fun e w' => e = .returned (.bool true) ∧ w' = wr) := wiIn_tk _ _ _ _ (by omega) (by omega)
        have HW2 : Hid (Calls Try.prog 21 #[.int .i64 dd, .int .i64 1, .int .i64 (A : Int)] wr fun e w' => e = .returned (.bool true) ∧ w' = wr) := wiIn_tk _ _ _ _ (by omega) (by omega)
        clear hd1 hd2
        go_wp2_with fail
        refine HW1.out.mono ?_
        rintro e w5 ⟨rfl, hw5⟩
        replace hw5 := hw5.symm
        subst hw5
        go_wp2_with fail
        refine HW2.out.mono ?_
        rintro e w6 ⟨rfl, hw6⟩
        replace hw6 := hw6.symm
        subst hw6
        go_wp2_with fail
        go_roundw
        case rel => exact ⟨A + av, k + 1, by omega, by omega, by go_num, by go_num, HDR2, trivial⟩
        case measure => simp [intOf]; omega
    · have hki : ¬ (k : Int) < (L : Int) := by omega
      have hLsi : (L : Int) ≤ (s.size : Int) := by omega
      clear HDR
      go_wp2_with fail
      refine (HOU.out _ T4.out).mono ?_
      rintro e w7 ⟨rfl, b7⟩
      have HB7 : Hid (Below w.heap.size w w7) := HB4.out.trans (b7.mono HB4.out.size)
      clear b7 HB4 T4
      go_wp2_with fail
      go_ret
      exact ⟨rfl, HB7.out⟩
end Go.Proofs.Ytmfnepibhhhdcaa
