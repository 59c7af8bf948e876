/- Texts laid together: NfSym, NfRun, NfLens, NfLol, NfBody, NsStored, NsCopy, NsBody, NfPlain, NfFixed, DfSignS, TySpec. -/
import Derived.Test.YthfdnloeicbgkaaKFInflatex0
import Derived.Test.YthfdnloeicbgkaaVFInflateDfRuleI
import Derived.Deep.RegionHeld
import Derived.Deep.Cut
import Derived.Deep.CutRange
import Derived.Test.YthfdnloeicbgkaaVFInflateDfRuleS
import Derived.Test.YthfdnloeicbgkaaVFInflateBpPut
import Derived.Test.YthfdnloeicbgkaaVFInflateTkSpec
/- The next symbol of a code, a size, a distance, as the inflater reads them. -/
namespace Go.Proofs.Ythfdnloeicbgkaa
open Go.RowKit

/-- a code's tree in memory, its top in block B -/
def Tree (w : World) (R B : Nat) (zs : List Int) : Prop := ∃ lo N, R < lo ∧ Tri w lo N (Gt.S zs zs.length) ∧ N 0 0 = some B
theorem Tree.inF {R base B : Nat} {zs : List Int} {a b : World} (t : Tree a R B zs) (h : InF R base a b) : Tree b R B zs := by
  obtain ⟨lo, N, h1, h2, h3⟩ := t
  exact ⟨lo, N, h1, h.tri h2 h1, h3⟩
theorem Tree.kept {R B : Nat} {zs : List Int} {a b : World} (t : Tree a R B zs) (h : Below a.heap.size a b) : Tree b R B zs := t.inF (InF.of_below (base := 0) h)
theorem Tree.drewN {R B : Nat} {zs : List Int} {a : World} (t : Tree a R B zs) (n : Nat) : Tree (a.drewN n) R B zs := t.inF ((InF.refl R 0 a).drewN n)
theorem S_top {zs : List Int} (hg : GoodC zs) : Gt.S zs zs.length 0 0 = -1 := Gt.S_miss (Nat.le_refl _) (fun i hi => (hg.le i hi).2) hg.num (fun _ _ g => by have := g.pos; omega)

/-- how symbol ends -/
def SymEnd (w : World) (R base : Nat) (s : ByteArray) (p : Nat) (l : List UInt8) (lim : Nat) (vk fx : Value) (zs : List Int) (e : Ending) (w' : World) : Prop :=
  (∃ y q, Nf.sym s zs p = .ok (y, q) ∧ e = .returned (.int .i64 (y : Int)) ∧ In w' R base s q l lim vk fx ∧ InF R base w w') ∨ Fails (Nf.sym s zs p) R base w e w'

set_option maxHeartbeats 2000000 in
theorem nfSymbol_any (R base p lim B : Nat) (l : List UInt8) (vk fx : Value) (s : ByteArray) (zs : List Int) (w : World) (h : In w R base s p l lim vk fx) (hs : s.size ≤ 9000) (hp : p ≤ 8 * s.size) (ht : Tree w R B zs) (hg : GoodC zs) :
    Calls Try.prog 132 #[.pointer (some ⟨R, 0, none⟩), .pointer (some ⟨B, 0, none⟩)] w (SymEnd w R base s p l lim vk fx zs) := by
  have HI : Hid (In w R base s p l lim vk fx ∧ Tree w R B zs ∧ GoodC zs) := ⟨h, ht, hg⟩
  have HRM : Hid (Calls Try.prog 145 #[.pointer (some ⟨R, 0, none⟩)] w fun e w' => e = .returned (.int .i64 (8 * (s.size : Int) - (p : Int))) ∧ ∃ m, w' = w.drewN m) := room_any R p false s w h.reads hs (by omega)
  obtain ⟨M, hM⟩ : ∃ M : Int, M = 8 * (s.size : Int) - (p : Int) := ⟨_, rfl⟩
  rw [← hM] at HRM
  have HM : Hid (M = 8 * (s.size : Int) - (p : Int)) := hM
  clear h ht hg hM
  go_enter Try.func132, Try.ntmps132
  go_wp2_with fail
  refine HRM.out.mono ?_
  rintro e w1 ⟨rfl, m, hw1⟩
  have HI1 : Hid (In w1 R base s p l lim vk fx ∧ InF R base w w1) := ⟨by rw [hw1]; exact HI.out.1.drewN m, by rw [hw1]; exact (InF.refl _ _ _).drewN m⟩
  have HFD : Hid (Calls Try.prog 146 #[.pointer (some ⟨B, 0, none⟩), .iface 35 (.pointer (some ⟨R, 0, none⟩))] w1 (NFound w1 R base s l lim vk fx (Gt.get zs (bitAt s false) (8 * s.size) p))) := by
    obtain ⟨lo, N, h1, h2, h3⟩ := HI.out.2.1.drewN m
    rw [← hw1] at h2
    exact nfFind_any R B lo base p lim l vk fx s N _ w1 h2 h3 (S_top HI.out.2.2) HI1.out.1 h1 hs hp
  clear hw1 HRM
  go_wp2_with fail
  refine HFD.out.mono ?_
  rintro e w2 ⟨hO, (⟨hno, rfl⟩ | ⟨y, q, hyes, rfl, hI2⟩)⟩
  · have HF2 : Hid (InF R base w w2) := HI1.out.2.trans (InF.of_only hO)
    have HNO : Hid (Gt.get zs (bitAt s false) (8 * s.size) p = none) := hno
    clear hno hO HFD
    by_cases hr : 8 * s.size - p < 15
    · have hMi : ¬ M ≥ 15 := by have := HM.out; omega
      have HF : Hid (SymEnd w R base s p l lim vk fx zs (fault 2) w2) := .inr (Fails.mk (c := 2) (Nf.sym_short HNO.out hr) (by decide) HF2.out)
      go_wp2_with fail
      refine (insist_not _ 2 _ (by first | rfl | simp <;> omega)).mono ?_
      rintro e w3 ⟨rfl, hw3⟩
      subst hw3
      unfold fault
      go_wp2_with fail
      exact ⟨rfl, HF.out⟩
    · have hMi : M ≥ 15 := by have := HM.out; omega
      have HF : Hid (SymEnd w R base s p l lim vk fx zs (fault 1) w2) := .inr (Fails.mk (c := 1) (Nf.sym_bad HNO.out hr) (by decide) HF2.out)
      go_wp2_with fail
      refine (insist_of _ 2 _ (by first | rfl | simp <;> omega)).mono ?_
      rintro e w3 ⟨rfl, hw3⟩
      subst hw3
      go_wp2_with fail
      refine (insist_no 1 _).mono ?_
      rintro e w4 ⟨rfl, hw4⟩
      subst hw4
      unfold fault
      go_wp2_with fail
      exact ⟨rfl, HF.out⟩
  · have HF : Hid (SymEnd w R base s p l lim vk fx zs (.returned (.int .i64 (y : Int))) w2) := .inl ⟨y, q, Nf.sym_some hyes, rfl, hI2, HI1.out.2.trans (InF.of_only hO)⟩
    have hyi : ¬ (y : Int) < 0 := by omega
    clear hyes hI2 hO HFD
    go_wp2_with fail
    go_ret
    exact HF.out

/-- how a size or a distance ends -/
def ValEnd (r : Except Nat (Nat × Nat)) (w : World) (R base : Nat) (s : ByteArray) (l : List UInt8) (lim : Nat) (vk fx : Value) (e : Ending) (w' : World) : Prop :=
  (∃ y q, r = .ok (y, q) ∧ e = .returned (.int .i64 (y : Int)) ∧ In w' R base s q l lim vk fx ∧ InF R base w w') ∨ Fails r R base w e w'

set_option maxHeartbeats 2000000 in
theorem nfSize_any (R base p lim k y : Nat) (l : List UInt8) (vk fx : Value) (s : ByteArray) (w : World) (h : In w R base s p l lim vk fx) (hs : s.size ≤ 9000) (hp : p ≤ 8 * s.size) (hk : k < 29) (hy : y = 257 + k) :
    Calls Try.prog 133 #[.pointer (some ⟨R, 0, none⟩), .int .i64 (y : Int)] w (ValEnd (Nf.size s k p) w R base s l lim vk fx) := by
  have hb := Df.szN_all k hk
  have HSZ : Hid (Calls Try.prog 122 #[.int .i64 (k : Int)] w fun e w' => e = .returned (.tuple #[.int .i64 (((Df.szN k).1 : Nat) : Int), .int .i64 (((Df.szN k).2 : Nat) : Int)]) ∧ w' = w) := sizeRule_any k hk w
  have HNM : Hid (Calls Try.prog 63 #[.pointer (some ⟨R, 0, none⟩), .int .i64 (((Df.szN k).2 : Nat) : Int)] w (NumEnd w R base s p (Df.szN k).2 l lim vk fx)) := nfNumber_any R p (Df.szN k).2 base lim l vk fx s w h hs hp (by omega)
  obtain ⟨L, hL⟩ : ∃ L, L = (Df.szN k).1 := ⟨_, rfl⟩
  obtain ⟨X, hX⟩ : ∃ X, X = (Df.szN k).2 := ⟨_, rfl⟩
  have HV : Hid (∀ v, Nf.nxt s X p = .ok v → Nf.size s k p = .ok (L + v, p + X) ∧ v < 65536) := fun v hv => by
    rw [hX] at hv
    have h1 := (Nf.nxt_ok hv).2.2
    have h2 : 2 ^ (Df.szN k).2 ≤ 2 ^ 5 := Nat.pow_le_pow_right (by omega) hb.2.2
    rw [hL, hX]; exact ⟨Nf.size_ok hv, by omega⟩
  have HC : Hid (∀ c, Nf.nxt s X p = .error c → Nf.size s k p = .error c) := fun c hv => by rw [hX] at hv; exact Nf.size_no hv
  rw [← hL, ← hX] at hb HSZ
  rw [← hX] at HNM
  have hki : (y : Int) - 257 = (k : Int) := by omega
  have hkw : IntKind.i64.wrap ((y : Int) - 257) = (k : Int) := by rw [hki]; exact wrap_i64_nat k (by omega)
  clear hL hX h hy
  go_enter Try.func133, Try.ntmps133
  go_wp2_with fail
  refine HSZ.out.mono ?_
  rintro e w1 ⟨rfl, hw1⟩
  replace hw1 := hw1.symm
  subst hw1
  go_wp2_with fail
  refine HNM.out.mono ?_
  rintro e w2 (⟨v, hv, rfl, h2, h3⟩ | ⟨hv, rfl, h3⟩)
  · have hvb := (HV.out v hv).2
    obtain ⟨Y, hY⟩ : ∃ Y : Nat, Y = L + v := ⟨_, rfl⟩
    have hYi : (L : Int) + (v : Int) = (Y : Int) := by omega
    have hYw : IntKind.i64.wrap ((L : Int) + (v : Int)) = (Y : Int) := by rw [hYi]; exact wrap_i64_nat Y (by omega)
    have HF : Hid (ValEnd (Nf.size s k p) w R base s l lim vk fx (.returned (.int .i64 (Y : Int))) w2) := .inl ⟨Y, p + X, by rw [hY]; exact (HV.out v hv).1, rfl, h2, InF.of_only h3⟩
    clear hv h2 h3 HNM HSZ hY
    go_wp2_with fail
    go_ret
    exact HF.out
  · have HF : Hid (ValEnd (Nf.size s k p) w R base s l lim vk fx (fault 2) w2) := .inr (Fails.mk (c := 2) (HC.out 2 hv) (by decide) h3)
    clear hv h3 HNM HSZ
    unfold fault
    go_wp2_with fail
    exact ⟨rfl, HF.out⟩

set_option maxHeartbeats 2000000 in
theorem nfDist_any (R base p lim B : Nat) (l : List UInt8) (vk fx : Value) (s : ByteArray) (zs : List Int) (w : World) (h : In w R base s p l lim vk fx) (hs : s.size ≤ 9000) (hp : p ≤ 8 * s.size) (ht : Tree w R B zs) (hg : GoodC zs) :
    Calls Try.prog 134 #[.pointer (some ⟨R, 0, none⟩), .pointer (some ⟨B, 0, none⟩)] w (ValEnd (Nf.dist s zs p) w R base s l lim vk fx) := by
  have HSY : Hid (Calls Try.prog 132 #[.pointer (some ⟨R, 0, none⟩), .pointer (some ⟨B, 0, none⟩)] w (SymEnd w R base s p l lim vk fx zs)) := nfSymbol_any R base p lim B l vk fx s zs w h hs hp ht hg
  have HG : Hid (GoodC zs) := hg
  clear h ht hg
  go_enter Try.func134, Try.ntmps134
  go_wp2_with fail
  refine HSY.out.mono ?_
  rintro e w1 (⟨y, q, hy, rfl, h2, h3⟩ | ⟨c, hc, hc0, rfl, h3⟩)
  · by_cases hy30 : y < 30
    · have hyi : (y : Int) < 30 := by omega
      have hb := Df.dsN_all y hy30
      have hql := (Nf.sym_ok HG.out hy).2.1
      have HSZ : Hid (∀ w : World, Calls Try.prog 123 #[.int .i64 (y : Int)] w fun e w' => e = .returned (.tuple #[.int .i64 (((Df.dsN y).1 : Nat) : Int), .int .i64 (((Df.dsN y).2 : Nat) : Int)]) ∧ w' = w) := fun w => distRule_any y hy30 w
      have HNM : Hid (Calls Try.prog 63 #[.pointer (some ⟨R, 0, none⟩), .int .i64 (((Df.dsN y).2 : Nat) : Int)] w1 (NumEnd w1 R base s q (Df.dsN y).2 l lim vk fx)) := nfNumber_any R q (Df.dsN y).2 base lim l vk fx s w1 h2 hs hql (by omega)
      have HV : Hid (∀ v, Nf.nxt s (Df.dsN y).2 q = .ok v → Nf.dist s zs p = .ok ((Df.dsN y).1 + v, q + (Df.dsN y).2) ∧ v < 65536) := fun v hv => by
        have h1 := (Nf.nxt_ok hv).2.2
        have h2 : 2 ^ (Df.dsN y).2 ≤ 2 ^ 13 := Nat.pow_le_pow_right (by omega) hb.2.2
        exact ⟨Nf.dist_ok hy hy30 hv, by omega⟩
      have HC : Hid (∀ c, Nf.nxt s (Df.dsN y).2 q = .error c → Nf.dist s zs p = .error c) := fun c hv => Nf.dist_short hy hy30 hv
      have H3 : Hid (InF R base w w1) := h3
      generalize (Df.dsN y).1 = L at *
      generalize (Df.dsN y).2 = X at *
      clear hy h2 h3 HSY
      go_wp2_with fail
      refine (insist_of _ 1 _ (by first | rfl | simp <;> omega)).mono ?_
      rintro e w2 ⟨rfl, hw2⟩
      replace hw2 := hw2.symm
      subst hw2
      go_wp2_with fail
      refine (HSZ.out _).mono ?_
      rintro e w2 ⟨rfl, hw2⟩
      replace hw2 := hw2.symm
      subst hw2
      go_wp2_with fail
      refine HNM.out.mono ?_
      rintro e w2 (⟨v, hv, rfl, h2, h3⟩ | ⟨hv, rfl, h3⟩)
      · have hvb := (HV.out v hv).2
        obtain ⟨Y, hY⟩ : ∃ Y : Nat, Y = L + v := ⟨_, rfl⟩
        have hYi : (L : Int) + (v : Int) = (Y : Int) := by omega
        have hYw : IntKind.i64.wrap ((L : Int) + (v : Int)) = (Y : Int) := by rw [hYi]; exact wrap_i64_nat Y (by omega)
        have HF : Hid (ValEnd (Nf.dist s zs p) w R base s l lim vk fx (.returned (.int .i64 (Y : Int))) w2) := .inl ⟨Y, q + X, by rw [hY]; exact (HV.out v hv).1, rfl, h2, H3.out.trans (InF.of_only h3)⟩
        clear hv h2 h3 HNM HSZ hY
        go_wp2_with fail
        go_ret
        exact HF.out
      · have HF : Hid (ValEnd (Nf.dist s zs p) w R base s l lim vk fx (fault 2) w2) := .inr (Fails.mk (c := 2) (HC.out 2 hv) (by decide) (H3.out.trans h3))
        clear hv h3 HNM HSZ
        unfold fault
        go_wp2_with fail
        exact ⟨rfl, HF.out⟩
    · have hyi : ¬ (y : Int) < 30 := by omega
      have HF : Hid (ValEnd (Nf.dist s zs p) w R base s l lim vk fx (fault 1) w1) := .inr (Fails.mk (c := 1) (Nf.dist_bad hy hy30) (by decide) h3)
      clear hy h2 h3 HSY
      go_wp2_with fail
      refine (insist_not _ 1 _ (by first | rfl | simp <;> omega)).mono ?_
      rintro e w2 ⟨rfl, hw2⟩
      replace hw2 := hw2.symm
      subst hw2
      unfold fault
      go_wp2_with fail
      exact ⟨rfl, HF.out⟩
  · have HF : Hid (ValEnd (Nf.dist s zs p) w R base s l lim vk fx (fault (c : Int)) w1) := .inr (Fails.mk (Nf.dist_no hc) hc0 h3)
    clear hc h3 HSY
    unfold fault
    go_wp2_with fail
    exact ⟨rfl, HF.out⟩
end Go.Proofs.Ythfdnloeicbgkaa

/- A length, and how many times it comes. -/
namespace Go.Proofs.Ythfdnloeicbgkaa
open Go.RowKit

/-- how lengthRun ends -/
def RunEnd (w : World) (R base : Nat) (s : ByteArray) (p : Nat) (l : List UInt8) (lim : Nat) (vk fx : Value) (zs kn : List Int) (e : Ending) (w' : World) : Prop :=
  (∃ (v : Int) (t q : Nat), Nf.run s zs p kn = .ok ((v, t), q) ∧ e = .returned (.tuple #[.int .i64 v, .int .i64 (t : Int)]) ∧ In w' R base s q l lim vk fx ∧ InF R base w w') ∨ Fails (Nf.run s zs p kn) R base w e w'

/-- the last number of a row -/
theorem last_at {w : World} {B n cap : Nat} {ao : Option Addr} {l : List Int} (h : OwnI w B (.slice ao n cap) n l) (hn : 0 < n) : ∃ g, ao = some ⟨g, 0, none⟩ ∧ B ≤ g ∧ g < w.heap.size ∧ w.cell? ⟨g, n - 1, none⟩ = some (.int .i64 (l.getD (l.length - 1) 0)) := by
  have hl := h.len
  obtain ⟨ao', cap', e, ho⟩ := h.owns
  cases e
  rcases ho with e | ⟨b, rfl, hB, hb, hc⟩
  · subst e; simp at hl; omega
  · refine ⟨b, rfl, hB, hb, ?_⟩
    have h1 := (hc (n - 1) (by omega)).1
    rw [h1, List.getD_eq_getElem?_getD, List.getElem?_eq_getElem (by omega)]
    subst hl
    rfl

set_option linter.unusedSimpArgs false in
set_option maxHeartbeats 4000000 in
set_option maxRecDepth 20000 in
theorem nfRun_any (R base p lim B lb n cap : Nat) (ao : Option Addr) (l : List UInt8) (vk fx : Value) (s : ByteArray) (zs kn : List Int) (w : World) (h : In w R base s p l lim vk fx) (hs : s.size ≤ 9000) (hp : p ≤ 8 * s.size) (ht : Tree w R B zs) (hg : GoodC zs) (hk : OwnI w lb (.slice ao n cap) n kn) (hlb : R < lb) (hn : n ≤ 1000) :
    Calls Try.prog 137 #[.pointer (some ⟨R, 0, none⟩), .pointer (some ⟨B, 0, none⟩), .slice ao n cap] w (RunEnd w R base s p l lim vk fx zs kn) := by
  have HSY : Hid (Calls Try.prog 132 #[.pointer (some ⟨R, 0, none⟩), .pointer (some ⟨B, 0, none⟩)] w (SymEnd w R base s p l lim vk fx zs)) := nfSymbol_any R base p lim B l vk fx s zs w h hs hp ht hg
  have HG : Hid (GoodC zs ∧ R < lb ∧ OwnI w lb (.slice ao n cap) n kn) := ⟨hg, hlb, hk⟩
  have HL : Hid (kn.length = n) := hk.len
  clear h ht hg hk hlb
  go_enter Try.func137, Try.ntmps137
  go_wp2_with fail
  refine HSY.out.mono ?_
  rintro e w1 (⟨y, q, hy, rfl, h2, h3⟩ | ⟨c, hc, hc0, rfl, h3⟩)
  · have HY : Hid (Nf.sym s zs p = .ok (y, q)) := hy
    have hql := (Nf.sym_ok HG.out.1 hy).2.1
    have HW : Hid (In w1 R base s q l lim vk fx ∧ InF R base w w1) := ⟨h2, h3⟩
    have HNM : Hid (∀ (S : Nat) (W : World), S ≤ 16 → In W R base s q l lim vk fx → Calls Try.prog 63 #[.pointer (some ⟨R, 0, none⟩), .int .i64 (S : Int)] W (NumEnd W R base s q S l lim vk fx)) := fun S W hS hW => nfNumber_any R q S base lim l vk fx s W hW hs hql hS
    clear hy h2 h3 HSY
    by_cases h16 : y = 16
    · subst h16
      by_cases hn0 : 0 < n
      · have hni : (n : Int) > 0 := by omega
        obtain ⟨g, rfl, hgB, hgl, hlast⟩ := last_at (HW.out.2.ownI HG.out.2.2 HG.out.2.1) hn0
        obtain ⟨J, hJ⟩ : ∃ J, J = n - 1 := ⟨_, rfl⟩
        obtain ⟨z, hz⟩ : ∃ z, z = kn.getD (kn.length - 1) 0 := ⟨_, rfl⟩
        rw [← hJ, ← hz] at hlast
        have HZ : Hid (z = kn.getD (kn.length - 1) 0 ∧ kn.length ≠ 0) := ⟨hz, by rw [HL.out]; omega⟩
        have hJi : (n : Int) - 1 = (J : Int) := by omega
        have hJw : IntKind.i64.wrap ((n : Int) - 1) = (J : Int) := by rw [hJi]; exact wrap_i64_nat J (by omega)
        have hJw2 : IntKind.i64.wrap (J : Int) = (J : Int) := wrap_i64_nat J (by omega)
        have hJn : J < n := by omega
        have hJni : (J : Int) < (n : Int) := by omega
        have hgR : g ≠ R := by have := HG.out.2.1; omega
        clear hz hJ
        go_wp2_with fail
        refine (insist_of _ 1 _ (by first | rfl | simp <;> omega)).mono ?_
        rintro e w2 ⟨rfl, hw2⟩
        replace hw2 := hw2.symm
        subst hw2
        go_upto_region 6 with fail
        have hQ : w1.cell? ⟨g, J, none⟩ = some (.int .i64 z) := hlast
        refine wp_region_held_drew (S := fun w' => w'.cell? ⟨g, J, none⟩ = some (.int .i64 z)) (by kernel_rfl) hQ (fun hHeld => ?_)
        refine wpAnyH_take (i := 0) (v := .slice (some ⟨g, 0, none⟩) n cap) rfl (by kernel_rfl) (by kernel_rfl) (by kernel_rfl) (fun _ _ _ h => h) (Or.inl ⟨by rfl, ?_⟩) hHeld ?_
        · intro w' hSw
          go_simp
        try simp only [List.getElem_toArray, List.getElem_cons_succ, List.getElem_cons_zero, Act.put, List.setIfInBounds_toArray, List.set_cons_zero, List.set_cons_succ]
        refine wpAnyH_take (i := 1) (v := .slice (some ⟨g, 0, none⟩) n cap) rfl (by kernel_rfl) (by kernel_rfl) (by kernel_rfl) (fun _ _ _ h => h) (Or.inl ⟨by rfl, ?_⟩) hHeld ?_
        · intro w' hSw
          go_simp
        try simp only [List.getElem_toArray, List.getElem_cons_succ, List.getElem_cons_zero, Act.put, List.setIfInBounds_toArray, List.set_cons_zero, List.set_cons_succ]
        refine wpAnyH_take (i := 2) (v := .int .i64 (n : Int)) rfl (by kernel_rfl) (by kernel_rfl) (by kernel_rfl) (fun _ _ _ h => h) (Or.inl ⟨by rfl, ?_⟩) hHeld ?_
        · intro w' hSw
          go_simp
        try simp only [List.getElem_toArray, List.getElem_cons_succ, List.getElem_cons_zero, Act.put, List.setIfInBounds_toArray, List.set_cons_zero, List.set_cons_succ]
        refine wpAnyH_take (i := 3) (v := .int .i64 (J : Int)) rfl (by kernel_rfl) (by kernel_rfl) (by kernel_rfl) (fun _ _ _ h => h) (Or.inl ⟨by rfl, ?_⟩) hHeld ?_
        · intro w' hSw
          go_simp
        try simp only [List.getElem_toArray, List.getElem_cons_succ, List.getElem_cons_zero, Act.put, List.setIfInBounds_toArray, List.set_cons_zero, List.set_cons_succ]
        refine wpAnyH_take (i := 4) (v := .pointer (some ⟨g, J, none⟩)) rfl (by kernel_rfl) (by kernel_rfl) (by kernel_rfl) (fun _ _ _ h => h) (Or.inl ⟨by rfl, ?_⟩) hHeld ?_
        · intro w' hSw
          go_simp
        try simp only [List.getElem_toArray, List.getElem_cons_succ, List.getElem_cons_zero, Act.put, List.setIfInBounds_toArray, List.set_cons_zero, List.set_cons_succ]
        refine wpAnyH_take (i := 5) (v := .int .i64 z) rfl (by kernel_rfl) (by kernel_rfl) (by kernel_rfl) (fun _ _ _ h => h) (Or.inl ⟨by rfl, ?_⟩) hHeld ?_
        · intro w' hSw
          go_simp
        try simp only [List.getElem_toArray, List.getElem_cons_succ, List.getElem_cons_zero, Act.put, List.setIfInBounds_toArray, List.set_cons_zero, List.set_cons_succ]
        refine wpAnyH_take (i := 6) (v := .pointer (some ⟨R, 0, none⟩)) rfl (by kernel_rfl) (by kernel_rfl) (by kernel_rfl) (fun _ _ _ h => h) (Or.inl ⟨by rfl, ?_⟩) hHeld ?_
        · intro w' hSw
          go_simp
        try simp only [List.getElem_toArray, List.getElem_cons_succ, List.getElem_cons_zero, Act.put, List.setIfInBounds_toArray, List.set_cons_zero, List.set_cons_succ]
        refine wpAnyH_take (i := 7) (v := .pointer (some ⟨R, 0, none⟩)) rfl (by kernel_rfl) (by kernel_rfl) (by kernel_rfl) (fun _ _ _ h => h) (Or.inl ⟨by rfl, ?_⟩) hHeld ?_
        · intro w' hSw
          go_simp
        try simp only [List.getElem_toArray, List.getElem_cons_succ, List.getElem_cons_zero, Act.put, List.setIfInBounds_toArray, List.set_cons_zero, List.set_cons_succ]
        refine wpAnyH_take (i := 8) (v := .pointer (some ⟨R, 0, none⟩)) rfl (by kernel_rfl) (by kernel_rfl) (by kernel_rfl) (fun _ _ _ h => h) (Or.inl ⟨by rfl, ?_⟩) hHeld ?_
        · intro w' hSw
          go_simp
        try simp only [List.getElem_toArray, List.getElem_cons_succ, List.getElem_cons_zero, Act.put, List.setIfInBounds_toArray, List.set_cons_zero, List.set_cons_succ]
        refine wpAnyH_ready (rs := [9]) (by kernel_rfl) (by simp) ?_
        refine AllReadyH.cons rfl (fun K hK => ?_) AllReadyH.nil
        go_simp
        refine (HNM.out 2 _ (by omega) HW.out.1.drew).mono ?_
        rintro e w2 (⟨v, hv, rfl, h2, h3⟩ | ⟨hv, rfl, h3⟩)
        · have hQ2 : w2.cell? ⟨g, J, none⟩ = some (.int .i64 z) := (h3.cell g J hgl hgR).trans hlast
          have hvb := (Nf.nxt_ok hv).2.2
          obtain ⟨Y, hY⟩ : ∃ Y : Nat, Y = 3 + v := ⟨_, rfl⟩
          have hYi : 3 + (v : Int) = (Y : Int) := by omega
          have hYw : IntKind.i64.wrap (3 + (v : Int)) = (Y : Int) := by rw [hYi]; exact wrap_i64_nat Y (by omega)
          have hYw2 : IntKind.i64.wrap (Y : Int) = (Y : Int) := wrap_i64_nat Y (by omega)
          have HF : Hid (RunEnd w R base s p l lim vk fx zs kn (.returned (.tuple #[.int .i64 z, .int .i64 (Y : Int)])) w2) := .inl ⟨z, Y, q + 2, by rw [hY, HZ.out.1]; exact Nf.run_16 HY.out HZ.out.2 hv, rfl, h2, (HW.out.2.drewN 1).trans (InF.of_only h3)⟩
          clear hv h2 h3 HNM hY HW HY HZ
          refine hK.out _ _ hQ2 (fun hHeld => ?_)
          clear hK K
          try simp only [List.getElem_toArray, List.getElem_cons_succ, List.getElem_cons_zero, Act.put, List.setIfInBounds_toArray, List.set_cons_zero, List.set_cons_succ]
          refine wpAnyH_take (i := 10) (v := .int .i64 (Y : Int)) rfl (by kernel_rfl) (by kernel_rfl) (by kernel_rfl) (fun _ _ _ h => h) (Or.inl ⟨by rfl, ?_⟩) hHeld ?_
          · intro w' hSw
            go_simp
          try simp only [List.getElem_toArray, List.getElem_cons_succ, List.getElem_cons_zero, Act.put, List.setIfInBounds_toArray, List.set_cons_zero, List.set_cons_succ]
          refine wpAnyH_take (i := 11) (v := .int .i64 z) rfl (by kernel_rfl) (by kernel_rfl) (by kernel_rfl) (fun _ _ _ h => h) (Or.inl ⟨by rfl, ?_⟩) hHeld ?_
          · intro w' hSw
            go_simp
          try simp only [List.getElem_toArray, List.getElem_cons_succ, List.getElem_cons_zero, Act.put, List.setIfInBounds_toArray, List.set_cons_zero, List.set_cons_succ]
          refine wpAnyH_take (i := 12) (v := .int .i64 (Y : Int)) rfl (by kernel_rfl) (by kernel_rfl) (by kernel_rfl) (fun _ _ _ h => h) (Or.inl ⟨by rfl, ?_⟩) hHeld ?_
          · intro w' hSw
            go_simp
          try simp only [List.getElem_toArray, List.getElem_cons_succ, List.getElem_cons_zero, Act.put, List.setIfInBounds_toArray, List.set_cons_zero, List.set_cons_succ]
          refine wpAnyH_done (by kernel_rfl) ?_ _
          try simp only [List.getElem_toArray, List.getElem_cons_succ, List.getElem_cons_zero, Act.put, List.setIfInBounds_toArray, List.set_cons_zero, List.set_cons_succ]
          go_wp2_with fail
          refine bodyPost_ret (v := .tuple #[.int .i64 z, .int .i64 (Y : Int)]) (by simp [results, Try.results137, go_sem]) rfl HF.out
        · have HF : Hid (RunEnd w R base s p l lim vk fx zs kn (fault 2) w2) := .inr (Fails.mk (c := 2) (Nf.run_16s HY.out HZ.out.2 hv) (by decide) ((HW.out.2.drewN 1).trans h3))
          clear hv h3 HNM HW HY HZ
          unfold fault
          go_wp2_with fail
          exact ⟨rfl, HF.out⟩
      · have hni : ¬ (n : Int) > 0 := by omega
        have HF : Hid (RunEnd w R base s p l lim vk fx zs kn (fault 1) w1) := .inr (Fails.mk (c := 1) (Nf.run_16n HY.out (by rw [HL.out]; omega)) (by decide) HW.out.2)
        go_wp2_with fail
        refine (insist_not _ 1 _ (by first | rfl | simp <;> omega)).mono ?_
        rintro e w2 ⟨rfl, hw2⟩
        replace hw2 := hw2.symm
        subst hw2
        unfold fault
        go_wp2_with fail
        exact ⟨rfl, HF.out⟩
    · have h16i : ¬ (y : Int) = 16 := by omega
      by_cases h17 : y = 17
      · subst h17
        go_wp2_with fail
        refine (HNM.out 3 w1 (by omega) HW.out.1).mono ?_
        rintro e w2 (⟨v, hv, rfl, h2, h3⟩ | ⟨hv, rfl, h3⟩)
        · have hvb := (Nf.nxt_ok hv).2.2
          obtain ⟨Y, hY⟩ : ∃ Y : Nat, Y = 3 + v := ⟨_, rfl⟩
          have hYi : 3 + (v : Int) = (Y : Int) := by omega
          have hYw : IntKind.i64.wrap (3 + (v : Int)) = (Y : Int) := by rw [hYi]; exact wrap_i64_nat Y (by omega)
          have HF : Hid (RunEnd w R base s p l lim vk fx zs kn (.returned (.tuple #[.int .i64 0, .int .i64 (Y : Int)])) w2) := .inl ⟨0, Y, q + 3, by rw [hY]; exact Nf.run_17 HY.out hv, rfl, h2, HW.out.2.trans (InF.of_only h3)⟩
          clear hv h2 h3 HNM hY HW HY
          go_wp2_with fail
          refine bodyPost_ret (v := .tuple #[.int .i64 0, .int .i64 (Y : Int)]) (by simp [results, Try.results137, go_sem]) rfl HF.out
        · have HF : Hid (RunEnd w R base s p l lim vk fx zs kn (fault 2) w2) := .inr (Fails.mk (c := 2) (Nf.run_17s HY.out hv) (by decide) (HW.out.2.trans h3))
          clear hv h3 HNM HW HY
          unfold fault
          go_wp2_with fail
          exact ⟨rfl, HF.out⟩
      · have h17i : ¬ (y : Int) = 17 := by omega
        by_cases h18 : y = 18
        · subst h18
          go_wp2_with fail
          refine (HNM.out 7 w1 (by omega) HW.out.1).mono ?_
          rintro e w2 (⟨v, hv, rfl, h2, h3⟩ | ⟨hv, rfl, h3⟩)
          · have hvb := (Nf.nxt_ok hv).2.2
            obtain ⟨Y, hY⟩ : ∃ Y : Nat, Y = 11 + v := ⟨_, rfl⟩
            have hYi : 11 + (v : Int) = (Y : Int) := by omega
            have hYw : IntKind.i64.wrap (11 + (v : Int)) = (Y : Int) := by rw [hYi]; exact wrap_i64_nat Y (by omega)
            have HF : Hid (RunEnd w R base s p l lim vk fx zs kn (.returned (.tuple #[.int .i64 0, .int .i64 (Y : Int)])) w2) := .inl ⟨0, Y, q + 7, by rw [hY]; exact Nf.run_18 HY.out hv, rfl, h2, HW.out.2.trans (InF.of_only h3)⟩
            clear hv h2 h3 HNM hY HW HY
            go_wp2_with fail
            refine bodyPost_ret (v := .tuple #[.int .i64 0, .int .i64 (Y : Int)]) (by simp [results, Try.results137, go_sem]) rfl HF.out
          · have HF : Hid (RunEnd w R base s p l lim vk fx zs kn (fault 2) w2) := .inr (Fails.mk (c := 2) (Nf.run_18s HY.out hv) (by decide) (HW.out.2.trans h3))
            clear hv h3 HNM HW HY
            unfold fault
            go_wp2_with fail
            exact ⟨rfl, HF.out⟩
        · have h18i : ¬ (y : Int) = 18 := by omega
          have HF : Hid (RunEnd w R base s p l lim vk fx zs kn (.returned (.tuple #[.int .i64 (y : Int), .int .i64 1])) w1) := .inl ⟨(y : Int), 1, q, Nf.run_one HY.out (by omega), rfl, HW.out.1, HW.out.2⟩
          clear HY HW HNM
          go_wp2_with fail
          refine bodyPost_ret (v := .tuple #[.int .i64 (y : Int), .int .i64 1]) (by simp [results, Try.results137, go_sem]) rfl HF.out
  · have HF : Hid (RunEnd w R base s p l lim vk fx zs kn (fault (c : Int)) w1) := .inr (Fails.mk (Nf.run_no hc) hc0 h3)
    clear hc h3 HSY
    unfold fault
    go_wp2_with fail
    exact ⟨rfl, HF.out⟩
end Go.Proofs.Ythfdnloeicbgkaa

/- So many lengths, as the inflater reads them. -/
namespace Go.Proofs.Ythfdnloeicbgkaa
open Go.RowKit

theorem isRow_cells {T : TypeId} {o : Option Obj} (h : isRow T o) : ∃ c z, o = some (.cells c T z) := by
  match o, h with
  | some (.cells c T' z), h => exact ⟨c, z, by rw [show T' = T from h]⟩
theorem OwnI.away {w : World} {B n k : Nat} {v : Value} {l : List Int} {c : Array Value} {T : TypeId} {z : Nat × Nat} (h : OwnI w B v n l) (hk : w.heap[k]? = some (.cells c T z)) (hT : T ≠ 3) : v.ownBlock ≠ some k := by
  intro e
  rcases h.2 with ⟨rfl, _⟩ | ⟨g, cap, cur, rfl, _, hg, _⟩
  · cases e
  · cases e
    rw [hk] at hg
    cases hg
    exact hT rfl
/-- a row of ints has grown beside the inflater -/
theorem In.beside {w w' : World} {R base p lim lb n : Nat} {s : ByteArray} {l : List UInt8} {vk fx v : Value} {kn : List Int} (h : In w R base s p l lim vk fx) (o : OwnI w lb v n kn) (hg : ∀ k, k < w.heap.size → some k ≠ v.ownBlock → w'.heap[k]? = w.heap[k]?) : In w' R base s p l lim vk fx := by
  have hl := h.lt
  obtain ⟨vo, h1, h2⟩ := h
  refine ⟨vo, (hg R hl (fun e => o.away h1 (by decide) e.symm)).trans h1, h2.besides (fun k hk => hg k (World.ownsRow.lt (show World.ownsRow _ _ _ _ _ _ _ from h2) k hk).2 (fun e => ?_))⟩
  obtain ⟨c, z, hc⟩ := isRow_cells (h2.isRow hk).1
  exact o.away hc (by decide) e.symm
theorem InF.more {w0 w w' : World} {R base lb n g : Nat} {v : Value} {kn : List Int} (h : InF R base w0 w) (o : OwnI w lb v n kn) (hg : Grew lb w w' v g) (hb : w0.heap.size ≤ lb) : InF R base w0 w' :=
  ⟨hg.os.trans h.os, hg.tape.trans h.tape, hg.output.trans h.output, Nat.le_trans h.size hg.size, fun k hk h1 h2 => (hg.block k (Nat.lt_of_lt_of_le hk h.size) (fun e => by have := (World.ownsRow.lt (show World.ownsRow _ _ _ _ _ _ _ from o) k e.symm).1; omega)).trans (h.rest k hk h1 h2)⟩
def nfLen : Value → Nat
  | .slice _ n _ => n
  | _ => 0

/-- how lengths ends -/
def LensEnd (w : World) (R base : Nat) (s : ByteArray) (l : List UInt8) (lim : Nat) (vk fx : Value) (count : Nat) (ANS : Except Nat (List Int × Nat)) (e : Ending) (w' : World) : Prop :=
  (∃ L q a cap, ANS = .ok (L, q) ∧ e = .returned (.slice a count cap) ∧ OwnI w' w.heap.size (.slice a count cap) count L ∧ In w' R base s q l lim vk fx ∧ InF R base w w') ∨ Fails ANS R base w e w'

set_option maxHeartbeats 4000000 in
set_option maxRecDepth 20000 in
theorem nfLens_any (R base p lim B count : Nat) (l : List UInt8) (vk fx : Value) (s : ByteArray) (zs : List Int) (w : World) (h : In w R base s p l lim vk fx) (hs : s.size ≤ 9000) (hp : p ≤ 8 * s.size) (ht : Tree w R B zs) (hg : GoodC zs) (hc : count ≤ 399) :
    Calls Try.prog 105 #[.pointer (some ⟨R, 0, none⟩), .pointer (some ⟨B, 0, none⟩), .int .i64 (count : Int)] w (LensEnd w R base s l lim vk fx count (Nf.lens s zs count 400 p [])) := by
  obtain ⟨lb, hlb⟩ : ∃ lb, lb = w.heap.size := ⟨_, rfl⟩
  obtain ⟨ANS, hANS⟩ : ∃ r, r = Nf.lens s zs count 400 p [] := ⟨_, rfl⟩
  have HA : Hid (lb = w.heap.size ∧ Tree w R B zs ∧ GoodC zs ∧ R < lb) := ⟨hlb, ht, hg, by rw [hlb]; exact h.lt⟩
  have HX0 : Hid (OwnI w lb (.slice none 0 0) 0 [] ∧ In w R base s p l lim vk fx ∧ InF R base w w ∧ ANS = Nf.lens s zs count 400 p [] ∧ p ≤ 8 * s.size) := ⟨World.ownsRow_nil _ _ _ _, h, InF.refl _ _ _, hANS, hp⟩
  rw [← hANS]
  clear h ht hg hlb hANS hp
  go_enter Try.func105, Try.ntmps105
  go_wp2_with fail
  go_loopw [7] (fun o wr => ∃ (f q n cap : Nat) (ao : Option Addr) (kn : List Int), o = .slice ao n cap ∧ n ≤ count ∧ count < f + n ∧ Hid (OwnI wr lb (.slice ao n cap) n kn ∧ In wr R base s q l lim vk fx ∧ InF R base w wr ∧ ANS = Nf.lens s zs count f q kn ∧ q ≤ 8 * s.size)) (fun o _ => count - nfLen o)
  case atStart => exact ⟨400, p, 0, 0, none, [], rfl, Nat.zero_le _, by omega, HX0⟩
  case round =>
    obtain ⟨f, q, n, cap, ao, kn, rfl, hn, hf, HX⟩ := hrel
    clear HX0
    have hnl : kn.length = n := HX.out.1.len
    obtain ⟨f2, rfl⟩ : ∃ f2, f = f2 + 1 := ⟨f - 1, by omega⟩
    by_cases hlt : n < count
    · have hni : (n : Int) < (count : Int) := by omega
      have HRN : Hid (Calls Try.prog 137 #[.pointer (some ⟨R, 0, none⟩), .pointer (some ⟨B, 0, none⟩), .slice ao n cap] wr (RunEnd wr R base s q l lim vk fx zs kn)) :=
        nfRun_any R base q lim B lb n cap ao l vk fx s zs kn wr HX.out.2.1 hs HX.out.2.2.2.2 (HA.out.2.1.inF HX.out.2.2.1) HA.out.2.2.1 HX.out.1 HA.out.2.2.2 (by omega)
      have HNL : Hid (kn.length = n) := hnl
      clear hnl
      go_wp2_with fail
      refine HRN.out.mono ?_
      rintro e w2 (⟨v, t, q2, hr, rfl, h2, h3⟩ | ⟨c, hc', hc0, rfl, h3⟩)
      · have hb := Nf.run_ok HA.out.2.2.1 hr
        have hOW := h3.ownI HX.out.1 HA.out.2.2.2
        have HR2 : Hid (Nf.run s zs q kn = .ok ((v, t), q2)) := hr
        have ht1 := hb.1
        have ht2 := hb.2.1
        by_cases hov : n + t ≤ count
        · have hoi : (n : Int) + (t : Int) ≤ (count : Int) := by omega
          have HS : Hid (OwnI w2 lb (.slice ao n cap) n kn ∧ In w2 R base s q2 l lim vk fx ∧ InF R base w w2 ∧ q2 ≤ 8 * s.size) := ⟨hOW, h2, HX.out.2.2.1.trans h3, hb.2.2.2.1⟩
          have HANS2 : Hid (ANS = Nf.lens s zs count f2 q2 (kn ++ List.replicate t v)) := by
            show _ = _
            rw [HX.out.2.2.2.1, Nf.lens_more (by rw [HNL.out]; exact hlt) hr (by rw [HNL.out]; exact hov)]
          clear hr h2 h3 hb hOW HX HRN HR2
          go_wp2_with fail
          refine (insist_of _ 1 _ (by first | rfl | simp <;> omega)).mono ?_
          rintro e w3 ⟨rfl, hw3⟩
          subst hw3
          go_wp2_with fail
          go_loopw [7, 29] (fun o i wq => ∃ (c cap2 : Nat) (ao2 : Option Addr), c ≤ t ∧ i = .int .i64 (c : Int) ∧ o = .slice ao2 (n + c) cap2 ∧ Hid (OwnI wq lb (.slice ao2 (n + c) cap2) (n + c) (kn ++ List.replicate c v) ∧ In wq R base s q2 l lim vk fx ∧ InF R base w wq ∧ q2 ≤ 8 * s.size)) (fun _ i _ => t - (intOf i).toNat)
          case atStart => exact ⟨0, cap, ao, Nat.zero_le _, rfl, rfl, by rw [List.replicate_zero, List.append_nil]; exact HS⟩
          case round =>
            obtain ⟨c, cap2, ao2, hct, rfl, rfl, HQ⟩ := hrel
            clear HS
            by_cases hlc : c < t
            · have hci : (c : Int) < (t : Int) := by omega
              have hsz : lb ≤ wr.heap.size := by
                have := HQ.out.2.2.1.size
                rw [← HA.out.1] at this
                exact this
              obtain ⟨N, hN⟩ : ∃ N, N = n + c := ⟨_, rfl⟩
              rw [← hN] at HQ ⊢
              have hNb : N ≤ 1000 := by omega
              have HNN : Hid (N = n + c) := hN
              clear hN
              go_wp2_with (at_builtin; refine wpList_app1 _ (by rfl) _ _ (by rfl) lb _ N (kn ++ List.replicate c v) v (by rfl) HQ.out.1 (by rfl) (by omega) hsz ?_)
              intro g7 cap7 w7 hown7 hg7
              have HF : Hid (OwnI w7 lb (.slice (some ⟨g7, 0, none⟩) (n + (c + 1)) cap7) (n + (c + 1)) (kn ++ List.replicate (c + 1) v) ∧ In w7 R base s q2 l lim vk fx ∧ InF R base w w7 ∧ q2 ≤ 8 * s.size) :=
                ⟨by rw [List.replicate_succ', ← Nat.add_assoc, ← HNN.out]; exact hown7, HQ.out.2.1.beside HQ.out.1 hg7.block, HQ.out.2.2.1.more HQ.out.1 hg7 (by rw [HA.out.1]; exact Nat.le_refl _), HQ.out.2.2.2⟩
              have HN1 : Hid (N + 1 = n + (c + 1)) := by show _ = _; rw [HNN.out]; omega
              clear hown7 hg7 HQ HNN
              go_wp2_with fail
              go_roundw
              case rel => exact ⟨c + 1, _, _, by omega, by go_num, by rw [HN1.out], HF⟩
              case measure => simp [intOf]; omega
            · have hci : ¬ (c : Int) < (t : Int) := by omega
              have hct2 : c = t := by omega
              have HF : Hid (OwnI wr lb (.slice ao2 (n + t) cap2) (n + t) (kn ++ List.replicate t v) ∧ In wr R base s q2 l lim vk fx ∧ InF R base w wr ∧ ANS = Nf.lens s zs count f2 q2 (kn ++ List.replicate t v) ∧ q2 ≤ 8 * s.size) := by
                have h := HQ.out
                rw [hct2] at h
                exact ⟨h.1, h.2.1, h.2.2.1, HANS2.out, h.2.2.2⟩
              subst hct2
              clear HQ HANS2
              go_wp2_with fail
              go_roundw
              case rel => exact ⟨f2, q2, n + c, cap2, ao2, _, rfl, hov, by omega, HF⟩
              case measure => simp [nfLen]; omega
        · have hoi : ¬ (n : Int) + (t : Int) ≤ (count : Int) := by omega
          have HF : Hid (LensEnd w R base s l lim vk fx count ANS (fault 1) w2) := .inr (Fails.mk (c := 1) (by rw [HX.out.2.2.2.1, Nf.lens_over (by rw [HNL.out]; exact hlt) hr (by rw [HNL.out]; exact hov)]) (by decide) (HX.out.2.2.1.trans h3))
          clear hr h2 h3 hb hOW HX HRN HR2
          go_wp2_with fail
          refine (insist_not _ 1 _ (by first | rfl | simp <;> omega)).mono ?_
          rintro e w3 ⟨rfl, hw3⟩
          subst hw3
          unfold fault
          go_wp2_with fail
          exact ⟨rfl, HF.out⟩
      · have HF : Hid (LensEnd w R base s l lim vk fx count ANS (fault (c : Int)) w2) := .inr (Fails.mk (by rw [HX.out.2.2.2.1, Nf.lens_no (by rw [HNL.out]; exact hlt) hc']) hc0 (HX.out.2.2.1.trans h3))
        clear hc' h3 HX HRN
        unfold fault
        go_wp2_with fail
        exact ⟨rfl, HF.out⟩
    · have hni : ¬ (n : Int) < (count : Int) := by omega
      have hnc : n = count := by omega
      have HF : Hid (LensEnd w R base s l lim vk fx count ANS (.returned (.slice ao count cap)) wr) := .inl ⟨kn, q, ao, cap, by rw [HX.out.2.2.2.1, Nf.lens_done (by rw [hnl]; exact hlt)], rfl, by rw [← HA.out.1, ← hnc]; exact HX.out.1, HX.out.2.1, HX.out.2.2.1⟩
      subst hnc
      clear HX hnl
      go_wp2_with fail
      go_ret
      exact HF.out
end Go.Proofs.Ythfdnloeicbgkaa

/- The lengths of lengths, as the inflater reads them, and what codes a block may have. -/
namespace Go.Proofs.Ythfdnloeicbgkaa
open Go.RowKit

theorem In.setRow {w : World} {R base p lim g j : Nat} {s : ByteArray} {l : List UInt8} {vk fx v : Value} {row : List Int} (h : In w R base s p l lim vk fx) (hr : DRow w g row) : In (w.setCell ⟨g, j, none⟩ v) R base s p l lim vk fx := by
  obtain ⟨vo, h1, h2⟩ := h
  have hne : R ≠ g := fun e => by
    subst e
    have e2 := h1.symm.trans hr
    simp only [Option.some.injEq, Obj.cells.injEq] at e2
    exact absurd e2.2.1 (by decide)
  exact ⟨vo, (Below.heap_setCell w ⟨g, j, none⟩ v R hne).trans h1, h2.besides (fun k hk => Below.heap_setCell w ⟨g, j, none⟩ v k (fun e => h2.away hr (by decide) (by rw [hk, e])))⟩
theorem InF.set {R base g j : Nat} {w0 w : World} {v : Value} (h : InF R base w0 w) (hg : w0.heap.size ≤ g) : InF R base w0 (w.setCell ⟨g, j, none⟩ v) :=
  ⟨h.os, h.tape, h.output, by rw [World.size_setCell]; exact h.size, fun k hk h1 h2 => (Below.heap_setCell w ⟨g, j, none⟩ v k (by show k ≠ g; omega)).trans (h.rest k hk h1 h2)⟩
theorem lordN_lt : ∀ k, k < 19 → Df.lord.getD k 0 < 19 := by decide

/-- how lengthsOfLengths ends -/
def LolEnd (w : World) (R base : Nat) (s : ByteArray) (l : List UInt8) (lim : Nat) (vk fx : Value) (ANS : Except Nat (List Int × Nat)) (e : Ending) (w' : World) : Prop :=
  (∃ L q g, ANS = .ok (L, q) ∧ e = .returned (.slice (some ⟨g, 0, none⟩) 19 19) ∧ DRow w' g L ∧ L.length = 19 ∧ In w' R base s q l lim vk fx ∧ InF R base w w') ∨ Fails ANS R base w e w'

set_option maxHeartbeats 4000000 in
set_option maxRecDepth 20000 in
theorem nfLol_any (R base p lim cnt : Nat) (l : List UInt8) (vk fx : Value) (s : ByteArray) (w : World) (h : In w R base s p l lim vk fx) (hs : s.size ≤ 9000) (hp : p ≤ 8 * s.size) (hc : cnt ≤ 19) :
    Calls Try.prog 103 #[.pointer (some ⟨R, 0, none⟩), .int .i64 (cnt : Int)] w (LolEnd w R base s l lim vk fx (Nf.lol s cnt 0 p (List.replicate 19 0))) := by
  obtain ⟨ANS, hANS⟩ : ∃ r, r = Nf.lol s cnt 0 p (List.replicate 19 0) := ⟨_, rfl⟩
  have hmk : (Instr.makeSlice 44 (.int .i64 19) (.int .i64 19)).run Try.prog w = .ok (.slice (some ⟨w.heap.size, 0, none⟩) 19 19) (w.alloc (.cells ((List.replicate 19 (0 : Int)).map (Value.int .i64)).toArray 3)) := make_rowN 19 (by omega) w
  obtain ⟨W0, hW0⟩ : ∃ W0, W0 = w.alloc (.cells ((List.replicate 19 (0 : Int)).map (Value.int .i64)).toArray 3) := ⟨_, rfl⟩
  obtain ⟨g, hgg⟩ : ∃ g, g = w.heap.size := ⟨_, rfl⟩
  rw [← hW0, ← hgg] at hmk
  have b0 : Below w.heap.size w W0 := by rw [hW0]; exact (Below.refl _ _).alloc (Nat.le_refl _) _
  have HX0 : Hid (DRow W0 g (List.replicate 19 0) ∧ In W0 R base s p l lim vk fx ∧ InF R base w W0) := ⟨by rw [hW0, hgg]; exact heap_alloc_new _ _, h.kept b0, InF.of_below b0⟩
  have HG : Hid (g = w.heap.size ∧ R < g ∧ ANS = Nf.lol s cnt 0 p (List.replicate 19 0) ∧ p ≤ 8 * s.size) := ⟨hgg, by rw [hgg]; exact h.lt, hANS, hp⟩
  rw [← hANS]
  clear hANS h hW0 hgg b0 hp
  go_enter Try.func103, Try.ntmps103
  go_wp2_with fail
  refine (lengthOrder_any W0).mono ?_
  rintro e w1 ⟨rfl, b1⟩
  have HX1 : Hid (DRow w1 g (List.replicate 19 0) ∧ (List.replicate 19 (0 : Int)).length = 19 ∧ In w1 R base s p l lim vk fx ∧ InF R base w w1 ∧ ANS = Nf.lol s (cnt - 0) 0 p (List.replicate 19 0) ∧ p ≤ 8 * s.size) :=
    ⟨HX0.out.1.kept (b1.block g HX0.out.1.lt), by simp, HX0.out.2.1.kept b1, HX0.out.2.2.trans (InF.of_below b1), HG.out.2.2.1, HG.out.2.2.2⟩
  clear HX0 b1 hmk
  go_wp2_with fail
  go_loopw [10] (fun i wr => ∃ (k q : Nat) (row : List Int), k ≤ 19 ∧ i = .int .i64 (k : Int) ∧ Hid (DRow wr g row ∧ row.length = 19 ∧ In wr R base s q l lim vk fx ∧ InF R base w wr ∧ ANS = Nf.lol s (cnt - k) k q row ∧ q ≤ 8 * s.size)) (fun i _ => 19 - (intOf i).toNat)
  case atStart => exact ⟨0, p, _, Nat.zero_le _, rfl, HX1⟩
  case round =>
    obtain ⟨k, q, row, hk, rfl, HX⟩ := hrel
    clear HX1
    by_cases hlt : k < 19
    · have hki : (k : Int) < 19 := by omega
      have hord := fun w => lord_index k hlt w
      have hy := lordN_lt k hlt
      by_cases hkc : k < cnt
      · have hkci : (k : Int) < (cnt : Int) := by omega
        have HNM : Hid (Calls Try.prog 63 #[.pointer (some ⟨R, 0, none⟩), .int .i64 3] wr (NumEnd wr R base s q 3 l lim vk fx)) := nfNumber_any R q 3 base lim l vk fx s wr HX.out.2.2.1 hs HX.out.2.2.2.2.2 (by omega)
        have HA : Hid (∀ v, Nf.nxt s 3 q = .ok v → ANS = Nf.lol s (cnt - (k + 1)) (k + 1) (q + 3) (row.set (Df.lord.getD k 0) (v : Int))) := fun v hv => by
          rw [HX.out.2.2.2.2.1, show cnt - k = cnt - (k + 1) + 1 by omega, Nf.lol_ok hv]
        have HC : Hid (∀ c, Nf.nxt s 3 q = .error c → ANS = .error c) := fun c hv => by
          rw [HX.out.2.2.2.2.1, show cnt - k = cnt - (k + 1) + 1 by omega, Nf.lol_no hv]
        generalize Df.lord.getD k 0 = y at *
        have hyl : y < row.length := by rw [HX.out.2.1]; exact hy
        have hyi : (y : Int) < 19 := by omega
        go_wp2_with fail
        refine HNM.out.mono ?_
        rintro e w2 (⟨v, hv, rfl, h2, h3⟩ | ⟨hv, rfl, h3⟩)
        · have hrow : DRow w2 g row := HX.out.1.kept (h3.rest g HX.out.1.lt (by have := HG.out.2.1; omega))
          have cY := hrow.cell y hyl
          have fY := hrow.free y
          have HF : Hid (DRow (w2.setCell ⟨g, y, none⟩ (.int .i64 (v : Int))) g (row.set y (v : Int)) ∧ (row.set y (v : Int)).length = 19 ∧ In (w2.setCell ⟨g, y, none⟩ (.int .i64 (v : Int))) R base s (q + 3) l lim vk fx ∧ InF R base w (w2.setCell ⟨g, y, none⟩ (.int .i64 (v : Int))) ∧ ANS = Nf.lol s (cnt - (k + 1)) (k + 1) (q + 3) (row.set y (v : Int)) ∧ q + 3 ≤ 8 * s.size) :=
            ⟨hrow.set y v, by rw [List.length_set]; exact HX.out.2.1, h2.setRow hrow, (HX.out.2.2.2.1.trans (InF.of_only h3)).set (by rw [← HG.out.1]; exact Nat.le_refl _), HA.out v hv, (Nf.nxt_ok hv).1⟩
          obtain ⟨u, hu⟩ : ∃ u, u = row[y] := ⟨_, rfl⟩
          rw [← hu] at cY
          clear hu hv h2 h3 hrow HX HNM HA HC hyl
          go_wp2_with fail
          go_roundw
          case rel => exact ⟨k + 1, q + 3, _, by omega, by go_num, HF⟩
          case measure => simp [intOf]; omega
        · have HF : Hid (LolEnd w R base s l lim vk fx ANS (fault 2) w2) := .inr (Fails.mk (c := 2) (HC.out 2 hv) (by decide) (HX.out.2.2.2.1.trans h3))
          clear hv h3 HX HNM HA HC
          unfold fault
          go_wp2_with fail
          exact ⟨rfl, HF.out⟩
      · have hkci : ¬ (k : Int) < (cnt : Int) := by omega
        have HF : Hid (DRow wr g row ∧ row.length = 19 ∧ In wr R base s q l lim vk fx ∧ InF R base w wr ∧ ANS = Nf.lol s (cnt - (k + 1)) (k + 1) q row ∧ q ≤ 8 * s.size) := by
          obtain ⟨a1, a2, a3, a4, a5, a6⟩ := HX.out
          refine ⟨a1, a2, a3, a4, ?_, a6⟩
          rw [a5, show cnt - k = 0 by omega, show cnt - (k + 1) = 0 by omega]; rfl
        clear HX
        generalize Df.lord.getD k 0 = y at *
        go_wp2_with fail
        go_roundw
        case rel => exact ⟨k + 1, q, row, by omega, by go_num, HF⟩
        case measure => simp [intOf]; omega
    · have hki : ¬ (k : Int) < 19 := by omega
      have HF : Hid (LolEnd w R base s l lim vk fx ANS (.returned (.slice (some ⟨g, 0, none⟩) 19 19)) wr) := by
        obtain ⟨a1, a2, a3, a4, a5, a6⟩ := HX.out
        refine .inl ⟨row, q, g, ?_, rfl, a1, a2, a3, a4⟩
        rw [a5, show cnt - k = 0 by omega]; rfl
      clear HX
      go_wp2_with fail
      go_ret
      exact HF.out

theorem come_take {zs : List Int} {k : Nat} (h : k < zs.length) : Nf.come (zs.take (k + 1)) = Nf.come (zs.take k) + (if zs[k] != 0 then 1 else 0) := by
  rw [List.take_succ_eq_append_getElem h, Nf.come_append]
  congr 1
  rw [Nf.come_cons]
  simp [Nf.come]
theorem nfInt_at {w : World} {a : Option Addr} {zs : List Int} (h : Ints w a zs) {k : Nat} (hk : k < zs.length) : ∃ b off, a = some ⟨b, off, none⟩ ∧ w.cell? ⟨b, off + k, none⟩ = some (.int .i64 zs[k]) := by
  rcases h with e | ⟨b, off, rfl, _, hc⟩
  · subst e; simp at hk
  · exact ⟨b, off, rfl, hc k hk⟩
set_option maxHeartbeats 2000000 in
theorem nfMay_any (a : Option Addr) (cap n : Nat) (zs : List Int) (b : Bool) (w : World) (h : Ints w a zs) (hn : zs.length = n) (hl : n ≤ 300) (hv : Cd.valid zs = true) :
    Calls Try.prog 104 #[.slice a n cap, .bool b] w fun e w' => e = .returned (.bool (Nf.may zs b)) ∧ w' = w := by
  have HCT : Hid (Calls Try.prog 136 #[.slice a n cap] w fun e w' => e = .returned (.tuple #[.int .i64 (tkN n zs), .bool (tkB n zs)]) ∧ w' = w) := codeTaken_any a cap n zs w h hn (by omega)
  have hb : tkB n zs = true := by unfold tkB; rw [hv, decide_eq_true hl]; rfl
  rw [tkN_yes hb, hb] at HCT
  have HI : Hid (Ints w a zs ∧ zs.length = n) := ⟨h, hn⟩
  obtain ⟨T, hT⟩ : ∃ T, T = Cd.taken zs := ⟨_, rfl⟩
  rw [← hT] at HCT
  have HT : Hid (T = Cd.taken zs) := hT
  clear h hn hT hb
  go_enter Try.func104, Try.ntmps104
  go_wp2_with fail
  go_loopw [5, 12] (fun c i wr => ∃ k m : Nat, k ≤ n ∧ m ≤ k ∧ i = .int .i64 (k : Int) ∧ c = .int .i64 (m : Int) ∧ Hid (m = Nf.come (zs.take k)) ∧ wr = w) (fun _ i _ => n - (intOf i).toNat)
  case atStart => exact ⟨0, 0, Nat.zero_le _, Nat.le_refl _, rfl, rfl, rfl, rfl⟩
  case round =>
    obtain ⟨k, m, hk, hmk, rfl, rfl, HM, hw⟩ := hrel
    subst hw
    by_cases hlt : k < n
    · have hki : (k : Int) < (n : Int) := by omega
      have hkl : k < zs.length := by rw [HI.out.2]; exact hlt
      obtain ⟨b1, o1, rfl, hc1⟩ := nfInt_at HI.out.1 hkl
      have hct := come_take hkl
      obtain ⟨z, hz⟩ : ∃ z, z = zs[k] := ⟨_, rfl⟩
      rw [← hz] at hct hc1
      by_cases h0 : z = 0
      · have hb0 : (z != 0) = false := by simp [h0]
        have HN : Hid (m = Nf.come (zs.take (k + 1))) := by show _ = _; rw [hct, hb0]; exact HM.out
        subst h0
        clear hct hz
        go_wp2_with fail
        go_roundw
        case rel => exact ⟨k + 1, m, by omega, by omega, by go_num, rfl, HN, trivial⟩
        case measure => simp [intOf]; omega
      · have hb0 : (z != 0) = true := by simp [h0]
        have HN : Hid (m + 1 = Nf.come (zs.take (k + 1))) := by show _ = _; rw [hct, hb0, ← HM.out]; rfl
        clear hct hz
        go_wp2_with fail
        go_roundw
        case rel => exact ⟨k + 1, m + 1, by omega, by omega, by go_num, by go_num, HN, trivial⟩
        case measure => simp [intOf]; omega
    · have hki : ¬ (k : Int) < (n : Int) := by omega
      have HM2 : Hid (m = Nf.come zs) := by
        show _ = _
        rw [HM.out, List.take_of_length_le (by rw [HI.out.2]; omega)]
      clear HM
      go_wp2_with fail
      refine HCT.out.mono ?_
      rintro e w1 ⟨rfl, hw1⟩
      replace hw1 := hw1.symm
      subst hw1
      by_cases m0 : m = 0
      · have HF : Hid (Nf.may zs b = b) := by show _ = _; unfold Nf.may; rw [← HM2.out, if_pos m0]
        subst m0
        go_wp2_with fail
        go_ret
        exact ⟨by rw [HF.out]; rfl, rfl⟩
      · have m0i : ¬ (m : Int) = 0 := by omega
        by_cases m1 : m = 1
        · have HF : Hid (Nf.may zs b = decide (T = 16384)) := by show _ = _; unfold Nf.may; rw [← HM2.out, if_neg m0, if_pos m1, HT.out]
          subst m1
          have hd : ((T : Int) == 16384) = decide (T = 16384) := by
            by_cases e : T = 16384
            · subst e; rfl
            · rw [decide_eq_false e]; simp; omega
          generalize decide (T = 16384) = d at *
          go_wp2_with fail
          go_ret
          exact ⟨by rw [HF.out]; rfl, rfl⟩
        · have m1i : ¬ (m : Int) = 1 := by omega
          have HF : Hid (Nf.may zs b = decide (T = 32768)) := by show _ = _; unfold Nf.may; rw [← HM2.out, if_neg m0, if_neg m1, HT.out]
          have hd : ((T : Int) == 32768) = decide (T = 32768) := by
            by_cases e : T = 32768
            · subst e; rfl
            · rw [decide_eq_false e]; simp; omega
          generalize decide (T = 32768) = d at *
          go_wp2_with fail
          go_ret
          exact ⟨by rw [HF.out]; rfl, rfl⟩
end Go.Proofs.Ythfdnloeicbgkaa

/- The symbols of a block, and a block that is not packed, as the inflater reads them. -/
namespace Go.Proofs.Ythfdnloeicbgkaa
open Go.RowKit

/-- how a block ends -/
def BlkEnd (w : World) (R base : Nat) (s : ByteArray) (lim : Nat) (vk fx : Value) (ANS : Except Nat (List UInt8 × Nat)) (e : Ending) (w' : World) : Prop :=
  (∃ L q, ANS = .ok (L, q) ∧ (∃ r, e = .returned r) ∧ In w' R base s q L lim vk fx ∧ InF R base w w' ∧ q ≤ 8 * s.size ∧ L.length ≤ lim) ∨ Fails ANS R base w e w'
theorem byte_wrap (v : Nat) (h : v < 256) : IntKind.u8.wrap (v : Int) = (((UInt8.ofNat v).toNat : Nat) : Int) := by
  have : (UInt8.ofNat v).toNat = v := by simp; omega
  rw [this]
  simp [IntKind.wrap, IntKind.bits, IntKind.signed]; omega

theorem size_bound {s : ByteArray} {k p n q : Nat} (h : Nf.size s k p = .ok (n, q)) (hk : k < 29) : n ≤ 1000 ∧ q ≤ 8 * s.size ∧ p ≤ q := by
  have hb := Df.szN_all k hk
  unfold Nf.size at h
  split at h
  · cases h
  · rename_i v hv
    have := Nf.nxt_ok hv
    have h2 : 2 ^ (Df.szN k).2 ≤ 2 ^ 5 := Nat.pow_le_pow_right (by omega) hb.2.2
    cases h
    omega
theorem dist_bound {s : ByteArray} {B : List Int} {p d q : Nat} (hg : GoodC B) (h : Nf.dist s B p = .ok (d, q)) : 1 ≤ d ∧ d ≤ 100000 ∧ q ≤ 8 * s.size ∧ p < q := by
  unfold Nf.dist at h
  split at h
  · cases h
  · rename_i y q1 hy
    have hs := Nf.sym_ok hg hy
    split at h
    · rename_i h30
      have hb := Df.dsN_all y h30
      split at h
      · cases h
      · rename_i v hv
        have := Nf.nxt_ok hv
        have h2 : 2 ^ (Df.dsN y).2 ≤ 2 ^ 13 := Nat.pow_le_pow_right (by omega) hb.2.2
        cases h
        omega
    · cases h

set_option maxHeartbeats 4000000 in
set_option maxRecDepth 20000 in
theorem nfBody_any (R base p lim BA BB : Nat) (l : List UInt8) (vk fx : Value) (s : ByteArray) (A B : List Int) (w : World) (h : In w R base s p l lim vk fx) (hb : base ≤ w.heap.size) (hs : s.size ≤ 9000) (hp : p ≤ 8 * s.size) (hl : l.length ≤ lim) (hlim : lim ≤ 5000) (ta : Tree w R BA A) (tb : Tree w R BB B) (ga : GoodC A) (gb : GoodC B) (ha : A.length ≤ 300) :
    Calls Try.prog 102 #[.pointer (some ⟨R, 0, none⟩), .agg #[.pointer (some ⟨BA, 0, none⟩), .pointer (some ⟨BB, 0, none⟩)]] w (BlkEnd w R base s lim vk fx (Nf.body s lim A B Nf.fuel p l)) := by
  obtain ⟨ANS, hANS⟩ : ∃ r, r = Nf.body s lim A B Nf.fuel p l := ⟨_, rfl⟩
  rw [← hANS]
  obtain ⟨W0, hW0⟩ : ∃ W0, W0 = w.alloc (.cells #[.pointer (some ⟨BA, 0, none⟩), .pointer (some ⟨BB, 0, none⟩)] 143) := ⟨_, rfl⟩
  obtain ⟨C, hC⟩ : ∃ C, C = w.heap.size := ⟨_, rfl⟩
  have b0 : Below w.heap.size w W0 := by rw [hW0]; exact (Below.refl _ _).alloc (Nat.le_refl _) _
  have HC : Hid (W0.heap[C]? = some (.cells #[.pointer (some ⟨BA, 0, none⟩), .pointer (some ⟨BB, 0, none⟩)] 143 (0, 0)) ∧ C ≠ R ∧ base ≤ W0.heap.size) := ⟨by rw [hW0, hC]; exact heap_alloc_new _ _, by have := h.lt; omega, Nat.le_trans hb b0.size⟩
  have HT : Hid (Tree W0 R BA A ∧ Tree W0 R BB B ∧ GoodC A ∧ GoodC B ∧ InF R base w W0) := ⟨ta.kept b0, tb.kept b0, ga, gb, InF.of_below b0⟩
  have HX0 : Hid (In W0 R base s p l lim vk fx ∧ InF R base W0 W0 ∧ ANS = Nf.body s lim A B Nf.fuel p l) := ⟨h.kept b0, InF.refl _ _ _, hANS⟩
  have hf0 : 8 * s.size - p < Nf.fuel := by unfold Nf.fuel; omega
  clear h hb ta tb ga gb hANS b0
  go_enter Try.func102, Try.ntmps102
  go_wp2_with fail
  rw [← hW0, ← hC]
  clear hW0 hC
  go_loopw [4] (fun _ wr => ∃ (f q : Nat) (L : List UInt8), q ≤ 8 * s.size ∧ 8 * s.size - q < f ∧ L.length ≤ lim ∧ Hid (In wr R base s q L lim vk fx ∧ InF R base W0 wr ∧ ANS = Nf.body s lim A B f q L)) (fun _ wr => 8 * s.size - atOf R wr)
  case atStart => exact ⟨_, p, l, hp, hf0, hl, HX0⟩
  case round =>
    obtain ⟨f, q, L, hq, hf, hL, HX⟩ := hrel
    clear HX0 hf0 hp hl
    obtain ⟨f2, rfl⟩ : ∃ f2, f = f2 + 1 := ⟨f - 1, by omega⟩
    have hcc : wr.heap[C]? = some (.cells #[.pointer (some ⟨BA, 0, none⟩), .pointer (some ⟨BB, 0, none⟩)] 143 (0, 0)) := HX.out.2.1.block HC.out.1 HC.out.2.1 (by decide)
    have cA : wr.cell? ⟨C, 0, none⟩ = some (.pointer (some ⟨BA, 0, none⟩)) := by simp [World.cell?, hcc]
    have HSY : Hid (Calls Try.prog 132 #[.pointer (some ⟨R, 0, none⟩), .pointer (some ⟨BA, 0, none⟩)] wr (SymEnd wr R base s q L lim vk fx A)) := nfSymbol_any R base q lim BA L vk fx s A wr HX.out.1 hs hq (HT.out.1.inF HX.out.2.1) HT.out.2.2.1
    have HAT : Hid (atOf R wr = q) := atOf_in HX.out.1
    clear hcc
    go_wp2_with fail
    refine HSY.out.mono ?_
    rintro e w1 (⟨y, q1, hy, rfl, h2, h3⟩ | ⟨c, hc, hc0, rfl, h3⟩)
    · have hsy := Nf.sym_ok HT.out.2.2.1 hy
      have hq1 := hsy.1
      have hq2 := hsy.2.1
      have HY : Hid (Nf.sym s A q = .ok (y, q1) ∧ ANS = Nf.body s lim A B (f2 + 1) q L) := ⟨hy, HX.out.2.2⟩
      have HW : Hid (In w1 R base s q1 L lim vk fx ∧ InF R base W0 w1) := ⟨h2, HX.out.2.1.trans h3⟩
      have hylen : y < 300 := by have := hsy.2.2; omega
      clear hy h2 h3 hsy HX HSY cA
      by_cases hb256 : y < 256
      · have hyi : (y : Int) < 256 := by omega
        have hcv := byte_wrap y hb256
        obtain ⟨ch, hch⟩ : ∃ ch, ch = UInt8.ofNat y := ⟨_, rfl⟩
        rw [← hch] at hcv
        have HPE : Hid (Calls Try.prog 100 #[.pointer (some ⟨R, 3, none⟩), .int .u8 ((ch.toNat : Nat) : Int)] w1 (PutEnd w1 R base s q1 L lim vk fx ch)) := nfPut_any R base q1 lim L vk fx s ch w1 HW.out.1 (Nat.le_trans HC.out.2.2 HW.out.2.size) hlim
        obtain ⟨z, hz⟩ : ∃ z : Int, z = ((ch.toNat : Nat) : Int) := ⟨_, rfl⟩
        rw [← hz] at hcv HPE
        have HCH : Hid (ch = UInt8.ofNat y) := hch
        clear hz hch
        go_wp2_with fail
        refine HPE.out.mono ?_
        rintro e w2 (⟨p1, rfl, p2, p3⟩ | ⟨p1, rfl, p3⟩)
        · have HF : Hid (In w2 R base s q1 (L ++ [ch]) lim vk fx ∧ InF R base W0 w2 ∧ ANS = Nf.body s lim A B f2 q1 (L ++ [ch])) := ⟨p2, HW.out.2.trans p3, by rw [HY.out.2, Nf.body_byte HY.out.1 hb256 p1, HCH.out]⟩
          have hl2 : (L ++ [ch]).length ≤ lim := by rw [List.length_append]; exact p1
          clear p2 p3 HPE HW HY HCH
          go_wp2_with fail
          go_roundw
          case rel => exact ⟨f2, q1, _, hq2, by omega, hl2, HF⟩
          case measure => rw [HAT.out, atOf_in HF.out.1]; omega
        · have HF : Hid (BlkEnd w R base s lim vk fx ANS (fault 3) w2) := .inr (Fails.mk (c := 3) (by rw [HY.out.2, Nf.body_full HY.out.1 hb256 p1]) (by decide) (HT.out.2.2.2.2.trans (HW.out.2.trans p3)))
          clear p3 HPE HW HY HCH
          unfold fault
          go_wp2_with fail
          exact ⟨rfl, HF.out⟩
      · have hyi : ¬ (y : Int) < 256 := by omega
        by_cases he : y = 256
        · have HF : Hid (BlkEnd w R base s lim vk fx ANS (.returned (.tuple #[])) w1) := .inl ⟨L, q1, by rw [HY.out.2, Nf.body_end HY.out.1 he], ⟨_, rfl⟩, HW.out.1, HT.out.2.2.2.2.trans HW.out.2, hq2, hL⟩
          subst he
          clear HY HW
          go_wp2_with fail
          go_end0
          exact HF.out
        · have hei : ¬ (y : Int) = 256 := by omega
          by_cases h286 : y < 286
          · have h286i : (y : Int) < 286 := by omega
            have HSZ : Hid (Calls Try.prog 133 #[.pointer (some ⟨R, 0, none⟩), .int .i64 (y : Int)] w1 (ValEnd (Nf.size s (y - 257) q1) w1 R base s L lim vk fx)) := nfSize_any R base q1 lim (y - 257) y L vk fx s w1 HW.out.1 hs hq2 (by omega) (by omega)
            have hgt : 256 < y := by omega
            go_wp2_with fail
            refine (insist_of _ 1 _ (by first | rfl | simp <;> omega)).mono ?_
            rintro e w2 ⟨rfl, hw2⟩
            replace hw2 := hw2.symm
            subst hw2
            go_wp2_with fail
            refine HSZ.out.mono ?_
            rintro e w2 (⟨S, q3, hsz, rfl, h2, h3⟩ | ⟨c, hc, hc0, rfl, h3⟩)
            · have hszb := size_bound hsz (by omega)
              have hq3 : q3 ≤ 8 * s.size := hszb.2.1
              have hS : S ≤ 1000 := hszb.1
              have hq13 : q1 ≤ q3 := hszb.2.2
              have HS : Hid (Nf.size s (y - 257) q1 = .ok (S, q3) ∧ In w2 R base s q3 L lim vk fx ∧ InF R base W0 w2) := ⟨hsz, h2, HW.out.2.trans h3⟩
              have hcc2 : w2.heap[C]? = some (.cells #[.pointer (some ⟨BA, 0, none⟩), .pointer (some ⟨BB, 0, none⟩)] 143 (0, 0)) := HS.out.2.2.block HC.out.1 HC.out.2.1 (by decide)
              have cB : w2.cell? ⟨C, 1, none⟩ = some (.pointer (some ⟨BB, 0, none⟩)) := by simp [World.cell?, hcc2]
              have HDS : Hid (Calls Try.prog 134 #[.pointer (some ⟨R, 0, none⟩), .pointer (some ⟨BB, 0, none⟩)] w2 (ValEnd (Nf.dist s B q3) w2 R base s L lim vk fx)) := nfDist_any R base q3 lim BB L vk fx s B w2 h2 hs hq3 (HT.out.2.1.inF HS.out.2.2) HT.out.2.2.2.1
              clear hsz h2 h3 hszb hcc2 HSZ HW
              go_wp2_with fail
              refine HDS.out.mono ?_
              rintro e w3 (⟨D, q4, hds, rfl, h2, h3⟩ | ⟨c, hc, hc0, rfl, h3⟩)
              · have hdsb := dist_bound HT.out.2.2.2.1 hds
                have hq4 : q4 ≤ 8 * s.size := hdsb.2.2.1
                have hD1 : 1 ≤ D := hdsb.1
                have hD2 : D ≤ 100000 := hdsb.2.1
                have hq34 : q3 < q4 := hdsb.2.2.2
                have HD : Hid (Nf.dist s B q3 = .ok (D, q4) ∧ InF R base W0 w3) := ⟨hds, HS.out.2.2.trans h3⟩
                have HAG : Hid (Calls Try.prog 135 #[.pointer (some ⟨R, 3, none⟩), .int .i64 (S : Int), .int .i64 (D : Int)] w3 (AgnEnd w3 R base s q4 L lim vk fx S D)) := nfAgain_any R base q4 lim S D L vk fx s w3 h2 (Nat.le_trans HC.out.2.2 HD.out.2.size) hlim hL hD1 hD2 hS
                clear hds h2 h3 hdsb HDS
                go_wp2_with fail
                refine HAG.out.mono ?_
                rintro e w4 (⟨L2, hrp, rfl, h2, h3, h4⟩ | ⟨c, hc, hc0, rfl, h3⟩)
                · have HF : Hid (In w4 R base s q4 L2 lim vk fx ∧ InF R base W0 w4 ∧ ANS = Nf.body s lim A B f2 q4 L2) := ⟨h2, HD.out.2.trans h3, by rw [HY.out.2, Nf.body_copy HY.out.1 hgt h286 (Nf.copy_ok HS.out.1 HD.out.1 hrp)]⟩
                  clear hrp h2 h3 HAG HS HD HY
                  go_wp2_with fail
                  go_roundw
                  case rel => exact ⟨f2, q4, L2, hq4, by omega, h4, HF⟩
                  case measure => rw [HAT.out, atOf_in HF.out.1]; omega
                · have HF : Hid (BlkEnd w R base s lim vk fx ANS (fault (c : Int)) w4) := .inr (Fails.mk (by rw [HY.out.2, Nf.body_stop HY.out.1 hgt h286 (Nf.copy_rep HS.out.1 HD.out.1 hc)]) hc0 (HT.out.2.2.2.2.trans (HD.out.2.trans h3)))
                  clear hc h3 HAG HS HD HY
                  unfold fault
                  go_wp2_with fail
                  exact ⟨rfl, HF.out⟩
              · have HF : Hid (BlkEnd w R base s lim vk fx ANS (fault (c : Int)) w3) := .inr (Fails.mk (by rw [HY.out.2, Nf.body_stop HY.out.1 hgt h286 (Nf.copy_dist HS.out.1 hc)]) hc0 (HT.out.2.2.2.2.trans (HS.out.2.2.trans h3)))
                clear hc h3 HDS HS HY
                unfold fault
                go_wp2_with fail
                exact ⟨rfl, HF.out⟩
            · have HF : Hid (BlkEnd w R base s lim vk fx ANS (fault (c : Int)) w2) := .inr (Fails.mk (by rw [HY.out.2, Nf.body_stop HY.out.1 hgt h286 (Nf.copy_size hc)]) hc0 (HT.out.2.2.2.2.trans (HW.out.2.trans h3)))
              clear hc h3 HSZ HW HY
              unfold fault
              go_wp2_with fail
              exact ⟨rfl, HF.out⟩
          · have h286i : ¬ (y : Int) < 286 := by omega
            have HF : Hid (BlkEnd w R base s lim vk fx ANS (fault 1) w1) := .inr (Fails.mk (c := 1) (by rw [HY.out.2, Nf.body_bad HY.out.1 (by omega)]) (by decide) (HT.out.2.2.2.2.trans HW.out.2))
            clear HW HY
            go_wp2_with fail
            refine (insist_not _ 1 _ (by first | rfl | simp <;> omega)).mono ?_
            rintro e w2 ⟨rfl, hw2⟩
            replace hw2 := hw2.symm
            subst hw2
            unfold fault
            go_wp2_with fail
            exact ⟨rfl, HF.out⟩
    · have HF : Hid (BlkEnd w R base s lim vk fx ANS (fault (c : Int)) w1) := .inr (Fails.mk (by rw [HX.out.2.2, Nf.body_no hc]) hc0 (HT.out.2.2.2.2.trans (HX.out.2.1.trans h3)))
      clear hc h3 HX HSY cA
      unfold fault
      go_wp2_with fail
      exact ⟨rfl, HF.out⟩
end Go.Proofs.Ythfdnloeicbgkaa

/- A block that is not packed, in the specification. -/
namespace Go.Proofs.Ythfdnloeicbgkaa
open Go.RowKit

/-- what is still to come of an answer, or the code that was noted -/
def Togo {α : Type} (ANS : Except Nat α) (d : Nat) (r : Except Nat α) : Prop := (d = 0 → ANS = r) ∧ (d ≠ 0 → ANS = .error d)
theorem Togo.go {α : Type} {ANS r : Except Nat α} (h : ANS = r) : Togo ANS 0 r := ⟨fun _ => h, fun e => absurd rfl e⟩
theorem Togo.no {α : Type} {ANS r : Except Nat α} {d : Nat} (hd : d ≠ 0) (h : ANS = .error d) : Togo ANS d r := ⟨fun e => absurd e hd, fun _ => h⟩
theorem Togo.on {α : Type} {ANS r : Except Nat α} (h : Togo ANS 0 r) : ANS = r := h.1 rfl
theorem Togo.off {α : Type} {ANS r : Except Nat α} {d : Nat} (h : Togo ANS d r) (hd : d ≠ 0) : ANS = .error d := h.2 hd
/-- how what reads a block ends -/
def SEnd (r : Except Nat (List UInt8 × Nat)) (w : World) (R base : Nat) (s : ByteArray) (lim : Nat) (vk : Value) (e : Ending) (w' : World) : Prop :=
  e = .returned (.tuple #[]) ∧ ((∃ L q, r = .ok (L, q) ∧ Sx w' R base s q L lim 0 vk ∧ InF R base w w' ∧ q ≤ 8 * s.size ∧ L.length ≤ lim) ∨ ∃ c, r = .error c ∧ c ≠ 0 ∧ (∃ p l, Sx w' R base s p l lim c vk) ∧ InF R base w w')
theorem SEnd.ok {r : Except Nat (List UInt8 × Nat)} {w w' : World} {R base lim q : Nat} {s : ByteArray} {vk : Value} {L : List UInt8} (h : r = .ok (L, q)) (h1 : Sx w' R base s q L lim 0 vk) (h2 : InF R base w w') (h3 : q ≤ 8 * s.size) (h4 : L.length ≤ lim) : SEnd r w R base s lim vk (.returned (.tuple #[])) w' := ⟨rfl, .inl ⟨L, q, h, h1, h2, h3, h4⟩⟩
theorem SEnd.no {r : Except Nat (List UInt8 × Nat)} {w w' : World} {R base lim c p : Nat} {s : ByteArray} {vk : Value} {l : List UInt8} (h : r = .error c) (hc : c ≠ 0) (h1 : Sx w' R base s p l lim c vk) (h2 : InF R base w w') : SEnd r w R base s lim vk (.returned (.tuple #[])) w' := ⟨rfl, .inr ⟨c, h, hc, ⟨p, l, h1⟩, h2⟩⟩

set_option maxHeartbeats 4000000 in
set_option maxRecDepth 20000 in
theorem sxStored_any (R base p lim : Nat) (l : List UInt8) (vk : Value) (s : ByteArray) (w : World) (h : Sx w R base s p l lim 0 vk) (hb : base ≤ w.heap.size) (hs : s.size ≤ 9000) (hp : p ≤ 8 * s.size) (hl : l.length ≤ lim) (hlim : lim ≤ 5000) :
    Calls Try.prog 65 #[.pointer (some ⟨R, 0, none⟩)] w (SEnd (Nf.plain s lim p l) w R base s lim vk) := by
  obtain ⟨P, hP⟩ : ∃ P, P = 8 * ((p + 7) / 8) := ⟨_, rfl⟩
  obtain ⟨u, hu⟩ : ∃ u, u = (p + 7) / 8 := ⟨_, rfl⟩
  have e1 : ((p : Int) + 7) / 8 = (u : Int) := by omega
  have e2 : ((p : Int) + 7).tdiv 8 = (u : Int) := by rw [Int.tdiv_eq_ediv_of_nonneg (by omega)]; exact e1
  have e4 : IntKind.i64.wrap ((p : Int) + 7) = (p : Int) + 7 := by have := wrap_i64_nat (p + 7) (by omega); rw [show ((p + 7 : Nat) : Int) = (p : Int) + 7 by omega] at this; exact this
  have hPu : (u : Int) * 8 = (P : Int) := by omega
  have hPw : IntKind.i64.wrap ((u : Int) * 8) = (P : Int) := by rw [hPu]; exact wrap_i64_nat P (by omega)
  have e3 := wrap_i64_nat u (by omega)
  have hPl : P ≤ 8 * s.size := by omega
  have HPP : Hid (P = 8 * ((p + 7) / 8)) := hP
  have c1 := h.cells.2.1
  have f1 := h.froz 1
  obtain ⟨ANS, hANS⟩ : ∃ r, r = Nf.plain s lim p l := ⟨_, rfl⟩
  obtain ⟨w1, hw1⟩ : ∃ w1, w1 = w.setCell ⟨R, 1, none⟩ (.int .i64 (P : Int)) := ⟨_, rfl⟩
  have HI1 : Hid (Sx w1 R base s P l lim 0 vk ∧ InF R base w w1) := by rw [hw1]; exact ⟨(h.move P).1, InF.of_only (h.move P).2⟩
  have HANS : Hid (ANS = Nf.plain s lim p l) := hANS
  have HB : Hid (base ≤ w.heap.size) := hb
  rw [← hANS]
  have HN1 : Hid (Calls Try.prog 64 #[.pointer (some ⟨R, 0, none⟩), .int .i64 16] w1 (SBits w1 R base s P 16 l lim vk)) := sxBits_any R base P 16 lim l vk s w1 HI1.out.1 hs hPl (by omega)
  clear h hP hu hANS hb
  go_enter Try.func65, Try.ntmps65
  go_upto_region 1 with fail
  rw [← hw1]
  clear hw1 c1 f1 hPu hPw e1 e2 e3 e4
  go_wp2_with fail
  refine HN1.out.mono ?_
  rintro e w2 (⟨N, hN, rfl, h2, h3⟩ | ⟨hN, rfl, h2, h3⟩)
  · have hNb := (Nf.nxt_ok hN).2.2
    have hP2 := (Nf.nxt_ok hN).1
    have HN2 : Hid (Calls Try.prog 64 #[.pointer (some ⟨R, 0, none⟩), .int .i64 16] w2 (SBits w2 R base s (P + 16) 16 l lim vk)) := sxBits_any R base (P + 16) 16 lim l vk s w2 h2 hs hP2 (by omega)
    have HW : Hid (Nf.nxt s 16 (8 * ((p + 7) / 8)) = .ok N ∧ InF R base w w2) := ⟨by rw [← HPP.out]; exact hN, HI1.out.2.trans (InF.of_only h3)⟩
    clear hN h2 h3 HN1
    go_wp2_with fail
    refine HN2.out.mono ?_
    rintro e w3 (⟨M, hM, rfl, h2, h3⟩ | ⟨hM, rfl, h2, h3⟩)
    · have hMb := (Nf.nxt_ok hM).2.2
      have hP3 := (Nf.nxt_ok hM).1
      have HM : Hid (Nf.nxt s 16 (8 * ((p + 7) / 8) + 16) = .ok M) := by rw [← HPP.out]; exact hM
      have HW3 : Hid (Sx w3 R base s (P + 16 + 16) l lim 0 vk ∧ InF R base w w3) := ⟨h2, HW.out.2.trans (InF.of_only h3)⟩
      have c4 : w3.cell? ⟨R, 4, none⟩ = some (.int .i64 0) := h2.cells.2.2.2.1
      clear hM h2 h3 HN2
      by_cases hsum : N + M = 65535
      · have hsi : (N : Int) + (M : Int) = 65535 := by omega
        have HX0 : Hid (Sx w3 R base s (P + 32) l lim 0 vk ∧ InF R base w w3 ∧ Togo ANS 0 (Nf.take s lim (N - 0) (P + 32) l) ∧ P + 32 ≤ 8 * s.size ∧ l.length ≤ lim) := ⟨HW3.out.1, HW3.out.2, Togo.go (by rw [HANS.out, Nf.plain_ok HW.out.1 HM.out hsum, ← HPP.out]; rfl), by omega, hl⟩
        clear HW HW3 HM HANS HI1
        go_wp2_with fail
        clear hsi hsum hP3 hP2 hMb c4
        go_loopw [4, 5] (fun i _v wr => ∃ (c q d : Nat) (L : List UInt8), c ≤ N ∧ i = .int .i64 (c : Int) ∧ Hid (Sx wr R base s q L lim d vk ∧ InF R base w wr ∧ Togo ANS d (Nf.take s lim (N - c) q L) ∧ q ≤ 8 * s.size ∧ L.length ≤ lim)) (fun i _ _ => N - (intOf i).toNat)
        case atStart => exact ⟨0, P + 32, 0, l, Nat.zero_le _, rfl, HX0⟩
        case round =>
          obtain ⟨c, q, d, L, hc, rfl, HX⟩ := hrel
          clear HX0
          have c4 := HX.out.1.cells.2.2.2.1
          by_cases hlt : c < N
          · have hci : (c : Int) < (N : Int) := by omega
            by_cases hd : d = 0
            · subst hd
              replace c4 : wr.cell? ⟨R, 4, none⟩ = some (.int .i64 0) := c4
              have HNM : Hid (Calls Try.prog 64 #[.pointer (some ⟨R, 0, none⟩), .int .i64 8] wr (SBits wr R base s q 8 L lim vk)) := sxBits_any R base q 8 lim L vk s wr HX.out.1 hs HX.out.2.2.2.1 (by omega)
              go_wp2_with fail
              refine HNM.out.mono ?_
              rintro e w4 (⟨v, hv, rfl, h2, h3⟩ | ⟨hv, rfl, h2, h3⟩)
              · have hvb := (Nf.nxt_ok hv).2.2
                have hq8 := (Nf.nxt_ok hv).1
                obtain ⟨ch, hch⟩ : ∃ ch, ch = UInt8.ofNat v := ⟨_, rfl⟩
                have hcv := byte_wrap v (by omega)
                rw [← hch] at hcv
                have HV : Hid (Nf.nxt s 8 q = .ok v ∧ ch = UInt8.ofNat v ∧ InF R base w w4) := ⟨hv, hch, HX.out.2.1.trans (InF.of_only h3)⟩
                have HPE : Hid (Calls Try.prog 107 #[.pointer (some ⟨R, 0, none⟩), .int .u8 ((ch.toNat : Nat) : Int)] w4 (SPut w4 R base s (q + 8) L lim vk ch)) := sxPut_any R base (q + 8) lim L vk s ch w4 h2 (Nat.le_trans HB.out HV.out.2.2.size) hlim
                obtain ⟨z, hz⟩ : ∃ z : Int, z = ((ch.toNat : Nat) : Int) := ⟨_, rfl⟩
                rw [← hz] at hcv HPE
                replace c4 : w4.cell? ⟨R, 4, none⟩ = some (.int .i64 0) := h2.cells.2.2.2.1
                clear hz hch hv h2 h3 HNM
                go_wp2_with fail
                refine (HPE.out).mono ?_
                rintro e w5 ⟨rfl, p3, (⟨p1, p2⟩ | ⟨p1, p2⟩)⟩
                · have HF : Hid (Sx w5 R base s (q + 8) (L ++ [ch]) lim 0 vk ∧ InF R base w w5 ∧ Togo ANS 0 (Nf.take s lim (N - (c + 1)) (q + 8) (L ++ [ch])) ∧ q + 8 ≤ 8 * s.size ∧ (L ++ [ch]).length ≤ lim) :=
                    ⟨p2, HV.out.2.2.trans p3, Togo.go (by rw [HX.out.2.2.1.on, show N - c = N - (c + 1) + 1 by omega, Nf.take_ok HV.out.1 p1, HV.out.2.1]), hq8, by rw [List.length_append]; exact p1⟩
                  clear p2 p3 HPE HV HX c4
                  go_wp2_with fail
                  go_roundw
                  case rel => exact ⟨c + 1, q + 8, 0, _, by omega, by go_num, HF⟩
                  case measure => simp [intOf]; omega
                · have HF : Hid (Sx w5 R base s (q + 8) L lim 3 vk ∧ InF R base w w5 ∧ Togo ANS 3 (Nf.take s lim (N - (c + 1)) (q + 8) L) ∧ q + 8 ≤ 8 * s.size ∧ L.length ≤ lim) :=
                    ⟨p2, HV.out.2.2.trans p3, Togo.no (by decide) (by rw [HX.out.2.2.1.on, show N - c = N - (c + 1) + 1 by omega, Nf.take_full HV.out.1 p1]), hq8, HX.out.2.2.2.2⟩
                  clear p2 p3 HPE HV HX c4
                  go_wp2_with fail
                  go_roundw
                  case rel => exact ⟨c + 1, q + 8, 3, _, by omega, by go_num, HF⟩
                  case measure => simp [intOf]; omega
              · have HF : Hid (Sx w4 R base s q L lim 2 vk ∧ InF R base w w4 ∧ Togo ANS 2 (Nf.take s lim (N - (c + 1)) q L) ∧ q ≤ 8 * s.size ∧ L.length ≤ lim) :=
                  ⟨h2, HX.out.2.1.trans (InF.of_only h3), Togo.no (by decide) (by rw [HX.out.2.2.1.on, show N - c = N - (c + 1) + 1 by omega, Nf.take_no hv]), HX.out.2.2.2.1, HX.out.2.2.2.2⟩
                replace c4 : w4.cell? ⟨R, 4, none⟩ = some (.int .i64 2) := h2.cells.2.2.2.1
                clear hv h2 h3 HNM HX
                go_wp2_with fail
                go_roundw
                case rel => exact ⟨c + 1, q, 2, _, by omega, by go_num, HF⟩
                case measure => simp [intOf]; omega
            · have hdi : ¬ (d : Int) = 0 := by omega
              have HF : Hid (SEnd ANS w R base s lim vk (.returned (.tuple #[])) wr) := SEnd.no (HX.out.2.2.1.off hd) hd HX.out.1 HX.out.2.1
              clear HX
              go_wp2_with fail
              go_end0
              exact HF.out
          · have hci : ¬ (c : Int) < (N : Int) := by omega
            have HF : Hid (SEnd ANS w R base s lim vk (.returned (.tuple #[])) wr) := by
              by_cases hd : d = 0
              · subst hd
                exact SEnd.ok (by rw [HX.out.2.2.1.on, show N - c = 0 by omega]; rfl) HX.out.1 HX.out.2.1 HX.out.2.2.2.1 HX.out.2.2.2.2
              · exact SEnd.no (HX.out.2.2.1.off hd) hd HX.out.1 HX.out.2.1
            clear HX c4
            go_wp2_with fail
            go_end0
            exact HF.out
      · have hsi : ¬ (N : Int) + (M : Int) = 65535 := by omega
        have hsn : ((N : Int) + (M : Int) != 65535) = true := by simp; omega
        have HFL : Hid (Calls Try.prog 68 #[.pointer (some ⟨R, 0, none⟩), .int .i64 1] w3 fun e w' => e = .returned (.tuple #[]) ∧ Sx w' R base s (P + 16 + 16) l lim 1 vk ∧ Only R w3 w') := sxFail_new R base (P + 16 + 16) lim 1 l vk s w3 HW3.out.1
        have HE : Hid (ANS = .error 1) := by show _ = _; rw [HANS.out, Nf.plain_bad HW.out.1 HM.out hsum]
        clear HW HM HANS HI1
        go_wp2_with fail
        refine HFL.out.mono ?_
        rintro e w4 ⟨rfl, h2, h3⟩
        have HF : Hid (SEnd ANS w R base s lim vk (.returned (.tuple #[])) w4) := SEnd.no HE.out (by decide) h2 (HW3.out.2.trans (InF.of_only h3))
        replace c4 : w4.cell? ⟨R, 4, none⟩ = some (.int .i64 1) := h2.cells.2.2.2.1
        clear h2 h3 HFL HW3 hsi hsn hsum
        go_wp2_with fail
        go_loopw [4] (fun i wr => i = .int .i64 0 ∧ wr = w4) (fun _ _ => 0)
        case atStart => exact ⟨rfl, rfl⟩
        case round =>
          obtain ⟨rfl, rfl⟩ := hrel
          by_cases hN0 : (0 : Int) < (N : Int)
          · go_wp2_with fail
            go_end0
            exact HF.out
          · go_wp2_with fail
            go_end0
            exact HF.out
    · have HF : Hid (SEnd ANS w R base s lim vk (.returned (.tuple #[])) w3) := SEnd.no (by rw [HANS.out, Nf.plain_no2 HW.out.1 (by rw [← HPP.out]; exact hM)]) (by decide) h2 (HW.out.2.trans (InF.of_only h3))
      have c4 : w3.cell? ⟨R, 4, none⟩ = some (.int .i64 2) := h2.cells.2.2.2.1
      clear hM h2 h3 HN2 HW HI1
      go_wp2_with fail
      go_loopw [4] (fun i wr => i = .int .i64 0 ∧ wr = w3) (fun _ _ => 0)
      case atStart => exact ⟨rfl, rfl⟩
      case round =>
        obtain ⟨rfl, rfl⟩ := hrel
        by_cases hN0 : (0 : Int) < (N : Int)
        · go_wp2_with fail
          go_end0
          exact HF.out
        · go_wp2_with fail
          go_end0
          exact HF.out
  · have HF : Hid (SEnd ANS w R base s lim vk (.returned (.tuple #[])) w2) := SEnd.no (by rw [HANS.out, Nf.plain_no1 (by rw [← HPP.out]; exact hN)]) (by decide) h2 (HI1.out.2.trans (InF.of_only h3))
    have HBO : Hid (Calls Try.prog 64 #[.pointer (some ⟨R, 0, none⟩), .int .i64 16] w2 fun e w' => e = .returned (.int .i64 0) ∧ ∃ m, w' = w2.drewN m) := sxBits_old R base P lim 2 16 l vk s w2 h2 (by decide)
    have c4 : w2.cell? ⟨R, 4, none⟩ = some (.int .i64 2) := h2.cells.2.2.2.1
    clear hN h2 h3 HN1 HI1
    go_wp2_with fail
    refine HBO.out.mono ?_
    rintro e w3 ⟨rfl, m, rfl⟩
    replace c4 : (w2.drewN m).cell? ⟨R, 4, none⟩ = some (.int .i64 2) := c4
    have HF3 : Hid (SEnd ANS w R base s lim vk (.returned (.tuple #[])) (w2.drewN m)) := by
      obtain ⟨h1, h2⟩ := HF.out
      refine ⟨h1, ?_⟩
      rcases h2 with ⟨L, q, g1, g2, g3, g4⟩ | ⟨c, g1, g2, ⟨p', l', g3⟩, g4⟩
      · exact .inl ⟨L, q, g1, g2.drewN m, g3.drewN m, g4⟩
      · exact .inr ⟨c, g1, g2, ⟨p', l', g3.drewN m⟩, g4.drewN m⟩
    generalize w2.drewN m = w3 at *
    clear HF HBO
    go_wp2_with fail
    go_loopw [4] (fun i wr => i = .int .i64 0 ∧ wr = w3) (fun _ _ => 0)
    case atStart => exact ⟨rfl, rfl⟩
    case round =>
      obtain ⟨rfl, rfl⟩ := hrel
      go_wp2_with fail
      go_end0
      exact HF3.out
end Go.Proofs.Ythfdnloeicbgkaa

/- What was put out already is put out again, in the specification. -/
namespace Go.Proofs.Ythfdnloeicbgkaa
open Go.RowKit

/-- a measure: the bits that are left, 0 once a code is noted -/
def stOf (R M : Nat) (w : World) : Nat :=
  match w.cell? ⟨R, 4, none⟩, w.cell? ⟨R, 1, none⟩ with
  | some (.int _ c), some (.int _ p) => if c = 0 then M - p.toNat + 1 else 0
  | _, _ => 0
theorem stOf_go {w : World} {R base p lim M : Nat} {s : ByteArray} {l : List UInt8} {vk : Value} (h : Sx w R base s p l lim 0 vk) : stOf R M w = M - p + 1 := by
  unfold stOf
  rw [h.cells.2.2.2.1, h.cells.2.1]
  simp
theorem stOf_no {w : World} {R base p lim M c : Nat} {s : ByteArray} {l : List UInt8} {vk : Value} (h : Sx w R base s p l lim c vk) (hc : c ≠ 0) : stOf R M w = 0 := by
  unfold stOf
  rw [h.cells.2.2.2.1, h.cells.2.1]
  simp
  omega

/-- the loop of copy -/
def CpInv (wr w : World) (R base : Nat) (s : ByteArray) (q : Nat) (l : List UInt8) (lim : Nat) (vk : Value) (D c m : Nat) (ANS : Except Nat (List UInt8 × Nat)) (r : List UInt8) (M d : Nat) : Prop :=
  Sx wr R base s q r lim d vk ∧ InF R base w wr ∧ M = r.length ∧ ((d = 0 ∧ r = To.again l D c ∧ M = m + c) ∨ (d ≠ 0 ∧ ANS = .error d))

set_option maxHeartbeats 8000000 in
set_option maxRecDepth 100000 in
theorem sxCopy_any (R base p lim k y n cx cap : Nat) (x a : Option Addr) (l : List UInt8) (vk : Value) (s : ByteArray) (B : List Int) (w : World) (h : Sx w R base s p l lim 0 vk) (hb : base ≤ w.heap.size) (hs : s.size ≤ 9000) (hp : p ≤ 8 * s.size) (hl : l.length ≤ lim) (hlim : lim ≤ 5000) (hk : k < 29) (hy : y = 257 + k) (hx : Lst w R x (Mk.mk B)) (ha : Lst w R a B) (hn : B.length = n) (hg : GoodC B) (hnl : n ≤ 300) :
    Calls Try.prog 109 #[.pointer (some ⟨R, 0, none⟩), .int .i64 (y : Int), .slice x n cx, .slice a n cap] w (SEnd (Nf.copy s lim B k p l) w R base s lim vk) := by
  have hbk := Df.szN_all k hk
  have HSZ : Hid (Calls Try.prog 114 #[.int .i64 (y : Int)] w fun e w' => e = .returned (.tuple #[.int .i64 (((Df.szN k).1 : Nat) : Int), .int .i64 (((Df.szN k).2 : Nat) : Int)]) ∧ w' = w) := by rw [hy]; exact l4Size_any k hk w
  have HNM : Hid (Calls Try.prog 64 #[.pointer (some ⟨R, 0, none⟩), .int .i64 (((Df.szN k).2 : Nat) : Int)] w (SBits w R base s p (Df.szN k).2 l lim vk)) := sxBits_any R base p (Df.szN k).2 lim l vk s w h hs hp (by omega)
  obtain ⟨L, hL⟩ : ∃ L, L = (Df.szN k).1 := ⟨_, rfl⟩
  obtain ⟨X, hX⟩ : ∃ X, X = (Df.szN k).2 := ⟨_, rfl⟩
  have HV : Hid (∀ v, Nf.nxt s X p = .ok v → Nf.size s k p = .ok (L + v, p + X) ∧ v < 32) := fun v hv => by
    rw [hX] at hv
    have h1 := (Nf.nxt_ok hv).2.2
    have h2 : 2 ^ (Df.szN k).2 ≤ 2 ^ 5 := Nat.pow_le_pow_right (by omega) hbk.2.2
    rw [hL, hX]; exact ⟨Nf.size_ok hv, by omega⟩
  have HC : Hid (∀ c, Nf.nxt s X p = .error c → Nf.size s k p = .error c) := fun c hv => by rw [hX] at hv; exact Nf.size_no hv
  rw [← hL, ← hX] at hbk HSZ
  rw [← hX] at HNM
  obtain ⟨ANS, hANS⟩ : ∃ r, r = Nf.copy s lim B k p l := ⟨_, rfl⟩
  have HANS : Hid (ANS = Nf.copy s lim B k p l) := hANS
  rw [← hANS]
  have HQ : Hid (Lst w R x (Mk.mk B) ∧ Lst w R a B ∧ B.length = n ∧ GoodC B ∧ base ≤ w.heap.size) := ⟨hx, ha, hn, hg, hb⟩
  clear hL hX h hy hx ha hn hg hb hANS
  go_enter Try.func109, Try.ntmps109
  go_wp2_with fail
  refine HSZ.out.mono ?_
  rintro e w1 ⟨rfl, hw1⟩
  replace hw1 := hw1.symm
  subst hw1
  clear HSZ
  go_wp2_with fail
  refine HNM.out.mono ?_
  rintro e w2 (⟨v, hv, rfl, h2, h3⟩ | ⟨hv, rfl, h2, h3⟩)
  · have hvb := (HV.out v hv).2
    obtain ⟨N, hN⟩ : ∃ N : Nat, N = L + v := ⟨_, rfl⟩
    have hNi : (L : Int) + (v : Int) = (N : Int) := by omega
    have hNw : IntKind.i64.wrap ((L : Int) + (v : Int)) = (N : Int) := by rw [hNi]; exact wrap_i64_nat N (by omega)
    have hNb : N ≤ 300 := by omega
    have hN3 : 0 < N := by omega
    have hN3i : (0 : Int) < (N : Int) := by omega
    obtain ⟨q, hq⟩ : ∃ q, q = p + X := ⟨_, rfl⟩
    have hq8 : q ≤ 8 * s.size := by have := (Nf.nxt_ok hv).1; omega
    rw [← hq] at h2
    have HS : Hid (Nf.size s k p = .ok (N, q) ∧ Sx w2 R base s q l lim 0 vk ∧ InF R base w w2) := ⟨by rw [hN, hq]; exact (HV.out v hv).1, h2, InF.of_only h3⟩
    have HSY : Hid (Calls Try.prog 108 #[.pointer (some ⟨R, 0, none⟩), .slice x n cx, .slice a n cap] w2 (SSym w2 R base s q l lim vk B)) := sxSym_any R base q lim n cx cap x a l vk s B w2 h2 hs hq8 (HQ.out.1.inF HS.out.2.2).ints (HQ.out.2.1.inF HS.out.2.2).ints HQ.out.2.2.1 HQ.out.2.2.2.1 hnl
    clear hv h2 h3 HNM HV HC hN hq
    go_wp2_with fail
    refine HSY.out.mono ?_
    rintro e w3 (⟨d, q2, hd, rfl, h2, h3⟩ | ⟨c, hc, hc0, rfl, h2, h3⟩)
    · have hdb := Nf.sym_ok HQ.out.2.2.2.1 hd
      have hq2 : q2 ≤ 8 * s.size := hdb.2.1
      have HW : Hid (Nf.sym s B q = .ok (d, q2) ∧ Sx w3 R base s q2 l lim 0 vk ∧ InF R base w w3) := ⟨hd, h2, HS.out.2.2.trans (InF.of_only h3)⟩
      have c4 : w3.cell? ⟨R, 4, none⟩ = some (.int .i64 0) := h2.cells.2.2.2.1
      clear hd h2 h3 HSY hdb
      by_cases hd30 : d < 30
      · have hdi : ¬ (d : Int) > 29 := by omega
        have hdb : decide ((29 : Int) < (d : Int)) = false := decide_eq_false (by omega)
        have hbd := Df.dsN_all d hd30
        have HDS : Hid (Calls Try.prog 115 #[.int .i64 (d : Int)] w3 fun e w' => e = .returned (.tuple #[.int .i64 (((Df.dsN d).1 : Nat) : Int), .int .i64 (((Df.dsN d).2 : Nat) : Int)]) ∧ w' = w3) := l4Dist_any d hd30 w3
        have HNM : Hid (Calls Try.prog 64 #[.pointer (some ⟨R, 0, none⟩), .int .i64 (((Df.dsN d).2 : Nat) : Int)] w3 (SBits w3 R base s q2 (Df.dsN d).2 l lim vk)) := sxBits_any R base q2 (Df.dsN d).2 lim l vk s w3 HW.out.2.1 hs hq2 (by omega)
        have HV : Hid (∀ v, Nf.nxt s (Df.dsN d).2 q2 = .ok v → Nf.dist s B q = .ok ((Df.dsN d).1 + v, q2 + (Df.dsN d).2) ∧ v < 8192) := fun v hv => by
          have h1 := (Nf.nxt_ok hv).2.2
          have h2 : 2 ^ (Df.dsN d).2 ≤ 2 ^ 13 := Nat.pow_le_pow_right (by omega) hbd.2.2
          exact ⟨Nf.dist_ok HW.out.1 hd30 hv, by omega⟩
        have HC : Hid (∀ c, Nf.nxt s (Df.dsN d).2 q2 = .error c → Nf.dist s B q = .error c) := fun c hv => Nf.dist_short HW.out.1 hd30 hv
        generalize (Df.dsN d).1 = L2 at *
        generalize (Df.dsN d).2 = X2 at *
        go_wp2_with fail
        refine HDS.out.mono ?_
        rintro e w4 ⟨rfl, hw4⟩
        replace hw4 := hw4.symm
        subst hw4
        clear HDS c4
        go_wp2_with fail
        refine HNM.out.mono ?_
        rintro e w5 (⟨v2, hv, rfl, h2, h3⟩ | ⟨hv, rfl, h2, h3⟩)
        · have hv2b := (HV.out v2 hv).2
          obtain ⟨D, hD⟩ : ∃ D : Nat, D = L2 + v2 := ⟨_, rfl⟩
          have hDi : (L2 : Int) + (v2 : Int) = (D : Int) := by omega
          have hDw : IntKind.i64.wrap ((L2 : Int) + (v2 : Int)) = (D : Int) := by rw [hDi]; exact wrap_i64_nat D (by omega)
          obtain ⟨q3, hq3⟩ : ∃ q3, q3 = q2 + X2 := ⟨_, rfl⟩
          have hq38 : q3 ≤ 8 * s.size := by have := (Nf.nxt_ok hv).1; omega
          rw [← hq3] at h2
          have hD1 : 1 ≤ D := by omega
          have hD2 : D ≤ 100000 := by omega
          have HD : Hid (Nf.dist s B q = .ok (D, q3) ∧ Sx w5 R base s q3 l lim 0 vk ∧ InF R base w w5) := ⟨by rw [hD, hq3]; exact (HV.out v2 hv).1, h2, HW.out.2.2.trans (InF.of_only h3)⟩
          obtain ⟨ao0, cp0, c3, -, -⟩ := h2.open
          have c4 : w5.cell? ⟨R, 4, none⟩ = some (.int .i64 0) := h2.cells.2.2.2.1
          obtain ⟨m, hm⟩ : ∃ m, m = l.length := ⟨_, rfl⟩
          have HM : Hid (m = l.length) := hm
          rw [← hm] at c3 hl
          clear hv h2 h3 HNM HV HC hD hq3 hm HW
          by_cases hDm : D ≤ m
          · have hDmi : ¬ (D : Int) > (m : Int) := by omega
            have hDmb : decide (m < D) = false := decide_eq_false (by omega)
            have HOK : Hid (m + N ≤ lim → ANS = .ok (To.again l D N, q3)) := fun hh => by rw [HANS.out]; exact Nf.copy_ok HS.out.1 HD.out.1 (Nf.rep_ok (by rw [← HM.out]; exact hDm) (by rw [← HM.out]; exact hh))
            have HNO : Hid (¬ m + N ≤ lim → ANS = .error 3) := fun hh => by rw [HANS.out]; exact Nf.copy_rep HS.out.1 HD.out.1 (Nf.rep_long (by rw [← HM.out]; exact hDm) (by rw [← HM.out]; exact hh))
            have HX0 : Hid (CpInv w5 w R base s q3 l lim vk D 0 m ANS l m 0) := ⟨HD.out.2.1, HD.out.2.2, HM.out, .inl ⟨rfl, rfl, rfl⟩⟩
            clear HS HD HANS
            go_wp2_with fail
            clear c3 c4
            go_loopw [13] (fun i wr => ∃ (c : Nat) (r : List UInt8) (M d2 : Nat), c ≤ N ∧ i = .int .i64 (c : Int) ∧ M ≤ lim ∧ Hid (CpInv wr w R base s q3 l lim vk D c m ANS r M d2)) (fun i _ => N - (intOf i).toNat)
            case atStart => exact ⟨0, l, m, 0, Nat.zero_le _, rfl, hl, HX0⟩
            case round =>
              obtain ⟨c, r, M, d2, hc, rfl, hM, HX⟩ := hrel
              clear HX0
              have k4 := HX.out.1.cells.2.2.2.1
              by_cases hlt : c < N
              · have hci : (c : Int) < (N : Int) := by omega
                by_cases hd2 : d2 = 0
                · subst hd2
                  replace k4 : wr.cell? ⟨R, 4, none⟩ = some (.int .i64 0) := k4
                  have HR : Hid (r = To.again l D c ∧ M = r.length) := by
                    rcases HX.out.2.2.2 with ⟨_, e2, _⟩ | ⟨e1, _⟩
                    · exact ⟨e2, HX.out.2.2.1⟩
                    · exact absurd rfl e1
                  have hMm : M = m + c := by
                    rcases HX.out.2.2.2 with ⟨_, _, e3⟩ | ⟨e1, _⟩
                    · exact e3
                    · exact absurd rfl e1
                  have hM1 : M ≤ m + c := by omega
                  have hM2 : m + c ≤ M := by omega
                  clear hMm
                  obtain ⟨ao, cp, k0, a2, _⟩ := HX.out.1.open
                  rw [← HR.out.2] at a2 k0
                  obtain ⟨J, hJ⟩ : ∃ J, J + D = M := ⟨M - D, by omega⟩
                  have eJ : (M : Int) - (D : Int) = (J : Int) := by omega
                  have hJw : IntKind.i64.wrap ((M : Int) - (D : Int)) = (J : Int) := by rw [eJ]; exact wrap_i64_nat J (by omega)
                  have hJw2 : IntKind.i64.wrap (J : Int) = (J : Int) := wrap_i64_nat J (by omega)
                  have hJN : J < M := by omega
                  have hJi : (J : Int) < (M : Int) := by omega
                  obtain ⟨g2, rfl, hcell⟩ := row_at a2 hJN
                  obtain ⟨xb, hxb⟩ : ∃ xb, xb = r.getD J 0 := ⟨_, rfl⟩
                  rw [← hxb] at hcell
                  have HR2 : Hid (r ++ [xb] = To.again l D (c + 1) ∧ M + 1 = (r ++ [xb]).length) := by
                    have hJ' : J = r.length - D := by have := HR.out.2; omega
                    refine ⟨?_, by rw [List.length_append, ← HR.out.2]; rfl⟩
                    show r ++ [xb] = To.again l D c ++ [(To.again l D c).getD ((To.again l D c).length - D) 0]
                    rw [← HR.out.1, ← hJ', hxb]
                  have HPE : Hid (Calls Try.prog 107 #[.pointer (some ⟨R, 0, none⟩), .int .u8 ((xb.toNat : Nat) : Int)] wr.drew (SPut wr.drew R base s q3 r lim vk xb)) := sxPut_any R base q3 lim r vk s xb wr.drew HX.out.1.drew (Nat.le_trans HQ.out.2.2.2.2 HX.out.2.1.size) hlim
                  obtain ⟨z, hz⟩ : ∃ z : Int, z = ((xb.toNat : Nat) : Int) := ⟨_, rfl⟩
                  rw [← hz] at hcell HPE
                  have HXX : Hid (InF R base w wr) := HX.out.2.1
                  clear a2 hxb hz hJ HX
                  go_upto_region 13 with fail
                  go_still_tail 14, (by kernel_rfl)
                  repeat still_step
                  go_wp2_with fail
                  refine HPE.out.mono ?_
                  rintro e w4 ⟨rfl, p3, (⟨p1, p2⟩ | ⟨p1, p2⟩)⟩
                  · rw [← HR.out.2] at p1
                    have HK4 : Hid (CpInv w4 w R base s q3 l lim vk D (c + 1) m ANS (r ++ [xb]) (M + 1) 0) := ⟨p2, (HXX.out.drewN 1).trans p3, HR2.out.2, .inl ⟨rfl, HR2.out.1, by omega⟩⟩
                    clear p2 p3 HPE k0 hcell k4
                    go_wp2_with fail
                    go_roundw
                    case rel => exact ⟨c + 1, r ++ [xb], M + 1, 0, by omega, by go_num, by omega, HK4⟩
                    case measure => simp [intOf]; omega
                  · rw [← HR.out.2] at p1
                    have HK4 : Hid (CpInv w4 w R base s q3 l lim vk D (c + 1) m ANS r M 3) := ⟨p2, (HXX.out.drewN 1).trans p3, HR.out.2, .inr ⟨by decide, HNO.out (by omega)⟩⟩
                    clear p2 p3 HPE k0 hcell k4
                    go_wp2_with fail
                    go_roundw
                    case rel => exact ⟨c + 1, r, M, 3, by omega, by go_num, hM, HK4⟩
                    case measure => simp [intOf]; omega
                · have hdi2 : ¬ (d2 : Int) = 0 := by omega
                  have HF : Hid (SEnd ANS w R base s lim vk (.returned (.tuple #[])) wr) := by
                    rcases HX.out.2.2.2 with ⟨e1, _⟩ | ⟨e1, e2⟩
                    · exact absurd e1 hd2
                    · exact SEnd.no e2 e1 HX.out.1 HX.out.2.1
                  clear HX
                  go_wp2_with fail
                  go_end0
                  exact HF.out
              · have hci : ¬ (c : Int) < (N : Int) := by omega
                have HF : Hid (SEnd ANS w R base s lim vk (.returned (.tuple #[])) wr) := by
                  rcases HX.out.2.2.2 with ⟨e1, e2, e3⟩ | ⟨e1, e2⟩
                  · subst e1
                    have hcN : c = N := by omega
                    refine SEnd.ok (L := r) (q := q3) ?_ HX.out.1 HX.out.2.1 hq38 (by rw [← HX.out.2.2.1]; exact hM)
                    rw [HOK.out (by omega), e2, hcN]
                  · exact SEnd.no e2 e1 HX.out.1 HX.out.2.1
                clear HX k4
                go_wp2_with fail
                go_end0
                exact HF.out
          · have hDmi : (D : Int) > (m : Int) := by omega
            have HFL : Hid (Calls Try.prog 68 #[.pointer (some ⟨R, 0, none⟩), .int .i64 1] w5 fun e w' => e = .returned (.tuple #[]) ∧ Sx w' R base s q3 l lim 1 vk ∧ Only R w5 w') := sxFail_new R base q3 lim 1 l vk s w5 HD.out.2.1
            have HE : Hid (ANS = .error 1) := by show _ = _; rw [HANS.out]; exact Nf.copy_rep HS.out.1 HD.out.1 (Nf.rep_bad (by rw [← HM.out]; exact hDm))
            go_wp2_with fail
            refine HFL.out.mono ?_
            rintro e w6 ⟨rfl, h2, h3⟩
            have HF : Hid (SEnd ANS w R base s lim vk (.returned (.tuple #[])) w6) := SEnd.no HE.out (by decide) h2 (HD.out.2.2.trans (InF.of_only h3))
            replace c4 : w6.cell? ⟨R, 4, none⟩ = some (.int .i64 1) := h2.cells.2.2.2.1
            clear h2 h3 HFL HE HD HS HANS c3
            go_wp2_with fail
            go_loopw [13] (fun i wr => i = .int .i64 0 ∧ wr = w6) (fun _ _ => 0)
            case atStart => exact ⟨rfl, rfl⟩
            case round =>
              obtain ⟨rfl, rfl⟩ := hrel
              go_wp2_with fail
              go_end0
              exact HF.out
        · have HF : Hid (SEnd ANS w R base s lim vk (.returned (.tuple #[])) w5) := SEnd.no (c := 2) (by rw [HANS.out]; exact Nf.copy_dist HS.out.1 (HC.out 2 hv)) (by decide) h2 (HW.out.2.2.trans (InF.of_only h3))
          have c4 : w5.cell? ⟨R, 4, none⟩ = some (.int .i64 2) := h2.cells.2.2.2.1
          clear hv h2 h3 HNM HS HW HV HC HANS
          go_wp2_with fail
          go_loopw [13] (fun i wr => i = .int .i64 0 ∧ wr = w5) (fun _ _ => 0)
          case atStart => exact ⟨rfl, rfl⟩
          case round =>
            obtain ⟨rfl, rfl⟩ := hrel
            go_wp2_with fail
            go_end0
            exact HF.out
      · have hdi : (d : Int) > 29 := by omega
        have HFL : Hid (Calls Try.prog 68 #[.pointer (some ⟨R, 0, none⟩), .int .i64 1] w3 fun e w' => e = .returned (.tuple #[]) ∧ Sx w' R base s q2 l lim 1 vk ∧ Only R w3 w') := sxFail_new R base q2 lim 1 l vk s w3 HW.out.2.1
        have HE : Hid (ANS = .error 1) := by show _ = _; rw [HANS.out]; exact Nf.copy_dist HS.out.1 (Nf.dist_bad HW.out.1 hd30)
        clear c4
        go_wp2_with fail
        refine HFL.out.mono ?_
        rintro e w6 ⟨rfl, h2, h3⟩
        have HF : Hid (SEnd ANS w R base s lim vk (.returned (.tuple #[])) w6) := SEnd.no HE.out (by decide) h2 (HW.out.2.2.trans (InF.of_only h3))
        have c4 : w6.cell? ⟨R, 4, none⟩ = some (.int .i64 1) := h2.cells.2.2.2.1
        clear h2 h3 HFL HE HW HS HANS
        go_wp2_with fail
        refine bodyPost_ret (v := .tuple #[]) (by simp [results, Try.results109, go_sem]) rfl ?_
        exact HF.out
    · have HF : Hid (SEnd ANS w R base s lim vk (.returned (.tuple #[])) w3) := SEnd.no (by rw [HANS.out]; exact Nf.copy_dist HS.out.1 (Nf.dist_no hc)) hc0 h2 (HS.out.2.2.trans (InF.of_only h3))
      have c4 := h2.cells.2.2.2.1
      have hci : ¬ (c : Int) = 0 := by omega
      clear hc h2 h3 HSY HS HANS
      go_wp2_with fail
      refine bodyPost_ret (v := .tuple #[]) (by simp [results, Try.results109, go_sem]) rfl ?_
      exact HF.out
  · have HF : Hid (SEnd ANS w R base s lim vk (.returned (.tuple #[])) w2) := SEnd.no (c := 2) (by rw [HANS.out]; exact Nf.copy_size (HC.out 2 hv)) (by decide) h2 (InF.of_only h3)
    have HSO : Hid (Calls Try.prog 108 #[.pointer (some ⟨R, 0, none⟩), .slice x n cx, .slice a n cap] w2 fun e w' => e = .returned (.int .i64 (-1)) ∧ w' = w2) := sxSym_old R base p lim 2 _ _ l vk s w2 h2 (by decide)
    have c4 : w2.cell? ⟨R, 4, none⟩ = some (.int .i64 2) := h2.cells.2.2.2.1
    clear hv h2 h3 HNM HV HC HANS
    go_wp2_with fail
    refine HSO.out.mono ?_
    rintro e w3 ⟨rfl, hw3⟩
    replace hw3 := hw3.symm
    subst hw3
    clear HSO
    go_wp2_with fail
    refine bodyPost_ret (v := .tuple #[]) (by simp [results, Try.results109, go_sem]) rfl ?_
    exact HF.out
end Go.Proofs.Ythfdnloeicbgkaa

/- The symbols of a block, in the specification. -/
namespace Go.Proofs.Ythfdnloeicbgkaa
open Go.RowKit

/-- the loop of body -/
def BdInv (wr w : World) (R base : Nat) (s : ByteArray) (lim : Nat) (vk : Value) (A B : List Int) (ANS : Except Nat (List UInt8 × Nat)) (f q d : Nat) (L : List UInt8) : Prop :=
  Sx wr R base s q L lim d vk ∧ InF R base w wr ∧ ((d = 0 ∧ ANS = Nf.body s lim A B f q L ∧ q ≤ 8 * s.size ∧ 8 * s.size - q < f ∧ L.length ≤ lim) ∨ (d ≠ 0 ∧ ANS = .error d))
theorem Lst.alloc {w : World} {R : Nat} {a : Option Addr} {zs : List Int} (h : Lst w R a zs) (o : Obj) : Lst (w.alloc o) R a zs := h.kept ((Below.refl _ _).alloc (Nat.le_refl _) _)

set_option maxHeartbeats 8000000 in
set_option maxRecDepth 20000 in
theorem sxBody_any (R base p lim na nb ca cb : Nat) (a b : Option Addr) (l : List UInt8) (vk : Value) (s : ByteArray) (A B : List Int) (w : World) (h : Sx w R base s p l lim 0 vk) (hb : base ≤ w.heap.size) (hs : s.size ≤ 9000) (hp : p ≤ 8 * s.size) (hl : l.length ≤ lim) (hlim : lim ≤ 5000) (ha : Lst w R a A) (hB : Lst w R b B) (hna : A.length = na) (hnb : B.length = nb) (ga : GoodC A) (gb : GoodC B) (hla : na ≤ 300) (hlb : nb ≤ 300) :
    Calls Try.prog 66 #[.pointer (some ⟨R, 0, none⟩), .slice a na ca, .slice b nb cb] w (SEnd (Nf.body s lim A B Nf.fuel p l) w R base s lim vk) := by
  obtain ⟨ANS, hANS⟩ : ∃ r, r = Nf.body s lim A B Nf.fuel p l := ⟨_, rfl⟩
  rw [← hANS]
  have HMA : Hid (Calls Try.prog 70 #[.slice a na ca] w fun e w' => e = .returned (.slice (some ⟨w.heap.size, 0, none⟩) na na) ∧ w' = w.alloc (.cells (arr (Mk.mk A)) 3)) := l3Make_any a ca na A w ha.ints hna hla
  obtain ⟨W0, hW0⟩ : ∃ W0, W0 = w.alloc (.cells (arr (Mk.mk A)) 3) := ⟨_, rfl⟩
  have hB0 : Lst W0 R b B := by rw [hW0]; exact hB.alloc _
  have HMB : Hid (Calls Try.prog 70 #[.slice b nb cb] W0 fun e w' => e = .returned (.slice (some ⟨W0.heap.size, 0, none⟩) nb nb) ∧ w' = W0.alloc (.cells (arr (Mk.mk B)) 3)) := l3Make_any b cb nb B W0 hB0.ints hnb hlb
  obtain ⟨W1, hW1⟩ : ∃ W1, W1 = W0.alloc (.cells (arr (Mk.mk B)) 3) := ⟨_, rfl⟩
  have b0 : Below w.heap.size w W0 := by rw [hW0]; exact (Below.refl _ _).alloc (Nat.le_refl _) _
  have b1 : Below w.heap.size w W1 := by rw [hW1]; exact b0.alloc b0.size _
  have hsz0 : W0.heap.size = w.heap.size + 1 := by rw [hW0, World.size_alloc]
  have hRw := h.lt
  obtain ⟨xa, hxa⟩ : ∃ xa, xa = w.heap.size := ⟨_, rfl⟩
  obtain ⟨xb, hxb⟩ : ∃ xb, xb = W0.heap.size := ⟨_, rfl⟩
  have HT : Hid (Lst W1 R (some ⟨xa, 0, none⟩) (Mk.mk A) ∧ Lst W1 R a A ∧ Lst W1 R (some ⟨xb, 0, none⟩) (Mk.mk B) ∧ Lst W1 R b B ∧ A.length = na ∧ B.length = nb ∧ GoodC A ∧ GoodC B ∧ InF R base w W1 ∧ base ≤ W1.heap.size) := by
    refine ⟨?_, ?_, ?_, ?_, hna, hnb, ga, gb, InF.of_below b1, Nat.le_trans hb b1.size⟩
    · rw [hW1, hxa]; refine Lst.alloc ?_ _; rw [hW0]; exact Lst.arr w (Mk.mk A) (by omega)
    · rw [hW1, hW0]; exact (ha.alloc _).alloc _
    · rw [hW1, hxb]; exact Lst.arr W0 (Mk.mk B) (by omega)
    · rw [hW1]; exact hB0.alloc _
  have HX0 : Hid (BdInv W1 W1 R base s lim vk A B ANS Nf.fuel p 0 l) := ⟨h.kept b1, InF.refl _ _ _, .inl ⟨rfl, hANS, hp, by unfold Nf.fuel; omega, hl⟩⟩
  rw [← hW0, ← hxa] at HMA
  rw [← hW1, ← hxb] at HMB
  clear h hb ha hB hna hnb ga gb hANS b0 b1 hB0 hW0 hW1 hsz0 hRw hxa hxb hp hl
  go_enter Try.func66, Try.ntmps66
  go_wp2_with fail
  refine HMA.out.mono ?_
  rintro e w1 ⟨rfl, hw1⟩
  subst hw1
  clear HMA
  go_wp2_with fail
  refine HMB.out.mono ?_
  rintro e w1 ⟨rfl, hw1⟩
  subst hw1
  clear HMB
  go_wp2_with fail
  go_loopw [8] (fun _ wr => ∃ (f q d : Nat) (L : List UInt8), Hid (BdInv wr w1 R base s lim vk A B ANS f q d L)) (fun _ wr => stOf R (8 * s.size) wr)
  case atStart => exact ⟨_, p, 0, l, HX0⟩
  case round =>
    obtain ⟨f, q, d, L, HX⟩ := hrel
    clear HX0
    have c4 := HX.out.1.cells.2.2.2.1
    by_cases hd : d = 0
    · subst hd
      replace c4 : wr.cell? ⟨R, 4, none⟩ = some (.int .i64 0) := c4
      have HY0 : Hid (ANS = Nf.body s lim A B f q L) := by
        rcases HX.out.2.2 with ⟨_, e, _⟩ | ⟨e, _⟩
        · exact e
        · exact absurd rfl e
      have hbd : q ≤ 8 * s.size ∧ 8 * s.size - q < f ∧ L.length ≤ lim := by
        rcases HX.out.2.2 with ⟨_, _, e⟩ | ⟨e, _⟩
        · exact e
        · exact absurd rfl e
      obtain ⟨hq, hf, hL⟩ := hbd
      obtain ⟨f2, rfl⟩ : ∃ f2, f = f2 + 1 := ⟨f - 1, by omega⟩
      have HSY : Hid (Calls Try.prog 108 #[.pointer (some ⟨R, 0, none⟩), .slice (some ⟨xa, 0, none⟩) na na, .slice a na ca] wr (SSym wr R base s q L lim vk A)) := sxSym_any R base q lim na na ca _ a L vk s A wr HX.out.1 hs hq (HT.out.1.inF HX.out.2.1).ints (HT.out.2.1.inF HX.out.2.1).ints HT.out.2.2.2.2.1 HT.out.2.2.2.2.2.2.1 hla
      have HST : Hid (stOf R (8 * s.size) wr = 8 * s.size - q + 1) := stOf_go HX.out.1
      have HI : Hid (InF R base w1 wr) := HX.out.2.1
      clear HX
      go_wp2_with fail
      refine HSY.out.mono ?_
      rintro e w2 (⟨y, q1, hy, rfl, h2, h3⟩ | ⟨c, hc, hc0, rfl, h2, h3⟩)
      · have hsy := Nf.sym_ok HT.out.2.2.2.2.2.2.1 hy
        have hq1 := hsy.1
        have hq2 := hsy.2.1
        have hylen : y < 300 := by have := hsy.2.2; have := HT.out.2.2.2.2.1; omega
        have HY : Hid (Nf.sym s A q = .ok (y, q1) ∧ ANS = Nf.body s lim A B (f2 + 1) q L) := ⟨hy, HY0.out⟩
        have HW : Hid (Sx w2 R base s q1 L lim 0 vk ∧ InF R base w1 w2) := ⟨h2, HI.out.trans (InF.of_only h3)⟩
        have hy0 : ¬ (y : Int) < 0 := by omega
        have hy0b : decide ((y : Int) < 0) = false := decide_eq_false hy0
        clear hy h2 h3 hsy HSY c4 HY0 HI
        by_cases hb256 : y < 256
        · have hyi : (y : Int) < 256 := by omega
          have hyi2 : ((y : Int) == 256) = false := by simp; omega
          have hcv := byte_wrap y hb256
          obtain ⟨ch, hch⟩ : ∃ ch, ch = UInt8.ofNat y := ⟨_, rfl⟩
          rw [← hch] at hcv
          have HPE : Hid (Calls Try.prog 107 #[.pointer (some ⟨R, 0, none⟩), .int .u8 ((ch.toNat : Nat) : Int)] w2 (SPut w2 R base s q1 L lim vk ch)) := sxPut_any R base q1 lim L vk s ch w2 HW.out.1 (Nat.le_trans HT.out.2.2.2.2.2.2.2.2.2 HW.out.2.size) hlim
          obtain ⟨z, hz⟩ : ∃ z : Int, z = ((ch.toNat : Nat) : Int) := ⟨_, rfl⟩
          rw [← hz] at hcv HPE
          have HCH : Hid (ch = UInt8.ofNat y) := hch
          clear hz hch
          go_wp2_with fail
          refine HPE.out.mono ?_
          rintro e w3 ⟨rfl, p3, (⟨p1, p2⟩ | ⟨p1, p2⟩)⟩
          · have HF : Hid (BdInv w3 w1 R base s lim vk A B ANS f2 q1 0 (L ++ [ch])) := ⟨p2, HW.out.2.trans p3, .inl ⟨rfl, by rw [HY.out.2, Nf.body_byte HY.out.1 hb256 p1, HCH.out], hq2, by omega, by rw [List.length_append]; exact p1⟩⟩
            clear p2 p3 HPE HW HY HCH
            go_wp2_with fail
            go_roundw
            case rel => exact ⟨f2, q1, 0, _, HF⟩
            case measure => rw [HST.out, stOf_go HF.out.1]; omega
          · have HF : Hid (BdInv w3 w1 R base s lim vk A B ANS f2 q1 3 L) := ⟨p2, HW.out.2.trans p3, .inr ⟨by decide, by rw [HY.out.2, Nf.body_full HY.out.1 hb256 p1]⟩⟩
            clear p2 p3 HPE HW HY HCH
            go_wp2_with fail
            go_roundw
            case rel => exact ⟨f2, q1, 3, _, HF⟩
            case measure => rw [HST.out, stOf_no HF.out.1 (by decide)]; omega
        · have hyi : ¬ (y : Int) < 256 := by omega
          by_cases he : y = 256
          · have HF : Hid (SEnd ANS w R base s lim vk (.returned (.tuple #[])) w2) := SEnd.ok (by rw [HY.out.2, Nf.body_end HY.out.1 he]) HW.out.1 (HT.out.2.2.2.2.2.2.2.2.1.trans HW.out.2) hq2 hL
            subst he
            clear HY HW
            go_wp2_with fail
            refine bodyPost_ret (v := .tuple #[]) (by simp [results, Try.results66, go_sem]) rfl ?_
            exact HF.out
          · have hei : ((y : Int) == 256) = false := by simp; omega
            by_cases h286 : y < 286
            · have h286i : ¬ (y : Int) > 285 := by omega
              have HCP : Hid (Calls Try.prog 109 #[.pointer (some ⟨R, 0, none⟩), .int .i64 (y : Int), .slice (some ⟨xb, 0, none⟩) nb nb, .slice b nb cb] w2 (SEnd (Nf.copy s lim B (y - 257) q1 L) w2 R base s lim vk)) := sxCopy_any R base q1 lim (y - 257) y nb nb cb _ b L vk s B w2 HW.out.1 (Nat.le_trans HT.out.2.2.2.2.2.2.2.2.2 HW.out.2.size) hs hq2 hL hlim (by omega) (by omega) (HT.out.2.2.1.inF HW.out.2) (HT.out.2.2.2.1.inF HW.out.2) HT.out.2.2.2.2.2.1 HT.out.2.2.2.2.2.2.2.1 hlb
              have hgt : 256 < y := by omega
              go_wp2_with fail
              refine HCP.out.mono ?_
              rintro e w3 ⟨rfl, (⟨L2, q4, hcp, h2, h3, h4, h5⟩ | ⟨c, hcp, hc0, ⟨p', l', h2⟩, h3⟩)⟩
              · have hgo : q1 < q4 := by
                  unfold Nf.copy at hcp
                  split at hcp
                  · cases hcp
                  · rename_i n1 q5 hsz
                    split at hcp
                    · cases hcp
                    · rename_i d1 q6 hds
                      split at hcp
                      · cases hcp
                      · have e1 := (size_bound hsz (by omega)).2.2
                        have e2 := (dist_bound HT.out.2.2.2.2.2.2.2.1 hds).2.2.2
                        cases hcp
                        omega
                have HF : Hid (BdInv w3 w1 R base s lim vk A B ANS f2 q4 0 L2) := ⟨h2, HW.out.2.trans h3, .inl ⟨rfl, by rw [HY.out.2, Nf.body_copy HY.out.1 hgt h286 hcp], h4, by omega, h5⟩⟩
                clear hcp h2 h3 HCP HW HY
                go_wp2_with fail
                go_roundw
                case rel => exact ⟨f2, q4, 0, _, HF⟩
                case measure => rw [HST.out, stOf_go HF.out.1]; omega
              · have HF : Hid (BdInv w3 w1 R base s lim vk A B ANS f2 p' c l') := ⟨h2, HW.out.2.trans h3, .inr ⟨hc0, by rw [HY.out.2, Nf.body_stop HY.out.1 hgt h286 hcp]⟩⟩
                clear hcp h2 h3 HCP HW HY
                go_wp2_with fail
                go_roundw
                case rel => exact ⟨f2, p', c, _, HF⟩
                case measure => rw [HST.out, stOf_no HF.out.1 hc0]; omega
            · have h286i : (y : Int) > 285 := by omega
              have HFL : Hid (Calls Try.prog 68 #[.pointer (some ⟨R, 0, none⟩), .int .i64 1] w2 fun e w' => e = .returned (.tuple #[]) ∧ Sx w' R base s q1 L lim 1 vk ∧ Only R w2 w') := sxFail_new R base q1 lim 1 L vk s w2 HW.out.1
              have HE : Hid (ANS = .error 1) := by show _ = _; rw [HY.out.2, Nf.body_bad HY.out.1 (by omega)]
              go_wp2_with fail
              refine HFL.out.mono ?_
              rintro e w3 ⟨rfl, h2, h3⟩
              have HF : Hid (BdInv w3 w1 R base s lim vk A B ANS f2 q1 1 L) := ⟨h2, HW.out.2.trans (InF.of_only h3), .inr ⟨by decide, HE.out⟩⟩
              clear h2 h3 HFL HW HY HE
              go_wp2_with fail
              go_roundw
              case rel => exact ⟨f2, q1, 1, _, HF⟩
              case measure => rw [HST.out, stOf_no HF.out.1 (by decide)]; omega
      · have HF : Hid (SEnd ANS w R base s lim vk (.returned (.tuple #[])) w2) := SEnd.no (by rw [HY0.out, Nf.body_no hc]) hc0 h2 (HT.out.2.2.2.2.2.2.2.2.1.trans (HI.out.trans (InF.of_only h3)))
        clear hc h2 h3 HSY c4 HY0
        go_wp2_with fail
        refine bodyPost_ret (v := .tuple #[]) (by simp [results, Try.results66, go_sem]) rfl ?_
        exact HF.out
    · have hdi : ¬ (d : Int) = 0 := by omega
      have HF : Hid (SEnd ANS w R base s lim vk (.returned (.tuple #[])) wr) := by
        rcases HX.out.2.2 with ⟨e, _⟩ | ⟨e1, e2⟩
        · exact absurd e hd
        · exact SEnd.no e2 e1 HX.out.1 (HT.out.2.2.2.2.2.2.2.2.1.trans HX.out.2.1)
      clear HX
      go_wp2_with fail
      go_end0
      exact HF.out
end Go.Proofs.Ythfdnloeicbgkaa

/- A block that is not packed, as the inflater reads it. -/
namespace Go.Proofs.Ythfdnloeicbgkaa
open Go.RowKit

set_option maxHeartbeats 1000000 in
theorem nfUsed_any (R base p lim : Nat) (l : List UInt8) (vk fx : Value) (s : ByteArray) (w : World) (h : In w R base s p l lim vk fx) (hp : p ≤ 100000) :
    Calls Try.prog 16 #[.pointer (some ⟨R, 0, none⟩)] w fun e w' => e = .returned (.int .i64 (((p + 7) / 8 : Nat) : Int)) ∧ w' = w := by
  have c2 := h.cells.2.2.1
  obtain ⟨u, hu⟩ : ∃ u, u = (p + 7) / 8 := ⟨_, rfl⟩
  have e1 : ((p : Int) + 7) / 8 = (u : Int) := by omega
  have e2 : ((p : Int) + 7).tdiv 8 = (u : Int) := by rw [Int.tdiv_eq_ediv_of_nonneg (by omega)]; exact e1
  have e3 := wrap_i64_nat u (by omega)
  have e4 : IntKind.i64.wrap ((p : Int) + 7) = (p : Int) + 7 := by have := wrap_i64_nat (p + 7) (by omega); rw [show ((p + 7 : Nat) : Int) = (p : Int) + 7 by omega] at this; exact this
  rw [← hu]
  clear h hu
  go_enter Try.func16, Try.ntmps16
  go_wp2_with fail
  go_ret
  exact ⟨rfl, rfl⟩

set_option linter.unusedSimpArgs false in
set_option maxHeartbeats 4000000 in
set_option maxRecDepth 20000 in
theorem nfPlain_any (R base p lim : Nat) (l : List UInt8) (vk fx : Value) (s : ByteArray) (w : World) (h : In w R base s p l lim vk fx) (hb : base ≤ w.heap.size) (hs : s.size ≤ 9000) (hp : p ≤ 8 * s.size) (hl : l.length ≤ lim) (hlim : lim ≤ 5000) :
    Calls Try.prog 59 #[.pointer (some ⟨R, 0, none⟩)] w (BlkEnd w R base s lim vk fx (Nf.plain s lim p l)) := by
  have HUS : Hid (Calls Try.prog 16 #[.pointer (some ⟨R, 0, none⟩)] w fun e w' => e = .returned (.int .i64 (((p + 7) / 8 : Nat) : Int)) ∧ w' = w) := nfUsed_any R base p lim l vk fx s w h (by omega)
  obtain ⟨P, hP⟩ : ∃ P, P = 8 * ((p + 7) / 8) := ⟨_, rfl⟩
  obtain ⟨u, hu⟩ : ∃ u, u = (p + 7) / 8 := ⟨_, rfl⟩
  have hPu : 8 * (u : Int) = (P : Int) := by omega
  have hPw : IntKind.i64.wrap (8 * (u : Int)) = (P : Int) := by rw [hPu]; exact wrap_i64_nat P (by omega)
  have hPl : P ≤ 8 * s.size := by omega
  have HPP : Hid (P = 8 * ((p + 7) / 8)) := hP
  rw [← hu] at HUS
  have c2 := h.cells.2.2.1
  have f2 := h.froz 2
  obtain ⟨ANS, hANS⟩ : ∃ r, r = Nf.plain s lim p l := ⟨_, rfl⟩
  obtain ⟨w1, hw1⟩ : ∃ w1, w1 = w.setCell ⟨R, 2, none⟩ (.int .i64 (P : Int)) := ⟨_, rfl⟩
  have HI1 : Hid (In w1 R base s P l lim vk fx ∧ InF R base w w1) := by rw [hw1]; exact ⟨(h.move P).1, InF.of_only (h.move P).2⟩
  have HANS : Hid (ANS = Nf.plain s lim p l) := hANS
  have HB : Hid (base ≤ w.heap.size) := hb
  rw [← hANS]
  clear h hP hu hANS hb
  go_enter Try.func59, Try.ntmps59
  go_wp2_with fail
  refine HUS.out.mono ?_
  rintro e w0 ⟨rfl, hw0⟩
  replace hw0 := hw0.symm
  subst hw0
  go_upto_region 1 with fail
  rw [← hw1]
  have HN1 : Hid (Calls Try.prog 63 #[.pointer (some ⟨R, 0, none⟩), .int .i64 16] w1 (NumEnd w1 R base s P 16 l lim vk fx)) := nfNumber_any R P 16 base lim l vk fx s w1 HI1.out.1 hs hPl (by omega)
  clear hw1 c2 f2 HUS hPu hPw
  go_wp2_with fail
  refine HN1.out.mono ?_
  rintro e w2 (⟨N, hN, rfl, h2, h3⟩ | ⟨hN, rfl, h3⟩)
  · have hNb := (Nf.nxt_ok hN).2.2
    have hP2 := (Nf.nxt_ok hN).1
    have HN2 : Hid (Calls Try.prog 63 #[.pointer (some ⟨R, 0, none⟩), .int .i64 16] w2 (NumEnd w2 R base s (P + 16) 16 l lim vk fx)) := nfNumber_any R (P + 16) 16 base lim l vk fx s w2 h2 hs hP2 (by omega)
    have HW : Hid (Nf.nxt s 16 (8 * ((p + 7) / 8)) = .ok N ∧ InF R base w w2) := ⟨by rw [← HPP.out]; exact hN, HI1.out.2.trans (InF.of_only h3)⟩
    clear hN h2 h3 HN1
    go_wp2_with fail
    refine HN2.out.mono ?_
    rintro e w3 (⟨M, hM, rfl, h2, h3⟩ | ⟨hM, rfl, h3⟩)
    · have hMb := (Nf.nxt_ok hM).2.2
      have hP3 := (Nf.nxt_ok hM).1
      have HM : Hid (Nf.nxt s 16 (8 * ((p + 7) / 8) + 16) = .ok M) := by rw [← HPP.out]; exact hM
      have HW3 : Hid (In w3 R base s (P + 16 + 16) l lim vk fx ∧ InF R base w w3) := ⟨h2, HW.out.2.trans (InF.of_only h3)⟩
      clear hM h2 h3 HN2
      by_cases hsum : N + M = 65535
      · have hsi : (N : Int) + (M : Int) = 65535 := by omega
        have HX0 : Hid (In w3 R base s (P + 32) l lim vk fx ∧ InF R base w w3 ∧ ANS = Nf.take s lim (N - 0) (P + 32) l ∧ P + 32 ≤ 8 * s.size ∧ l.length ≤ lim) := ⟨HW3.out.1, HW3.out.2, by rw [HANS.out, Nf.plain_ok HW.out.1 HM.out hsum, ← HPP.out]; rfl, by omega, hl⟩
        clear HW HW3 HM HANS HI1
        go_wp2_with fail
        refine (insist_of _ 1 _ (by first | rfl | simp <;> omega)).mono ?_
        rintro e w4 ⟨rfl, hw4⟩
        replace hw4 := hw4.symm
        subst hw4
        clear hsi hsum hP3 hP2 hMb
        go_wp2_with fail
        go_loopw [23] (fun i wr => ∃ (c q : Nat) (L : List UInt8), c ≤ N ∧ i = .int .i64 (c : Int) ∧ Hid (In wr R base s q L lim vk fx ∧ InF R base w wr ∧ ANS = Nf.take s lim (N - c) q L ∧ q ≤ 8 * s.size ∧ L.length ≤ lim)) (fun i _ => N - (intOf i).toNat)
        case atStart => exact ⟨0, P + 32, l, Nat.zero_le _, rfl, HX0⟩
        case round =>
          obtain ⟨c, q, L, hc, rfl, HX⟩ := hrel
          clear HX0
          by_cases hlt : c < N
          · have hci : (c : Int) < (N : Int) := by omega
            have HNM : Hid (Calls Try.prog 63 #[.pointer (some ⟨R, 0, none⟩), .int .i64 8] wr.drew (NumEnd wr.drew R base s q 8 L lim vk fx)) := nfNumber_any R q 8 base lim L vk fx s wr.drew HX.out.1.drew hs HX.out.2.2.2.1 (by omega)
            go_upto_region 5 with fail
            refine wp_region_held_drew (S := fun _ => True) (by kernel_rfl) trivial (fun hHeld => ?_)
            refine wpAnyH_take (i := 0) (v := .pointer (some ⟨R, 0, none⟩)) rfl (by kernel_rfl) (by kernel_rfl) (by kernel_rfl) (fun _ _ _ h => h) (Or.inl ⟨by rfl, ?_⟩) hHeld ?_
            · intro w' _
              go_simp
            try simp only [List.getElem_toArray, List.getElem_cons_succ, List.getElem_cons_zero, Act.put, List.setIfInBounds_toArray, List.set_cons_zero, List.set_cons_succ]
            refine wpAnyH_take (i := 1) (v := .pointer (some ⟨R, 0, none⟩)) rfl (by kernel_rfl) (by kernel_rfl) (by kernel_rfl) (fun _ _ _ h => h) (Or.inl ⟨by rfl, ?_⟩) hHeld ?_
            · intro w' _
              go_simp
            try simp only [List.getElem_toArray, List.getElem_cons_succ, List.getElem_cons_zero, Act.put, List.setIfInBounds_toArray, List.set_cons_zero, List.set_cons_succ]
            refine wpAnyH_take (i := 2) (v := .pointer (some ⟨R, 3, none⟩)) rfl (by kernel_rfl) (by kernel_rfl) (by kernel_rfl) (fun _ _ _ h => h) (Or.inl ⟨by rfl, ?_⟩) hHeld ?_
            · intro w' _
              go_simp
            try simp only [List.getElem_toArray, List.getElem_cons_succ, List.getElem_cons_zero, Act.put, List.setIfInBounds_toArray, List.set_cons_zero, List.set_cons_succ]
            refine wpAnyH_take (i := 3) (v := .pointer (some ⟨R, 0, none⟩)) rfl (by kernel_rfl) (by kernel_rfl) (by kernel_rfl) (fun _ _ _ h => h) (Or.inl ⟨by rfl, ?_⟩) hHeld ?_
            · intro w' _
              go_simp
            try simp only [List.getElem_toArray, List.getElem_cons_succ, List.getElem_cons_zero, Act.put, List.setIfInBounds_toArray, List.set_cons_zero, List.set_cons_succ]
            refine wpAnyH_take (i := 4) (v := .pointer (some ⟨R, 0, none⟩)) rfl (by kernel_rfl) (by kernel_rfl) (by kernel_rfl) (fun _ _ _ h => h) (Or.inl ⟨by rfl, ?_⟩) hHeld ?_
            · intro w' _
              go_simp
            try simp only [List.getElem_toArray, List.getElem_cons_succ, List.getElem_cons_zero, Act.put, List.setIfInBounds_toArray, List.set_cons_zero, List.set_cons_succ]
            refine wpAnyH_take (i := 5) (v := .pointer (some ⟨R, 0, none⟩)) rfl (by kernel_rfl) (by kernel_rfl) (by kernel_rfl) (fun _ _ _ h => h) (Or.inl ⟨by rfl, ?_⟩) hHeld ?_
            · intro w' _
              go_simp
            try simp only [List.getElem_toArray, List.getElem_cons_succ, List.getElem_cons_zero, Act.put, List.setIfInBounds_toArray, List.set_cons_zero, List.set_cons_succ]
            refine wpAnyH_ready (rs := [6]) (by kernel_rfl) (by simp) ?_
            refine AllReadyH.cons rfl (fun K hK => ?_) AllReadyH.nil
            go_simp
            refine (HNM.out).mono ?_
            rintro e w2 (⟨v, hv, rfl, h2, h3⟩ | ⟨hv, rfl, h3⟩)
            · have hvb := (Nf.nxt_ok hv).2.2
              have hq8 := (Nf.nxt_ok hv).1
              obtain ⟨ch, hch⟩ : ∃ ch, ch = UInt8.ofNat v := ⟨_, rfl⟩
              have hcv := byte_wrap v (by omega)
              rw [← hch] at hcv
              have HV : Hid (Nf.nxt s 8 q = .ok v ∧ ch = UInt8.ofNat v ∧ InF R base w w2) := ⟨hv, hch, (HX.out.2.1.drewN 1).trans (InF.of_only h3)⟩
              have HPE : Hid (Calls Try.prog 100 #[.pointer (some ⟨R, 3, none⟩), .int .u8 ((ch.toNat : Nat) : Int)] w2 (PutEnd w2 R base s (q + 8) L lim vk fx ch)) := nfPut_any R base (q + 8) lim L vk fx s ch w2 h2 (Nat.le_trans HB.out HV.out.2.2.size) hlim
              obtain ⟨z, hz⟩ : ∃ z : Int, z = ((ch.toNat : Nat) : Int) := ⟨_, rfl⟩
              rw [← hz] at hcv HPE
              clear hz hch hv h2 h3 HNM
              refine hK.out _ _ trivial (fun hHeld => ?_)
              clear hK K
              try simp only [List.getElem_toArray, List.getElem_cons_succ, List.getElem_cons_zero, Act.put, List.setIfInBounds_toArray, List.set_cons_zero, List.set_cons_succ]
              refine wpAnyH_take (i := 7) (v := .int .u8 z) rfl (by kernel_rfl) (by kernel_rfl) (by kernel_rfl) (fun _ _ _ h => h) (Or.inl ⟨by rfl, ?_⟩) hHeld ?_
              · intro w' _
                go_simp
              try simp only [List.getElem_toArray, List.getElem_cons_succ, List.getElem_cons_zero, Act.put, List.setIfInBounds_toArray, List.set_cons_zero, List.set_cons_succ]
              refine wpAnyH_ready (rs := [8]) (by kernel_rfl) (by simp) ?_
              refine AllReadyH.cons rfl (fun K hK => ?_) AllReadyH.nil
              go_simp
              refine (HPE.out).mono ?_
              rintro e w4 (⟨p1, rfl, p2, p3⟩ | ⟨p1, rfl, p3⟩)
              · have HF : Hid (In w4 R base s (q + 8) (L ++ [ch]) lim vk fx ∧ InF R base w w4 ∧ ANS = Nf.take s lim (N - (c + 1)) (q + 8) (L ++ [ch]) ∧ q + 8 ≤ 8 * s.size ∧ (L ++ [ch]).length ≤ lim) :=
                  ⟨p2, HV.out.2.2.trans p3, by rw [HX.out.2.2.1, show N - c = N - (c + 1) + 1 by omega, Nf.take_ok HV.out.1 p1, HV.out.2.1], hq8, by rw [List.length_append]; exact p1⟩
                clear p2 p3 HPE HV HX
                refine hK.out _ _ trivial (fun hHeld => ?_)
                clear hK K
                try simp only [List.getElem_toArray, List.getElem_cons_succ, List.getElem_cons_zero, Act.put, List.setIfInBounds_toArray, List.set_cons_zero, List.set_cons_succ]
                refine wpAnyH_done (by kernel_rfl) ?_ _
                try simp only [List.getElem_toArray, List.getElem_cons_succ, List.getElem_cons_zero, Act.put, List.setIfInBounds_toArray, List.set_cons_zero, List.set_cons_succ]
                go_wp2_with fail
                go_roundw
                case rel => exact ⟨c + 1, q + 8, _, by omega, by go_num, HF⟩
                case measure => simp [intOf]; omega
              · have HF : Hid (BlkEnd w R base s lim vk fx ANS (fault 3) w4) := .inr (Fails.mk (c := 3) (by rw [HX.out.2.2.1, show N - c = N - (c + 1) + 1 by omega, Nf.take_full HV.out.1 p1]) (by decide) (HV.out.2.2.trans p3))
                clear p3 HPE HV HX
                unfold fault
                go_wp2_with fail
                exact ⟨rfl, HF.out⟩
            · have HF : Hid (BlkEnd w R base s lim vk fx ANS (fault 2) w2) := .inr (Fails.mk (c := 2) (by rw [HX.out.2.2.1, show N - c = N - (c + 1) + 1 by omega, Nf.take_no hv]) (by decide) ((HX.out.2.1.drewN 1).trans h3))
              clear hv h3 HNM HX
              unfold fault
              go_wp2_with fail
              exact ⟨rfl, HF.out⟩
          · have hci : ¬ (c : Int) < (N : Int) := by omega
            have HF : Hid (BlkEnd w R base s lim vk fx ANS (.returned (.tuple #[])) wr) := .inl ⟨L, q, by rw [HX.out.2.2.1, show N - c = 0 by omega]; rfl, ⟨_, rfl⟩, HX.out.1, HX.out.2.1, HX.out.2.2.2.1, HX.out.2.2.2.2⟩
            clear HX
            go_wp2_with fail
            go_end0
            exact HF.out
      · have hsi : ¬ (N : Int) + (M : Int) = 65535 := by omega
        have HF : Hid (BlkEnd w R base s lim vk fx ANS (fault 1) w3) := .inr (Fails.mk (c := 1) (by rw [HANS.out, Nf.plain_bad HW.out.1 HM.out hsum]) (by decide) HW3.out.2)
        clear HW HW3 HM HANS HI1
        go_wp2_with fail
        refine (insist_not _ 1 _ (by first | rfl | simp <;> omega)).mono ?_
        rintro e w4 ⟨rfl, hw4⟩
        replace hw4 := hw4.symm
        subst hw4
        unfold fault
        go_wp2_with fail
        exact ⟨rfl, HF.out⟩
    · have HF : Hid (BlkEnd w R base s lim vk fx ANS (fault 2) w3) := .inr (Fails.mk (c := 2) (by rw [HANS.out, Nf.plain_no2 HW.out.1 (by rw [← HPP.out]; exact hM)]) (by decide) (HW.out.2.trans h3))
      clear hM h3 HN2
      unfold fault
      go_wp2_with fail
      exact ⟨rfl, HF.out⟩
  · have HF : Hid (BlkEnd w R base s lim vk fx ANS (fault 2) w2) := .inr (Fails.mk (c := 2) (by rw [HANS.out, Nf.plain_no1 (by rw [← HPP.out]; exact hN)]) (by decide) (HI1.out.2.trans h3))
    clear hN h3 HN1
    unfold fault
    go_wp2_with fail
    exact ⟨rfl, HF.out⟩
end Go.Proofs.Ythfdnloeicbgkaa

/- A block of the fixed codes, and a block of no kind. -/
namespace Go.Proofs.Ythfdnloeicbgkaa
open Go.RowKit

/-- the fixed codes, if they are made already -/
def Fixd (w : World) (R : Nat) (fx : Value) : Prop :=
  fx = .pointer none ∨ ∃ F BA BB, fx = .pointer (some ⟨F, 0, none⟩) ∧ w.heap[F]? = some (.cells #[.pointer (some ⟨BA, 0, none⟩), .pointer (some ⟨BB, 0, none⟩)] 143 (0, 0)) ∧ F ≠ R ∧ Tree w R BA Df.fixS ∧ Tree w R BB Df.fixD
theorem Fixd.inF {w w' : World} {R base : Nat} {fx : Value} (h : Fixd w R fx) (hf : InF R base w w') : Fixd w' R fx := by
  rcases h with h | ⟨F, BA, BB, h1, h2, h3, h4, h5⟩
  · exact .inl h
  · exact .inr ⟨F, BA, BB, h1, hf.block h2 h3 (by decide), h3, h4.inF hf, h5.inF hf⟩
/-- how a block of any kind ends -/
def BlkX (w : World) (R base : Nat) (s : ByteArray) (lim : Nat) (vk : Value) (ANS : Except Nat (List UInt8 × Nat)) (e : Ending) (w' : World) : Prop :=
  (∃ L q fx, ANS = .ok (L, q) ∧ (∃ r, e = .returned r) ∧ In w' R base s q L lim vk fx ∧ Fixd w' R fx ∧ InF R base w w' ∧ q ≤ 8 * s.size ∧ L.length ≤ lim) ∨ Fails ANS R base w e w'
theorem BlkEnd.x {w w' : World} {R base lim : Nat} {s : ByteArray} {vk fx : Value} {ANS : Except Nat (List UInt8 × Nat)} {e : Ending} (h : BlkEnd w R base s lim vk fx ANS e w') (hx : Fixd w R fx) : BlkX w R base s lim vk ANS e w' := by
  rcases h with ⟨L, q, h1, h2, h3, h4, h5, h6⟩ | h
  · exact .inl ⟨L, q, fx, h1, h2, h3, hx.inF h4, h4, h5, h6⟩
  · exact .inr h
theorem fixS_good : GoodC Df.fixS := goodC Df.fixS_ok
theorem fixD_good : GoodC Df.fixD := goodC Df.fixD_ok
theorem Treed.tree {w w' : World} {zs : List Int} {e : Ending} {R : Nat} (h : Treed w zs e w') (hR : R < w.heap.size) : e = .returned (.pointer (some ⟨w.heap.size, 0, none⟩)) ∧ Tree w' R w.heap.size zs ∧ Below w.heap.size w w' := by
  obtain ⟨h1, ⟨N, h2, h3⟩, h4⟩ := h
  exact ⟨h1, ⟨w.heap.size, N, hR, h2, h3⟩, h4⟩
theorem DRow.ints' {w : World} {g : Nat} {l : List Int} (h : DRow w g l) : Ints w (some ⟨g, 0, none⟩) l := .inr ⟨g, 0, rfl, h.lt, fun i hi => by rw [Nat.zero_add]; exact h.cell i hi⟩
theorem In.setFx {w : World} {R base p lim : Nat} {s : ByteArray} {l : List UInt8} {vk fx : Value} (h : In w R base s p l lim vk fx) (v : Value) : In (w.setCell ⟨R, 6, none⟩ v) R base s p l lim vk v ∧ InF R base w (w.setCell ⟨R, 6, none⟩ v) := ⟨(h.setFixed v).1, InF.of_only (h.setFixed v).2⟩

set_option maxHeartbeats 4000000 in
set_option maxRecDepth 20000 in
theorem nfFixed_any (R base p lim : Nat) (l : List UInt8) (vk fx : Value) (s : ByteArray) (w : World) (h : In w R base s p l lim vk fx) (hx : Fixd w R fx) (hb : base ≤ w.heap.size) (hs : s.size ≤ 9000) (hp : p ≤ 8 * s.size) (hl : l.length ≤ lim) (hlim : lim ≤ 5000) :
    Calls Try.prog 60 #[.pointer (some ⟨R, 0, none⟩)] w (BlkX w R base s lim vk (Nf.body s lim Df.fixS Df.fixD Nf.fuel p l)) := by
  have f6 := h.froz 6
  have c6 := h.cells.2.2.2.2.2
  have HI : Hid (In w R base s p l lim vk fx ∧ base ≤ w.heap.size) := ⟨h, hb⟩
  obtain ⟨ANS, hANS⟩ : ∃ r, r = Nf.body s lim Df.fixS Df.fixD Nf.fuel p l := ⟨_, rfl⟩
  have HBD : Hid (∀ (W : World) (F BA BB : Nat), In W R base s p l lim vk (.pointer (some ⟨F, 0, none⟩)) → base ≤ W.heap.size → W.heap[F]? = some (.cells #[.pointer (some ⟨BA, 0, none⟩), .pointer (some ⟨BB, 0, none⟩)] 143 (0, 0)) → F ≠ R → Tree W R BA Df.fixS → Tree W R BB Df.fixD → InF R base w W →
      Calls Try.prog 102 #[.pointer (some ⟨R, 0, none⟩), .agg #[.pointer (some ⟨BA, 0, none⟩), .pointer (some ⟨BB, 0, none⟩)]] W (BlkX w R base s lim vk ANS)) := fun W F BA BB k1 k2 k3 k4 k5 k6 k7 => by
    rw [hANS]
    refine (nfBody_any R base p lim BA BB l vk _ s Df.fixS Df.fixD W k1 k2 hs hp hl hlim k5 k6 fixS_good fixD_good (by rw [Df.fixS_len]; omega)).mono ?_
    intro e w' g
    rcases g.x (.inr ⟨F, BA, BB, rfl, k3, k4, k5, k6⟩) with ⟨L, q, fx, h1, h2, h3, h4, h5, h6⟩ | ⟨c, h1, h2, h3, h4⟩
    · exact .inl ⟨L, q, fx, h1, h2, h3, h4, k7.trans h5, h6⟩
    · exact .inr ⟨c, h1, h2, h3, k7.trans h4⟩
  rw [← hANS]
  clear hANS h hb
  rcases hx with rfl | ⟨F, BA, BB, rfl, k1, k2, k3, k4⟩
  · clear hp hl
    go_enter Try.func60, Try.ntmps60
    go_wp2_with fail
    refine (fixedLengths_any w).mono ?_
    rintro e w1 ⟨⟨b1, b2, rfl, h1, h2, d1, d2⟩, bl1⟩
    have HD : Hid (DRow w1 b1 Df.fixS ∧ DRow w1 b2 Df.fixD ∧ Below w.heap.size w w1 ∧ R < w1.heap.size) := ⟨d1, d2, bl1, Nat.lt_of_lt_of_le HI.out.1.lt bl1.size⟩
    have HT1 : Hid (Calls Try.prog 101 #[.slice (some ⟨b1, 0, none⟩) 288 288] w1 (Treed w1 Df.fixS)) := numberTree_any _ 288 288 Df.fixS w1 d1.ints' Df.fixS_len fixS_good
    clear h1 h2 d1 d2 bl1 c6
    go_wp2_with fail
    refine HT1.out.mono ?_
    intro e w2 ht
    obtain ⟨rfl, t1, bl2⟩ := ht.tree HD.out.2.2.2
    have HT2 : Hid (Calls Try.prog 101 #[.slice (some ⟨b2, 0, none⟩) 32 32] w2 (Treed w2 Df.fixD)) := numberTree_any _ 32 32 Df.fixD w2 (HD.out.2.1.kept (bl2.block b2 HD.out.2.1.lt)).ints' Df.fixD_len fixD_good
    have HE : Hid (Tree w2 R w1.heap.size Df.fixS ∧ Below w.heap.size w w2 ∧ R < w2.heap.size) := ⟨t1, HD.out.2.2.1.trans (bl2.mono HD.out.2.2.1.size), Nat.lt_of_lt_of_le HD.out.2.2.2 bl2.size⟩
    obtain ⟨BA, hBA⟩ : ∃ BA, BA = w1.heap.size := ⟨_, rfl⟩
    rw [← hBA] at HE ⊢
    clear ht t1 bl2 HT1 hBA HD
    go_wp2_with fail
    refine HT2.out.mono ?_
    intro e w3 ht
    obtain ⟨rfl, t2, bl3⟩ := ht.tree HE.out.2.2
    obtain ⟨BB, hBB⟩ : ∃ BB, BB = w2.heap.size := ⟨_, rfl⟩
    rw [← hBB] at t2 ⊢
    obtain ⟨F, hF⟩ : ∃ F, F = w3.heap.size := ⟨_, rfl⟩
    obtain ⟨W4, hW4⟩ : ∃ W4, W4 = w3.alloc (.cells #[.pointer (some ⟨BA, 0, none⟩), .pointer (some ⟨BB, 0, none⟩)] 143) := ⟨_, rfl⟩
    have b4 : Below w3.heap.size w3 W4 := by rw [hW4]; exact (Below.refl _ _).alloc (Nat.le_refl _) _
    have bw3 : Below w.heap.size w w3 := HE.out.2.1.trans (bl3.mono HE.out.2.1.size)
    have bw4 : Below w.heap.size w W4 := bw3.trans (b4.mono bw3.size)
    have hI4 : In W4 R base s p l lim vk (.pointer none) := HI.out.1.kept bw4
    have hc4 : W4.heap[F]? = some (.cells #[.pointer (some ⟨BA, 0, none⟩), .pointer (some ⟨BB, 0, none⟩)] 143 (0, 0)) := by rw [hW4, hF]; exact heap_alloc_new _ _
    have hFR : F ≠ R := by have := HE.out.2.2; have := bl3.size; omega
    obtain ⟨W5, hW5⟩ : ∃ W5, W5 = W4.setCell ⟨R, 6, none⟩ (.pointer (some ⟨F, 0, none⟩)) := ⟨_, rfl⟩
    have hI5 : In W5 R base s p l lim vk (.pointer (some ⟨F, 0, none⟩)) ∧ InF R base W4 W5 := by rw [hW5]; exact hI4.setFx _
    have hI3 := HI.out.1.kept bw3
    have g6 := hI3.froz 6
    have d6 := hI3.cells.2.2.2.2.2
    have hR3 := hI3.lt
    have g6' := hI4.froz 6
    have d6' := hI4.cells.2.2.2.2.2
    rw [hW4] at g6' d6'
    have HF5 : Hid (Calls Try.prog 102 #[.pointer (some ⟨R, 0, none⟩), .agg #[.pointer (some ⟨BA, 0, none⟩), .pointer (some ⟨BB, 0, none⟩)]] W5 (BlkX w R base s lim vk ANS)) :=
      HBD.out W5 F BA BB hI5.1 (Nat.le_trans HI.out.2 (Nat.le_trans bw4.size hI5.2.size)) (hI5.2.block hc4 hFR (by decide)) hFR (((HE.out.1.kept bl3).kept b4).inF hI5.2) ((t2.kept b4).inF hI5.2) ((InF.of_below bw4).trans hI5.2)
    have q6 := hI5.1.cells.2.2.2.2.2
    have hc5 := hI5.2.block hc4 hFR (by decide)
    have q0 : W5.cell? ⟨F, 0, none⟩ = some (.pointer (some ⟨BA, 0, none⟩)) := by simp [World.cell?, hc5]
    have q1 : W5.cell? ⟨F, 1, none⟩ = some (.pointer (some ⟨BB, 0, none⟩)) := by simp [World.cell?, hc5]
    have hW5' : W5 = (w3.setCell ⟨R, 6, none⟩ (.pointer (some ⟨F, 0, none⟩))).alloc (.cells #[.pointer (some ⟨BA, 0, none⟩), .pointer (some ⟨BB, 0, none⟩)] 143) := by
      rw [hW5, hW4, World.setCell_alloc_past _ _ _ _ (by first | exact hR3 | (simp; omega))]
    clear hI5 hI4 hI3 bw4 bw3 b4 hc4 hc5 t2 bl3 ht HT2 HE hBB
    go_upto_region 3 with fail
    rw [← hF, ← hW5']
    clear hF hW4 hW5 hW5' g6 d6 g6' d6' hR3
    go_wp2_with fail
    refine HF5.out.mono ?_
    rintro e w6 (⟨L, q, fx, h1, ⟨r, rfl⟩, h3⟩ | ⟨c, h1, h2, rfl, h3⟩)
    · have HF : Hid (BlkX w R base s lim vk ANS (.returned (.tuple #[])) w6) := .inl ⟨L, q, fx, h1, ⟨_, rfl⟩, h3⟩
      clear h1 h3 HF5 q0 q1 q6
      go_wp2_with fail
      go_end0
      exact HF.out
    · have HF : Hid (BlkX w R base s lim vk ANS (fault (c : Int)) w6) := .inr ⟨c, h1, h2, rfl, h3⟩
      clear h1 h3 HF5 q0 q1 q6
      unfold fault
      go_wp2_with fail
      exact ⟨rfl, HF.out⟩
  · have HF5 : Hid (Calls Try.prog 102 #[.pointer (some ⟨R, 0, none⟩), .agg #[.pointer (some ⟨BA, 0, none⟩), .pointer (some ⟨BB, 0, none⟩)]] w (BlkX w R base s lim vk ANS)) :=
      HBD.out w F BA BB HI.out.1 HI.out.2 k1 k2 k3 k4 (InF.refl _ _ _)
    have q0 : w.cell? ⟨F, 0, none⟩ = some (.pointer (some ⟨BA, 0, none⟩)) := by simp [World.cell?, k1]
    have q1 : w.cell? ⟨F, 1, none⟩ = some (.pointer (some ⟨BB, 0, none⟩)) := by simp [World.cell?, k1]
    clear k1 k2 k3 k4 hp hl
    go_enter Try.func60, Try.ntmps60
    go_wp2_with fail
    refine HF5.out.mono ?_
    rintro e w6 (⟨L, q, fx, h1, ⟨r, rfl⟩, h3⟩ | ⟨c, h1, h2, rfl, h3⟩)
    · have HF : Hid (BlkX w R base s lim vk ANS (.returned (.tuple #[])) w6) := .inl ⟨L, q, fx, h1, ⟨_, rfl⟩, h3⟩
      clear h1 h3 HF5 q0 q1 c6
      go_wp2_with fail
      go_end0
      exact HF.out
    · have HF : Hid (BlkX w R base s lim vk ANS (fault (c : Int)) w6) := .inr ⟨c, h1, h2, rfl, h3⟩
      clear h1 h3 HF5 q0 q1 c6
      unfold fault
      go_wp2_with fail
      exact ⟨rfl, HF.out⟩

theorem nfNo_any (R : Nat) (w : World) :
    Calls Try.prog 62 #[.pointer (some ⟨R, 0, none⟩)] w fun e w' => e = fault 1 ∧ w' = w := by
  go_enter Try.func62, Try.ntmps62
  go_wp2_with fail
  refine (insist_no 1 _).mono ?_
  rintro e w1 ⟨rfl, hw1⟩
  subst hw1
  unfold fault
  go_wp2_with fail
  exact ⟨rfl, rfl, rfl⟩
end Go.Proofs.Ythfdnloeicbgkaa

/- The symbol of a size and of a distance, and its further bits: the specification's. -/
namespace Go.Proofs.Ythfdnloeicbgkaa
open Go.RowKit

def SzIs (x : Nat) (w : World) (e : Ending) (w' : World) : Prop := e = .returned (.tuple #[.int .i64 ((257 + Df.szSym x : Nat) : Int), .agg #[.int .i64 (Df.szBit x).1, .int .i64 (Df.szBit x).2]]) ∧ Below w.heap.size w w'
def DsIs (x : Nat) (w : World) (e : Ending) (w' : World) : Prop := e = .returned (.tuple #[.int .i64 ((Df.dsSym x : Nat) : Int), .agg #[.int .i64 (Df.dsBit x).1, .int .i64 (Df.dsBit x).2]]) ∧ Below w.heap.size w w'
theorem szIs_mk {x k L M : Nat} (w : World) (o : Obj) (hd : Df.szSym x = k) (hL : (Df.szN k).1 = L) (hM : (Df.szN k).2 = M) : SzIs x w (.returned (.tuple #[.int .i64 ((257 + k : Nat) : Int), .agg #[.int .i64 ((x - L : Nat) : Int), .int .i64 (M : Int)]])) (w.alloc o) := by
  subst hd hL hM
  exact ⟨rfl, (Below.refl _ _).alloc (Nat.le_refl _) _⟩
theorem dsIs_mk {x k L M : Nat} (w : World) (o : Obj) (hd : Df.dsSym x = k) (hL : (Df.dsN k).1 = L) (hM : (Df.dsN k).2 = M) : DsIs x w (.returned (.tuple #[.int .i64 (k : Int), .agg #[.int .i64 ((x - L : Nat) : Int), .int .i64 (M : Int)]])) (w.alloc o) := by
  subst hd hL hM
  exact ⟨rfl, (Below.refl _ _).alloc (Nat.le_refl _) _⟩

set_option maxHeartbeats 2000000 in
theorem l5Size_any (x : Nat) (h3 : 3 ≤ x) (hx : x ≤ 258) (w : World) :
    Calls Try.prog 72 #[.int .i64 (x : Int)] w (SzIs x w) := by
  go_enter Try.func72, Try.ntmps72
  go_wp2_with fail
  go_loopw [4] (fun i wr => ∃ (k S : Nat), k < 29 ∧ S = 257 + k ∧ i = .int .i64 (S : Int) ∧ Hid (Df.szSym x = Df.down (fun k => (Df.szN k).1) x k) ∧ wr = w.alloc (.cells #[.int .i64 0, .int .i64 0] 55)) (fun i _ => (intOf i).toNat)
  case atStart => exact ⟨28, 285, by omega, rfl, rfl, rfl, rfl⟩
  case round =>
    obtain ⟨k, S, hk, hS, rfl, HD, hw⟩ := hrel
    subst hw
    have HS : Hid (S = 257 + k) := hS
    have hS1 : 257 ≤ S := by omega
    have hS2 : S ≤ 285 := by omega
    have hSi : (257 : Int) ≤ (S : Int) := by omega
    have HC : Hid (Calls Try.prog 114 #[.int .i64 (S : Int)] (w.alloc (.cells #[.int .i64 0, .int .i64 0] 55)) fun e w' => e = .returned (.tuple #[.int .i64 (((Df.szN k).1 : Nat) : Int), .int .i64 (((Df.szN k).2 : Nat) : Int)]) ∧ w' = w.alloc (.cells #[.int .i64 0, .int .i64 0] 55)) := by rw [hS]; exact l4Size_any k hk _
    obtain ⟨hb1, hb2, hb3⟩ := Df.szN_all k hk
    obtain ⟨L, hL⟩ : ∃ L, (Df.szN k).1 = L := ⟨_, rfl⟩
    obtain ⟨M, hM⟩ : ∃ M, (Df.szN k).2 = M := ⟨_, rfl⟩
    have HL : Hid ((Df.szN k).1 = L ∧ (Df.szN k).2 = M) := ⟨hL, hM⟩
    rw [hL, hM] at HC
    rw [hL] at hb1 hb2
    rw [hM] at hb3
    clear hL hM hS
    go_wp2_with fail
    refine HC.out.mono ?_
    rintro e w2 ⟨rfl, hw2⟩
    subst hw2
    clear HC
    by_cases hge : L ≤ x
    · have hgi : decide ((x : Int) ≥ (L : Int)) = true := by simp; omega
      have hsub : (x : Int) - (L : Int) = ((x - L : Nat) : Int) := by omega
      have HF : Hid (SzIs x w (.returned (.tuple #[.int .i64 (S : Int), .agg #[.int .i64 ((x - L : Nat) : Int), .int .i64 (M : Int)]])) (w.alloc (.cells #[.int .i64 ((x - L : Nat) : Int), .int .i64 (M : Int)] 55))) := by
        rw [HS.out]
        exact szIs_mk w _ (by rw [HD.out]; exact Df.down_yes (f := fun k => (Df.szN k).1) (by show (Df.szN k).1 ≤ x; rw [HL.out.1]; exact hge)) HL.out.1 HL.out.2
      clear HL HD HS
      obtain ⟨V, hV⟩ : ∃ V, x - L = V := ⟨_, rfl⟩
      rw [hV] at hsub HF
      have hVb : V ≤ 258 := by omega
      clear hV
      go_wp2_with fail
      exact bodyPost_ret (v := .tuple #[.int .i64 (S : Int), .agg #[.int .i64 (V : Int), .int .i64 (M : Int)]]) (by simp [results, Try.results72, go_sem]) rfl HF.out
    · have hgi : decide ((x : Int) ≥ (L : Int)) = false := by simp; omega
      have hk0 : k ≠ 0 := fun h0 => by
        have := HL.out.1
        rw [h0] at this
        have h9 : (Df.szN 0).1 = 3 := by decide
        omega
      have HD2 : Hid (Df.szSym x = Df.down (fun k => (Df.szN k).1) x (k - 1)) := by
        obtain ⟨j, rfl⟩ : ∃ j, k = j + 1 := ⟨k - 1, by omega⟩
        show _ = _
        rw [HD.out, Df.down_no (f := fun k => (Df.szN k).1) (by show ¬ (Df.szN (j + 1)).1 ≤ x; rw [HL.out.1]; exact hge)]
        rfl
      have hs9 : S - 1 = 257 + (k - 1) := by have := HS.out; omega
      have HS9 : Hid (S - 1 = 257 + (k - 1)) := hs9
      clear HL HD HS hs9
      go_wp2_with fail
      go_roundw
      case rel => exact ⟨k - 1, S - 1, by omega, HS9.out, by go_num, HD2, by trivial⟩
      case measure => simp [intOf]; omega

set_option maxHeartbeats 2000000 in
theorem l5Dist_any (x : Nat) (h3 : 1 ≤ x) (hx : x ≤ 30000) (w : World) :
    Calls Try.prog 73 #[.int .i64 (x : Int)] w (DsIs x w) := by
  go_enter Try.func73, Try.ntmps73
  go_wp2_with fail
  go_loopw [4] (fun i wr => ∃ (k : Nat), k < 30 ∧ i = .int .i64 (k : Int) ∧ Hid (Df.dsSym x = Df.down (fun k => (Df.dsN k).1) x k) ∧ (k = 0 → x < 2) ∧ wr = w.alloc (.cells #[.int .i64 0, .int .i64 0] 55)) (fun i _ => (intOf i).toNat)
  case atStart => exact ⟨29, by omega, rfl, rfl, (fun h => by omega), rfl⟩
  case round =>
    obtain ⟨k, hk, rfl, HD, hx2, hw⟩ := hrel
    subst hw
    by_cases hk0 : k = 0
    · subst hk0
      obtain rfl : x = 1 := by have := hx2 rfl; omega
      have HF1 : Hid (DsIs 1 w (.returned (.tuple #[.int .i64 0, .agg #[.int .i64 0, .int .i64 0]])) (w.alloc (.cells #[.int .i64 0, .int .i64 0] 55))) := dsIs_mk (k := 0) (L := 1) (M := 0) w _ (by decide) (by decide) (by decide)
      clear hx2 HD
      go_wp2_with fail
      exact bodyPost_ret (v := .tuple #[.int .i64 0, .agg #[.int .i64 0, .int .i64 0]]) (by simp [results, Try.results73, go_sem]) rfl HF1.out
    clear hx2
    have HC : Hid (Calls Try.prog 115 #[.int .i64 (k : Int)] (w.alloc (.cells #[.int .i64 0, .int .i64 0] 55)) fun e w' => e = .returned (.tuple #[.int .i64 (((Df.dsN k).1 : Nat) : Int), .int .i64 (((Df.dsN k).2 : Nat) : Int)]) ∧ w' = w.alloc (.cells #[.int .i64 0, .int .i64 0] 55)) := l4Dist_any k hk _
    obtain ⟨hb1, hb2, hb3⟩ := Df.dsN_all k hk
    obtain ⟨L, hL⟩ : ∃ L, (Df.dsN k).1 = L := ⟨_, rfl⟩
    obtain ⟨M, hM⟩ : ∃ M, (Df.dsN k).2 = M := ⟨_, rfl⟩
    have HL : Hid ((Df.dsN k).1 = L ∧ (Df.dsN k).2 = M) := ⟨hL, hM⟩
    rw [hL, hM] at HC
    rw [hL] at hb1 hb2
    rw [hM] at hb3
    clear hL hM
    have hki : (0 : Int) < (k : Int) := by omega
    go_wp2_with fail
    refine HC.out.mono ?_
    rintro e w2 ⟨rfl, hw2⟩
    subst hw2
    clear HC
    by_cases hge : L ≤ x
    · have hgi : decide ((x : Int) ≥ (L : Int)) = true := by simp; omega
      have hsub : (x : Int) - (L : Int) = ((x - L : Nat) : Int) := by omega
      have HF : Hid (DsIs x w (.returned (.tuple #[.int .i64 (k : Int), .agg #[.int .i64 ((x - L : Nat) : Int), .int .i64 (M : Int)]])) (w.alloc (.cells #[.int .i64 ((x - L : Nat) : Int), .int .i64 (M : Int)] 55))) := dsIs_mk w _ (by rw [HD.out]; exact Df.down_yes (f := fun k => (Df.dsN k).1) (by show (Df.dsN k).1 ≤ x; rw [HL.out.1]; exact hge)) HL.out.1 HL.out.2
      clear HL HD
      obtain ⟨V, hV⟩ : ∃ V, x - L = V := ⟨_, rfl⟩
      rw [hV] at hsub HF
      have hVb : V ≤ 30000 := by omega
      clear hV
      go_wp2_with fail
      exact bodyPost_ret (v := .tuple #[.int .i64 (k : Int), .agg #[.int .i64 (V : Int), .int .i64 (M : Int)]]) (by simp [results, Try.results73, go_sem]) rfl HF.out
    · have hgi : decide ((x : Int) ≥ (L : Int)) = false := by simp; omega
      have HD2 : Hid (Df.dsSym x = Df.down (fun k => (Df.dsN k).1) x (k - 1)) := by
        obtain ⟨j, rfl⟩ : ∃ j, k = j + 1 := ⟨k - 1, by omega⟩
        show _ = _
        rw [HD.out, Df.down_no (f := fun k => (Df.dsN k).1) (by show ¬ (Df.dsN (j + 1)).1 ≤ x; rw [HL.out.1]; exact hge)]
        rfl
      have hx3 : k - 1 = 0 → x < 2 := fun h => by
        have h1 := HL.out.1
        rw [show k = 1 by omega] at h1
        have h9 : (Df.dsN 1).1 = 2 := by decide
        omega
      have HX3 : Hid (k - 1 = 0 → x < 2) := hx3
      clear HL HD hx3
      go_wp2_with fail
      go_roundw
      case rel => exact ⟨k - 1, by omega, by go_num, HD2, HX3.out, by trivial⟩
      case measure => simp [intOf]; omega
end Go.Proofs.Ythfdnloeicbgkaa

/- Tokens of a text, by the specification: those of Ty. -/
namespace Go.Proofs.Ythfdnloeicbgkaa
open Go.RowKit

set_option maxHeartbeats 2000000 in
set_option maxRecDepth 20000 in
theorem l5Match_is (s : ByteArray) (a c : Nat) (w : World) (hs : s.size ≤ 9001) (hab : a ≤ c) (hb : c ≤ s.size) :
    Calls Try.prog 116 #[.string s, .int .i64 (a : Int), .int .i64 (c : Int)] w fun e w' => e = .returned (.int .i64 ((Ty.mat s a c 258 : Nat) : Int)) ∧ ∃ q, w' = w.drewN q := by
  go_enter Try.func116, Try.ntmps116
  go_wp2_with fail
  go_loopw [7] (fun i wr => ∃ n q : Nat, n ≤ 258 ∧ c + n ≤ s.size ∧ i = .int .i64 (n : Int) ∧ Hid (Ty.mat s a c 258 = n + Ty.mat s (a + n) (c + n) (258 - n)) ∧ Hid (wr = w.drewN q)) (fun i _ => 258 - (intOf i).toNat)
  case atStart => exact ⟨0, 0, by omega, by omega, rfl, by show _ = _; simp, rfl⟩
  case round =>
    obtain ⟨n, q, hn, hbn, rfl, HM, HW⟩ := hrel
    by_cases h1 : n < 258
    · have d1 : decide ((n : Int) < 258) = true := decide_eq_true (by omega)
      obtain ⟨B, hB⟩ : ∃ B, B = c + n := ⟨_, rfl⟩
      have eB : (c : Int) + (n : Int) = (B : Int) := by omega
      have fB := wrap_i64_nat B (by omega)
      obtain ⟨A, hA⟩ : ∃ A, A = a + n := ⟨_, rfl⟩
      have eA : (a : Int) + (n : Int) = (A : Int) := by omega
      have fA := wrap_i64_nat A (by omega)
      by_cases h2 : B < s.size
      · have d2 : decide ((B : Int) < (s.size : Int)) = true := decide_eq_true (by omega)
        have hA2 : A < s.size := by omega
        have hAi : (A : Int) < (s.size : Int) := by omega
        have hBi : (B : Int) < (s.size : Int) := by omega
        have hBn : c + (n + 1) ≤ s.size := by omega
        by_cases h3 : (s[A]).toNat = (s[B]).toNat
        · have HM2 : Hid (Ty.mat s a c 258 = (n + 1) + Ty.mat s (a + (n + 1)) (c + (n + 1)) (258 - (n + 1))) := by
            show _ = _
            rw [HM.out, show 258 - n = (258 - (n + 1)) + 1 by omega, Ty.mat_yes (by omega) (by rw [← hA, ← hB, Ty.b_at hA2, Ty.b_at h2, h3]), show a + n + 1 = a + (n + 1) by omega, show c + n + 1 = c + (n + 1) by omega]
            omega
          have d3 : (((s[A]).toNat : Int) == ((s[B]).toNat : Int)) = true := by rw [beq_iff_eq]; omega
          clear h3 hB hA HM
          go_wp2_with fail
          go_quiet (fail)
          go_wp2_with fail
          go_roundw
          case rel => exact ⟨n + 1, q + nq, by omega, hBn, by go_num, HM2, by show _ = _; rw [HW.out, World.drewN_drewN]⟩
          case measure => simp [intOf]; omega
        · have HM2 : Hid (Ty.mat s a c 258 = n) := by
            show _ = _
            rw [HM.out, Ty.mat_no (by rw [← hA, ← hB, Ty.b_at hA2, Ty.b_at h2]; exact fun h => h3 h.2)]; rfl
          have d3 : (((s[A]).toNat : Int) == ((s[B]).toNat : Int)) = false := by rw [beq_eq_false_iff_ne]; omega
          clear h3 hB hA HM
          go_wp2_with fail
          go_quiet (fail)
          go_wp2_with fail
          go_ret
          exact ⟨by rw [HM2.out]; rfl, q + nq, by rw [HW.out, World.drewN_drewN]⟩
      · have d2 : decide ((B : Int) < (s.size : Int)) = false := decide_eq_false (by omega)
        have HM2 : Hid (Ty.mat s a c 258 = n) := by
          show _ = _
          rw [HM.out, Ty.mat_no (by rw [← hB]; exact fun h => h2 h.1)]; rfl
        clear hB hA HM
        go_wp2_with fail
        go_quiet (fail)
        go_wp2_with fail
        go_ret
        exact ⟨by rw [HM2.out]; rfl, q + nq, by rw [HW.out, World.drewN_drewN]⟩
    · have d1 : decide ((n : Int) < 258) = false := decide_eq_false (by omega)
      have HM2 : Hid (Ty.mat s a c 258 = n) := by
        show _ = _
        rw [HM.out, show 258 - n = 0 by omega]; rfl
      clear HM
      go_wp2_with fail
      go_quiet (fail)
      go_wp2_with fail
      go_ret
      exact ⟨by rw [HM2.out]; rfl, q + nq, by rw [HW.out, World.drewN_drewN]⟩

def BestIs (s : ByteArray) (A : Nat) (w : World) (e : Ending) (w' : World) : Prop := e = .returned (.tuple #[.int .i64 (((Ty.bst s A A).1 : Nat) : Int), .int .i64 (((Ty.bst s A A).2 : Nat) : Int)]) ∧ ∃ q, w' = w.drewN q
set_option maxHeartbeats 2000000 in
set_option maxRecDepth 20000 in
theorem l5Best_is (s : ByteArray) (A : Nat) (w : World) (hs : s.size ≤ 9001) (hA : A ≤ s.size) :
    Calls Try.prog 74 #[.string s, .int .i64 (A : Int)] w (BestIs s A w) := by
  have HM : Hid (∀ (a : Nat) (w : World), a ≤ A → Calls Try.prog 116 #[.string s, .int .i64 (a : Int), .int .i64 (A : Int)] w fun e w' => e = .returned (.int .i64 ((Ty.mat s a A 258 : Nat) : Int)) ∧ ∃ q, w' = w.drewN q) := fun a w h => l5Match_is s a A w hs h hA
  go_enter Try.func74, Try.ntmps74
  go_wp2_with fail
  go_loopw [6, 7, 8] (fun n d i wr => ∃ N D k q : Nat, n = .int .i64 (N : Int) ∧ d = .int .i64 (D : Int) ∧ i = .int .i64 ((k + 1 : Nat) : Int) ∧ k ≤ A ∧ Hid (Ty.bst s A k = (N, D)) ∧ Hid (wr = w.drewN q)) (fun _ _ i _ => A + 1 - (intOf i).toNat)
  case atStart => exact ⟨0, 0, 0, 0, rfl, rfl, rfl, by omega, rfl, rfl⟩
  case round =>
    obtain ⟨N, D, k, q, rfl, rfl, rfl, hk2, HB, HW⟩ := hrel
    obtain ⟨k1, hk1⟩ : ∃ k1, k1 = k + 1 := ⟨_, rfl⟩
    rw [← hk1]
    have hk1b : k1 ≤ A + 1 := by omega
    by_cases hk : k1 ≤ A
    · have hki : (k1 : Int) ≤ (A : Int) := by omega
      obtain ⟨a, ha⟩ : ∃ a, a = A - k1 := ⟨_, rfl⟩
      have ea : (A : Int) - (k1 : Int) = (a : Int) := by omega
      have HMC := HM.out a wr (by omega)
      obtain ⟨n, hn⟩ : ∃ n, n = Ty.mat s a A 258 := ⟨_, rfl⟩
      rw [← hn] at HMC
      have HMH : Hid (Calls Try.prog 116 #[.string s, .int .i64 (a : Int), .int .i64 (A : Int)] wr fun e w' => e = .returned (.int .i64 (n : Int)) ∧ ∃ q, w' = wr.drewN q) := HMC
      have hn1 : n ≤ 258 := by rw [hn]; exact Ty.mat_le _ _ _ _
      have HB2 : Hid (Ty.bst s A (k + 1) = if N < n then (n, k1) else (N, D)) := by
        show _ = _
        rw [Ty.bst, HB.out, Ty.upd, ← hk1, ← ha, ← hn]
        show (if N < n then (n, A - a) else (N, D)) = _
        rw [show A - a = k1 by omega]
      have hK1 : Hid (k1 = k + 1) := hk1
      clear HMC ha hn HB hk1
      go_wp2_with fail
      refine HMH.out.mono ?_
      rintro e w2 ⟨rfl, q2, hq2⟩
      have HW2 : Hid (w2 = w.drewN (q + q2)) := by show _ = _; rw [hq2, HW.out, World.drewN_drewN]
      clear hq2 HMH
      by_cases hgt : N < n
      · have hgti : (N : Int) < (n : Int) := by omega
        go_wp2_with fail
        go_roundw
        case rel => exact ⟨n, k1, k1, q + q2, rfl, rfl, by go_num, by omega, by show _ = _; rw [hK1.out, HB2.out, if_pos hgt, hK1.out], HW2.out⟩
        case measure => simp [intOf]; omega
      · have hgti : ¬ (N : Int) < (n : Int) := by omega
        go_wp2_with fail
        go_roundw
        case rel => exact ⟨N, D, k1, q + q2, rfl, rfl, by go_num, by omega, by show _ = _; rw [hK1.out, HB2.out, if_neg hgt], HW2.out⟩
        case measure => simp [intOf]; omega
    · have hki : ¬ (k1 : Int) ≤ (A : Int) := by omega
      have hkA : k = A := by omega
      have HB3 : Ty.bst s A A = (N, D) := by rw [← HB.out, hkA]
      have HF : Hid (BestIs s A w (.returned (.tuple #[.int .i64 (N : Int), .int .i64 (D : Int)])) wr) := ⟨by rw [HB3], q, HW.out⟩
      clear hkA hk1 HB HB3
      go_wp2_with fail
      exact bodyPost_ret (v := .tuple #[.int .i64 (N : Int), .int .i64 (D : Int)]) (by simp [results, Try.results74, go_sem]) rfl HF.out

/-- just these tokens, in a row of its own -/
def TkIs (w : World) (l : List Tk) (e : Ending) (w' : World) : Prop :=
  ∃ (ao : Option Addr) (cap : Nat), e = .returned (.slice ao l.length cap) ∧ OwnK w' w.heap.size (.slice ao l.length cap) l.length l ∧ Below w.heap.size w w'

set_option maxHeartbeats 2000000 in
set_option maxRecDepth 20000 in
theorem l5Tokens_is (s : ByteArray) (w : World) (hs : s.size ≤ 5000) :
    Calls Try.prog 39 #[.string s] w (TkIs w (Ty.from_ s 0)) := by
  have HE : Hid (OwnK (w.alloc (.cells #[] 70)) w.heap.size (.slice (some ⟨w.heap.size, 0, none⟩) 0 0) 0 []) := tk_own_none w
  have HM : Hid (∀ (A : Nat) (w : World), A ≤ s.size → Calls Try.prog 74 #[.string s, .int .i64 (A : Int)] w (BestIs s A w)) := fun A w h => l5Best_is s A w (by omega) h
  obtain ⟨i0, hi0, hz0, hz1, hz2⟩ := info_parts info_tok
  go_enter Try.func39, Try.ntmps39
  go_wp2_with fail
  go_loopw [3, 4] (fun o i wr => ∃ (A : Nat) (l : List Tk) (ao : Option Addr) (cap : Nat), A ≤ s.size ∧ l.length ≤ A ∧ i = .int .i64 (A : Int) ∧ o = .slice ao l.length cap ∧ Hid (Ty.from_ s 0 = l ++ Ty.from_ s A) ∧ Hid (OwnK wr w.heap.size (.slice ao l.length cap) l.length l ∧ Below w.heap.size w wr)) (fun _ i _ => s.size - (intOf i).toNat)
  case atStart => exact ⟨0, [], _, _, Nat.zero_le _, Nat.zero_le _, rfl, rfl, rfl, HE.out, (Below.refl _ _).alloc (Nat.le_refl _) _⟩
  case round =>
    obtain ⟨A, l, ao, cap, hA, hlA, rfl, rfl, HX, HS⟩ := hrel
    clear HE
    by_cases hlt : A < s.size
    · have hlti : (A : Int) < (s.size : Int) := by omega
      have hbst := Ty.bst_le s A A
      have hadv := Ty.adv_in hlt
      have HX2 : Hid (Ty.from_ s 0 = (l ++ [Ty.tok s A]) ++ Ty.from_ s (A + Ty.adv s A)) := by
        show _ = _
        rw [HX.out, Ty.from_step hlt, List.append_assoc]; rfl
      have hT : Ty.tok s A = if 3 ≤ (Ty.bst s A A).1 then (0, ((Ty.bst s A A).1 : Int), ((Ty.bst s A A).2 : Int)) else ((Ty.b s A : Int), 0, 0) := rfl
      have hV : Ty.adv s A = if 3 ≤ (Ty.bst s A A).1 then (Ty.bst s A A).1 else 1 := rfl
      have HMC := HM.out A wr hA
      unfold BestIs at HMC
      generalize Ty.tok s A = tk at *
      generalize Ty.adv s A = av at *
      generalize Ty.bst s A A = nd at *
      obtain ⟨n, d⟩ := nd
      dsimp only at HMC hT hV hbst
      have HMH : Hid (Calls Try.prog 74 #[.string s, .int .i64 (A : Int)] wr fun e w' => e = .returned (.tuple #[.int .i64 (n : Int), .int .i64 (d : Int)]) ∧ ∃ q, w' = wr.drewN q) := HMC
      clear HMC HX
      go_wp2_with fail
      refine HMH.out.mono ?_
      rintro e w2 ⟨rfl, q2, hq2⟩
      have hown : OwnK w2 w.heap.size (.slice ao l.length cap) l.length l := by rw [hq2]; exact HS.out.1
      have hbel : Below w.heap.size w w2 := by rw [hq2]; exact below_drewN HS.out.2 q2
      have hbs : w.heap.size ≤ w2.heap.size := hbel.size
      have hlt0 := World.ownsRow.lt (show World.ownsRow _ _ _ _ _ _ _ from hown)
      have hm63 : l.length + 1 ≤ maxLen := by unfold maxLen; omega
      have hlen : (l.length + 1) * 24 ≤ 140737488355328 := by omega
      clear hq2 HMH HS
      by_cases hn3 : n < 3
      · have hn3i : (n : Int) < 3 := by omega
        rw [if_neg (by omega)] at hT hV
        rw [Ty.b_at hlt] at hT
        obtain ⟨c, hc⟩ : ∃ c : Nat, c = (s[A]).toNat := ⟨_, rfl⟩
        have hcb : c < 256 := by rw [hc]; exact UInt8.toNat_lt _
        rw [← hc] at hT
        rw [hT, hV] at HX2
        have hc' : (s[A]).toNat = c := hc.symm
        have hone : ∀ u ∈ [Value.int .i64 (c : Int), Value.int .i64 0, Value.int .i64 0], u.oneCell' = true := by intro u hu; simp at hu; rcases hu with rfl | rfl | rfl <;> rfl
        clear hc hT hV
        go_wp2_with (at_builtin; refine wpList_append_lies _ (by rfl) _ _ _ (by rfl) w.heap.size 70 i0 (.agg #[.int .i64 0, .int .i64 0, .int .i64 0]) 3 24 Try.underlying68 hi0 hz0 hz1 hz2 rfl (by decide) _ l.length (tkCells l) (by rfl) (World.ownsRow.alloc (show World.ownsRow _ _ _ _ _ _ _ from hown) _) ⟨w2.heap.size, 0, none⟩ 1 1 [.int .i64 (c : Int), .int .i64 0, .int .i64 0] (by rfl) rfl (World.news_of_block (heap_alloc_new _ _)) hone (by decide) hm63 hlen (by simp; omega) _ rfl ?_)
        intro g cap2 w4 hown4 hgrow hat hlt4
        have hb4 : Below w.heap.size w w4 := (hbel.alloc hbs _).grown hgrow (by simp; omega) (fun k hk => (hlt0 k hk).1)
        have HF4 : Hid (OwnK w4 w.heap.size (.slice (some ⟨g, 0, none⟩) (l.length + 1) cap2) (l.length + 1) (l ++ [((c : Int), 0, 0)]) ∧ Below w.heap.size w w4) := ⟨OwnK.more hown4, hb4⟩
        clear hown4 hgrow hat hlt0 hown hbel hone hm63 hlen hlt4 hb4
        go_wp2_with fail
        go_roundw
        case rel => exact ⟨A + 1, l ++ [((c : Int), 0, 0)], some ⟨g, 0, none⟩, cap2, by omega, by rw [List.length_append]; show l.length + 1 ≤ _; omega, by go_num, by rw [List.length_append]; rfl, HX2, by rw [List.length_append]; exact HF4.out⟩
        case measure => simp [intOf]; omega
      · have hn3i : ¬ (n : Int) < 3 := by omega
        rw [if_pos (by omega)] at hT hV
        rw [hT, hV] at HX2
        have hAn : A + n ≤ s.size := by omega
        have hone : ∀ u ∈ [Value.int .i64 0, Value.int .i64 (n : Int), Value.int .i64 (d : Int)], u.oneCell' = true := by intro u hu; simp at hu; rcases hu with rfl | rfl | rfl <;> rfl
        clear hT hV hadv
        go_wp2_with (at_builtin; refine wpList_append_lies _ (by rfl) _ _ _ (by rfl) w.heap.size 70 i0 (.agg #[.int .i64 0, .int .i64 0, .int .i64 0]) 3 24 Try.underlying68 hi0 hz0 hz1 hz2 rfl (by decide) _ l.length (tkCells l) (by rfl) (World.ownsRow.alloc (show World.ownsRow _ _ _ _ _ _ _ from hown) _) ⟨w2.heap.size, 0, none⟩ 1 1 [.int .i64 0, .int .i64 (n : Int), .int .i64 (d : Int)] (by rfl) rfl (World.news_of_block (heap_alloc_new _ _)) hone (by decide) hm63 hlen (by simp; omega) _ rfl ?_)
        intro g cap2 w4 hown4 hgrow hat hlt4
        have hb4 : Below w.heap.size w w4 := (hbel.alloc hbs _).grown hgrow (by simp; omega) (fun k hk => (hlt0 k hk).1)
        have HF4 : Hid (OwnK w4 w.heap.size (.slice (some ⟨g, 0, none⟩) (l.length + 1) cap2) (l.length + 1) (l ++ [(0, (n : Int), (d : Int))]) ∧ Below w.heap.size w w4) := ⟨OwnK.more hown4, hb4⟩
        clear hown4 hgrow hat hlt0 hown hbel hone hm63 hlen hlt4 hb4
        go_wp2_with fail
        go_roundw
        case rel => exact ⟨A + n, l ++ [(0, (n : Int), (d : Int))], some ⟨g, 0, none⟩, cap2, by omega, by rw [List.length_append]; show l.length + 1 ≤ _; omega, by go_num, by rw [List.length_append]; rfl, HX2, by rw [List.length_append]; exact HF4.out⟩
        case measure => simp [intOf]; omega
    · have hlti : ¬ (A : Int) < (s.size : Int) := by omega
      have HF : Hid (TkIs w (Ty.from_ s 0) (.returned (.slice ao l.length cap)) wr) := by
        have e : Ty.from_ s 0 = l := by rw [HX.out, Ty.from_end hlt, List.append_nil]
        rw [e]
        exact ⟨ao, cap, rfl, HS.out.1, HS.out.2⟩
      clear HS HX
      go_wp2_with fail
      go_ret
      exact HF.out

end Go.Proofs.Ythfdnloeicbgkaa
