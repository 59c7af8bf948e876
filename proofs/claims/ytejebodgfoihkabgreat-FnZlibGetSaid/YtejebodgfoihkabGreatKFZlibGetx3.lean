/- Texts laid together: NsAll, NfTop, NfInf, NfZhead, NfBnd, NfZlib, NfZlibS, CtTell, CtSpec, CtOnes, CtMono, CtImpl, CtFit, CtKraft, CtCode, CtBest, CtBest2, CtFib. -/
import Derived.Test.YtejebodgfoihkabGreatVFZlibGetNsOwn
import Derived.Test.YtejebodgfoihkabGreatKFZlibGetx2
import Derived.Deep.QuietTactic
import Derived.RangeFuncBox
import Derived.Shelf.Abstract
import Derived.Test.YtejebodgfoihkabGreatKFZlibGetx0
import Derived.Test.YtejebodgfoihkabGreatKFZlibGetx1
import Derived.Test.YtejebodgfoihkabGreatVFZlibGetCtGrow
import Derived.Test.YtejebodgfoihkabGreatVFZlibGetCfTree
/- All blocks of a text, in the specification. -/
namespace Go.Proofs.YtejebodgfoihkabGreat
open Go.RowKit

theorem OwnI.lst {w : World} {B n c R : Nat} {a : Option Addr} {l : List Int} (h : OwnI w B (.slice a n c) n l) (hR : R < B) : Lst w R a l := by
  have hl := h.len
  rcases h.2 with ⟨e, h0⟩ | ⟨g, cap', cur, e, hB, hg, hnc, hx⟩
  · exact .inl (List.eq_nil_of_length_eq_zero (by omega))
  · cases e
    refine .inr ⟨g, 0, cur, _, rfl, by omega, hg, fun i hi => ?_⟩
    have := World.ownsRow.cellAt (show World.ownsRow _ _ _ _ _ _ _ from h) i (by omega)
    simp only [World.cell?, hg] at this
    rw [Nat.zero_add]
    rw [intsV_get l i hi] at this
    exact this
/-- a measure: the bits that are left, 0 behind the last block and once a code is noted -/
def alOf (R M : Nat) (la : Value) (w : World) : Nat :=
  match la with
  | .int _ v => if v = 0 then stOf R M w else 0
  | _ => 0
theorem alOf_go {w : World} {R base p lim M : Nat} {s : ByteArray} {l : List UInt8} {vk : Value} (h : Sx w R base s p l lim 0 vk) : alOf R M (.int .i64 ((0 : Nat) : Int)) w = M - p + 1 := by
  unfold alOf
  exact stOf_go h
theorem alOf_le (R M : Nat) (la : Value) (w : World) : alOf R M la w ≤ stOf R M w := by
  unfold alOf
  split
  · split <;> omega
  · omega
/-- the loop of all -/
def AlInv (wr w : World) (R base : Nat) (s : ByteArray) (lim : Nat) (ANS : Except Nat ((List UInt8 × Nat) × List Int)) (f q d last : Nat) (L : List UInt8) (ks : List Int) (vk : Value) : Prop :=
  Sx wr R base s q L lim d vk ∧ Off R R base w wr ∧ base ≤ wr.heap.size ∧ ((d = 0 ∧ OwnI wr base vk ks.length ks ∧ q ≤ 8 * s.size ∧ L.length ≤ lim ∧ ((last = 0 ∧ ANS = Nf.all s lim f q L ks ∧ 8 * s.size - q < f ∧ ks.length + f ≤ 80000) ∨ (last ≠ 0 ∧ ANS = .ok ((L, q), ks)))) ∨ (d ≠ 0 ∧ ANS = .error d))
/-- how all ends -/
def SAll (w : World) (R base : Nat) (s : ByteArray) (lim : Nat) (ANS : Except Nat ((List UInt8 × Nat) × List Int)) (e : Ending) (w' : World) : Prop :=
  e = .returned (.tuple #[]) ∧ Off R R base w w' ∧ base ≤ w'.heap.size ∧ ((∃ L q ks vk, ANS = .ok ((L, q), ks) ∧ Sx w' R base s q L lim 0 vk ∧ OwnI w' base vk ks.length ks ∧ q ≤ 8 * s.size ∧ L.length ≤ lim) ∨ ∃ c p' l' vk, ANS = .error c ∧ c ≠ 0 ∧ Sx w' R base s p' l' lim c vk)

theorem AlInv.stop {wr w : World} {R base lim f q d last : Nat} {s : ByteArray} {ANS : Except Nat ((List UInt8 × Nat) × List Int)} {L : List UInt8} {ks : List Int} {vk : Value} (h : AlInv wr w R base s lim ANS f q d last L ks vk) (hs : d ≠ 0 ∨ last ≠ 0) : SAll w R base s lim ANS (.returned (.tuple #[])) wr := by
  refine ⟨rfl, h.2.1, h.2.2.1, ?_⟩
  rcases h.2.2.2 with ⟨e1, e2, e3, e4, e5⟩ | ⟨e1, e2⟩
  · subst e1
    rcases e5 with ⟨e5, _⟩ | ⟨e5, e6⟩
    · rcases hs with g | g
      · exact absurd rfl g
      · exact absurd e5 g
    · exact .inl ⟨L, q, ks, vk, e6, h.1, e2, e3, e4⟩
  · exact .inr ⟨d, q, L, vk, e2, e1, h.1⟩
/-- a block was read: what is still to come -/
theorem al_next {w5 w6 w : World} {R base lim f q last k : Nat} {s : ByteArray} {ANS : Except Nat ((List UInt8 × Nat) × List Int)} {L : List UInt8} {ks : List Int} {vk : Value} {e : Ending} (hR : R < base)
    (HA : ANS = Nf.all s lim (f + 1) q L ks ∧ Nf.nxt s 1 q = .ok last ∧ Nf.nxt s 2 (q + 1) = .ok k) (hO : OwnI w5 base vk (ks ++ [(k : Int)]).length (ks ++ [(k : Int)])) (hoff : Off R R base w w5) (hb : base ≤ w5.heap.size) (hL : L.length ≤ lim) (hf : 8 * s.size - q < f + 1) (hq : q + 3 ≤ 8 * s.size) (hn : ks.length + (f + 1) ≤ 80000)
    (h : SEnd (Nf.block s lim k (q + 3) L) w5 R base s lim vk e w6) :
    e = .returned (.tuple #[]) ∧ ∃ q2 d L2, AlInv w6 w R base s lim ANS f q2 d last L2 (ks ++ [(k : Int)]) vk ∧ stOf R (8 * s.size) w6 < 8 * s.size - q + 1 := by
  obtain ⟨he, h⟩ := h
  refine ⟨he, ?_⟩
  rcases h with ⟨L2, q2, h1, h2, h3, h4, h5⟩ | ⟨c, h1, h2, ⟨p', l', h3⟩, h4⟩
  · have hgo := block_go h1 hL
    refine ⟨q2, 0, L2, ⟨h2, hoff.trans (h3.off hb), Nat.le_trans hb h3.size, .inl ⟨rfl, h3.ownI hO hR, h4, h5, ?_⟩⟩, by rw [stOf_go h2]; omega⟩
    by_cases h0 : last = 0
    · refine .inl ⟨h0, ?_, by omega, by rw [List.length_append]; simp; omega⟩
      rw [HA.1]
      exact Nf.all_more (by rw [← h0]; exact HA.2.1) HA.2.2 h1
    · exact .inr ⟨h0, by rw [HA.1]; exact Nf.all_end HA.2.1 h0 HA.2.2 h1⟩
  · exact ⟨p', c, l', ⟨h3, hoff.trans (h4.off hb), Nat.le_trans hb h4.size, .inr ⟨h2, by rw [HA.1]; exact Nf.all_no3 HA.2.1 HA.2.2 h1⟩⟩, by rw [stOf_no h3 h2]; omega⟩

set_option maxHeartbeats 8000000 in
set_option maxRecDepth 20000 in
theorem sxAll_any (R base lim : Nat) (s : ByteArray) (w : World) (h : Sx w R base s 0 [] lim 0 (.slice none 0 0)) (hR : R < base) (hb : base ≤ w.heap.size) (hs : s.size ≤ 9000) (hlim : lim ≤ 5000) :
    Calls Tryz.prog 47 #[.pointer (some ⟨R, 0, none⟩)] w (SAll w R base s lim (Nf.inflate s lim)) := by
  obtain ⟨ANS, hANS⟩ : ∃ r, r = Nf.inflate s lim := ⟨_, rfl⟩
  rw [← hANS]
  have HX0 : Hid (AlInv w w R base s lim ANS Nf.fuel 0 0 0 [] [] (.slice none 0 0)) := ⟨h, Off.refl _ _ _ _, hb, .inl ⟨rfl, World.ownsRow_nil _ _ _ _, Nat.zero_le _, Nat.zero_le _, .inl ⟨rfl, hANS, by unfold Nf.fuel; omega, by unfold Nf.fuel; decide⟩⟩⟩
  have HR : Hid (R < base) := hR
  clear h hANS hb hR
  go_enter Tryz.func47, Tryz.ntmps47
  go_wp2_with fail
  go_loopw [2, 3] (fun la _k wr => ∃ (f q d last : Nat) (L : List UInt8) (ks : List Int) (vk : Value), la = .int .i64 (last : Int) ∧ Hid (AlInv wr w R base s lim ANS f q d last L ks vk)) (fun la _ wr => alOf R (8 * s.size) la wr)
  case atStart => exact ⟨_, 0, 0, 0, [], [], _, rfl, HX0⟩
  case round =>
    obtain ⟨f, q, d, last, L, ks, vk, rfl, HX⟩ := hrel
    clear HX0
    have c4 := HX.out.1.cells.2.2.2.1
    by_cases hl0 : last = 0
    · subst hl0
      by_cases hd : d = 0
      · subst hd
        replace c4 : wr.cell? ⟨R, 4, none⟩ = some (.int .i64 0) := c4
        have HP : Hid (OwnI wr base vk ks.length ks ∧ q ≤ 8 * s.size ∧ L.length ≤ lim ∧ ANS = Nf.all s lim f q L ks ∧ 8 * s.size - q < f ∧ ks.length + f ≤ 80000) := by
          rcases HX.out.2.2.2 with ⟨_, e2, e3, e4, e5⟩ | ⟨e1, _⟩
          · rcases e5 with ⟨_, e5⟩ | ⟨e5, _⟩
            · exact ⟨e2, e3, e4, e5⟩
            · exact absurd rfl e5
          · exact absurd rfl e1
        obtain ⟨f2, hf2⟩ : ∃ f2, f = f2 + 1 := ⟨f - 1, by have := HP.out.2.2.2.2.1; omega⟩
        subst hf2
        have HAL : Hid (alOf R (8 * s.size) (.int .i64 ((0 : Nat) : Int)) wr = 8 * s.size - q + 1) := alOf_go HX.out.1
        have HN1 : Hid (Calls Tryz.prog 77 #[.pointer (some ⟨R, 0, none⟩), .int .i64 1] wr (SBits wr R base s q 1 L lim vk)) := sxBits_any R base q 1 lim L vk s wr HX.out.1 hs HP.out.2.1 (by omega)
        have HOF : Hid (Off R R base w wr ∧ base ≤ wr.heap.size) := ⟨HX.out.2.1, HX.out.2.2.1⟩
        clear HX
        go_wp2_with fail
        refine HN1.out.mono ?_
        rintro e w1 (⟨last, hv, rfl, h2, h3⟩ | ⟨hv, rfl, h2, h3⟩)
        · have HN2 : Hid (Calls Tryz.prog 77 #[.pointer (some ⟨R, 0, none⟩), .int .i64 2] w1 (SBits w1 R base s (q + 1) 2 L lim vk)) := sxBits_any R base (q + 1) 2 lim L vk s w1 h2 hs (Nf.nxt_ok hv).1 (by omega)
          have HV : Hid (Nf.nxt s 1 q = .ok last ∧ InF R base wr w1) := ⟨hv, InF.of_only h3⟩
          clear hv h2 h3 HN1 c4
          go_wp2_with fail
          refine HN2.out.mono ?_
          rintro e w2 (⟨k, hv, rfl, h2, h3⟩ | ⟨hv, rfl, h2, h3⟩)
          · have hk4 : k < 4 := (Nf.nxt_ok hv).2.2
            have HQ : Hid (q + 3 ≤ 8 * s.size) := (Nf.nxt_ok hv).1
            have HF2 : Hid (InF R base wr w2) := HV.out.2.trans (InF.of_only h3)
            have HA : Hid (ANS = Nf.all s lim (f2 + 1) q L ks ∧ Nf.nxt s 1 q = .ok last ∧ Nf.nxt s 2 (q + 1) = .ok k) := ⟨HP.out.2.2.2.1, HV.out.1, hv⟩
            have hO2 := HF2.out.ownI HP.out.1 HR.out
            obtain ⟨n, hn⟩ : ∃ n, n = ks.length := ⟨_, rfl⟩
            rw [← hn] at hO2
            have HNK : Hid (n = ks.length) := hn
            obtain ⟨ao, cap, rfl, _⟩ := hO2.owns
            have HI2 : Hid (Sx w2 R base s (q + 3) L lim 0 (.slice ao n cap) ∧ OwnI w2 base (.slice ao n cap) n ks ∧ base ≤ w2.heap.size ∧ Off R R base w w2) := ⟨h2, hO2, Nat.le_trans HOF.out.2 HF2.out.size, HOF.out.1.trans (HF2.out.off HOF.out.2)⟩
            have c4 : w2.cell? ⟨R, 4, none⟩ = some (.int .i64 0) := h2.cells.2.2.2.1
            have c5 := h2.cells.2.2.2.2
            have hb2 := HI2.out.2.2.1
            have hnb : n ≤ 100000 := by have := HP.out.2.2.2.2.2; omega
            have HL : Hid (L.length ≤ lim ∧ 8 * s.size - q < f2 + 1 ∧ ks.length + (f2 + 1) ≤ 80000) := ⟨HP.out.2.2.1, HP.out.2.2.2.2.1, HP.out.2.2.2.2.2⟩
            clear hv h2 h3 HN2 hO2 HF2 HV HP hn HOF
            go_wp2_with (at_builtin; refine wpList_app1 w2 (by rfl) _ _ (by rfl) base _ n ks (k : Int) (by rfl) HI2.out.2.1 (by rfl) (by omega) hb2 ?_)
            intro g4 cap4 w4 hown4 hg4
            have hI4 := HI2.out.1.beside HI2.out.2.1 hg4.block
            have k5 := hI4.cells.2.2.2.2
            have f5 := hI4.froz 5
            obtain ⟨w5, hw5⟩ : ∃ w5, w5 = w4.setCell ⟨R, 5, none⟩ (.slice (some ⟨g4, 0, none⟩) (n + 1) cap4) := ⟨_, rfl⟩
            have HI5 : Hid (Sx w5 R base s (q + 3) L lim 0 (.slice (some ⟨g4, 0, none⟩) (n + 1) cap4) ∧ OwnI w5 base (.slice (some ⟨g4, 0, none⟩) (n + 1) cap4) (ks ++ [(k : Int)]).length (ks ++ [(k : Int)]) ∧ base ≤ w5.heap.size ∧ Off R R base w w5) := by
              have hs5 := hI4.setKinds (.slice (some ⟨g4, 0, none⟩) (n + 1) cap4)
              rw [← hw5] at hs5
              have hF5 : InF R base w4 w5 := InF.of_only hs5.2
              have hbs : base ≤ w4.heap.size := Nat.le_trans hb2 hg4.size
              have hoff4 : Off R R base w2 w4 := ⟨hg4.os, hg4.tape, hg4.output, hg4.size, fun kk hk _ _ => hg4.block kk (by omega) (fun e => by have := (hg4.own kk e.symm).1; omega)⟩
              refine ⟨hs5.1, ?_, Nat.le_trans hbs hF5.size, (HI2.out.2.2.2.trans hoff4).trans (hF5.off hbs)⟩
              rw [List.length_append, ← HNK.out]
              exact hF5.ownI hown4 HR.out
            clear hI4 hown4 hg4 HI2 hb2 c4 c5
            go_upto_region 6 with fail
            rw [← hw5]
            clear hw5 k5 f5
            have hk4' : k = 0 ∨ k = 1 ∨ k = 2 ∨ k = 3 := by omega
            rcases hk4' with rfl | rfl | rfl | rfl
            · have HNX : Hid (∀ e w6, SEnd (Nf.block s lim 0 (q + 3) L) w5 R base s lim (.slice (some ⟨g4, 0, none⟩) (n + 1) cap4) e w6 → e = .returned (.tuple #[]) ∧ ∃ q2 d L2, AlInv w6 w R base s lim ANS f2 q2 d last L2 (ks ++ [((0 : Nat) : Int)]) (.slice (some ⟨g4, 0, none⟩) (n + 1) cap4) ∧ stOf R (8 * s.size) w6 < 8 * s.size - q + 1) := fun e w6 h => al_next HR.out HA.out HI5.out.2.1 HI5.out.2.2.2 HI5.out.2.2.1 HL.out.1 HL.out.2.1 HQ.out HL.out.2.2 h
              have HBK : Hid (Calls Tryz.prog 78 #[.pointer (some ⟨R, 0, none⟩)] w5 (SEnd (Nf.block s lim 0 (q + 3) L) w5 R base s lim (.slice (some ⟨g4, 0, none⟩) (n + 1) cap4))) := sxStored_any R base (q + 3) lim L _ s w5 HI5.out.1 HI5.out.2.2.1 hs HQ.out HL.out.1 hlim
              clear HL HQ HA
              go_wp2_with fail
              refine HBK.out.mono ?_
              intro e w6 hend
              obtain ⟨he, q2, d, L2, hinv, hst⟩ := HNX.out _ _ hend
              subst he
              have HF : Hid (AlInv w6 w R base s lim ANS f2 q2 d last L2 (ks ++ [((0 : Nat) : Int)]) (.slice (some ⟨g4, 0, none⟩) (n + 1) cap4)) := hinv
              have HST : Hid (stOf R (8 * s.size) w6 < 8 * s.size - q + 1) := hst
              clear hend hinv hst HBK HI5 HNX
              go_wp2_with fail
              go_roundw
              case rel => exact ⟨f2, q2, d, last, L2, _, _, rfl, HF⟩
              case measure => rw [HAL.out]; exact Nat.lt_of_le_of_lt (alOf_le _ _ _ _) HST.out
            · have HNX : Hid (∀ e w6, SEnd (Nf.block s lim 1 (q + 3) L) w5 R base s lim (.slice (some ⟨g4, 0, none⟩) (n + 1) cap4) e w6 → e = .returned (.tuple #[]) ∧ ∃ q2 d L2, AlInv w6 w R base s lim ANS f2 q2 d last L2 (ks ++ [((1 : Nat) : Int)]) (.slice (some ⟨g4, 0, none⟩) (n + 1) cap4) ∧ stOf R (8 * s.size) w6 < 8 * s.size - q + 1) := fun e w6 h => al_next HR.out HA.out HI5.out.2.1 HI5.out.2.2.2 HI5.out.2.2.1 HL.out.1 HL.out.2.1 HQ.out HL.out.2.2 h
              have HFX : Hid (Calls Tryz.prog 74 #[] w5 fun e w' => (∃ a c, e = .returned (.slice a 288 c) ∧ OwnI w' w5.heap.size (.slice a 288 c) 288 Df.fixS) ∧ Below w5.heap.size w5 w') := l4Fixed_any w5
              have HBK : Hid (∀ (a b : Option Addr) (ca cb : Nat) (w7 : World), Below w5.heap.size w5 w7 → Lst w7 R a Df.fixS → Lst w7 R b Df.fixD → Calls Tryz.prog 79 #[.pointer (some ⟨R, 0, none⟩), .slice a 288 ca, .slice b 32 cb] w7 (SEnd (Nf.block s lim 1 (q + 3) L) w5 R base s lim (.slice (some ⟨g4, 0, none⟩) (n + 1) cap4))) := fun a b ca cb w7 h7 ha hb => by
                refine (sxBody_any R base (q + 3) lim 288 32 ca cb a b L _ s Df.fixS Df.fixD w7 (HI5.out.1.kept h7) (Nat.le_trans HI5.out.2.2.1 h7.size) hs HQ.out HL.out.1 hlim ha hb Df.fixS_len Df.fixD_len fixS_good fixD_good (by omega) (by omega)).mono ?_
                rintro e w' ⟨rfl, hend⟩
                refine ⟨rfl, ?_⟩
                rcases hend with ⟨L2, q2, g1, g2, g3, g4⟩ | ⟨c2, g1, g2, g3, g4⟩
                · exact .inl ⟨L2, q2, g1, g2, (InF.of_below h7).trans g3, g4⟩
                · exact .inr ⟨c2, g1, g2, g3, (InF.of_below h7).trans g4⟩
              have HRL : Hid (R < w5.heap.size) := HI5.out.1.lt
              clear HL HQ HA
              go_wp2_with fail
              refine HFX.out.mono ?_
              rintro e w7 ⟨⟨a7, c7, rfl, hq7⟩, b7⟩
              have HL7 : Hid (Lst w7 R a7 Df.fixS ∧ Below w5.heap.size w5 w7) := ⟨hq7.lst HRL.out, b7⟩
              have HSA : Hid (Calls Tryz.prog 75 #[.int .i64 5, .int .i64 32] w7 fun e w' => (∃ a c, e = .returned (.slice a 32 c) ∧ OwnI w' w7.heap.size (.slice a 32 c) 32 Df.fixD) ∧ Below w7.heap.size w7 w') := l4Same_any 5 32 (by omega) w7
              clear hq7 b7 HFX
              go_wp2_with fail
              refine HSA.out.mono ?_
              rintro e w8 ⟨⟨a8, c8, rfl, hq8⟩, b8⟩
              have HB8 : Hid (Calls Tryz.prog 79 #[.pointer (some ⟨R, 0, none⟩), .slice a7 288 c7, .slice a8 32 c8] w8 (SEnd (Nf.block s lim 1 (q + 3) L) w5 R base s lim (.slice (some ⟨g4, 0, none⟩) (n + 1) cap4))) := HBK.out a7 a8 c7 c8 w8 (HL7.out.2.trans (b8.mono HL7.out.2.size)) (HL7.out.1.kept b8) (hq8.lst (Nat.lt_of_lt_of_le HRL.out HL7.out.2.size))
              clear hq8 b8 HSA HL7
              go_wp2_with fail
              refine HB8.out.mono ?_
              intro e w6 hend
              clear HB8
              obtain ⟨he, q2, d, L2, hinv, hst⟩ := HNX.out _ _ hend
              subst he
              have HF : Hid (AlInv w6 w R base s lim ANS f2 q2 d last L2 (ks ++ [((1 : Nat) : Int)]) (.slice (some ⟨g4, 0, none⟩) (n + 1) cap4)) := hinv
              have HST : Hid (stOf R (8 * s.size) w6 < 8 * s.size - q + 1) := hst
              clear hend hinv hst HBK HI5 HNX
              go_wp2_with fail
              go_roundw
              case rel => exact ⟨f2, q2, d, last, L2, _, _, rfl, HF⟩
              case measure => rw [HAL.out]; exact Nat.lt_of_le_of_lt (alOf_le _ _ _ _) HST.out
            · have HNX : Hid (∀ e w6, SEnd (Nf.block s lim 2 (q + 3) L) w5 R base s lim (.slice (some ⟨g4, 0, none⟩) (n + 1) cap4) e w6 → e = .returned (.tuple #[]) ∧ ∃ q2 d L2, AlInv w6 w R base s lim ANS f2 q2 d last L2 (ks ++ [((2 : Nat) : Int)]) (.slice (some ⟨g4, 0, none⟩) (n + 1) cap4) ∧ stOf R (8 * s.size) w6 < 8 * s.size - q + 1) := fun e w6 h => al_next HR.out HA.out HI5.out.2.1 HI5.out.2.2.2 HI5.out.2.2.1 HL.out.1 HL.out.2.1 HQ.out HL.out.2.2 h
              have HBK : Hid (Calls Tryz.prog 80 #[.pointer (some ⟨R, 0, none⟩)] w5 (SEnd (Nf.block s lim 2 (q + 3) L) w5 R base s lim (.slice (some ⟨g4, 0, none⟩) (n + 1) cap4))) := sxOwn_any R base (q + 3) lim L _ s w5 HI5.out.1 HI5.out.2.2.1 hs HQ.out HL.out.1 hlim
              clear HL HQ HA
              go_wp2_with fail
              refine HBK.out.mono ?_
              intro e w6 hend
              obtain ⟨he, q2, d, L2, hinv, hst⟩ := HNX.out _ _ hend
              subst he
              have HF : Hid (AlInv w6 w R base s lim ANS f2 q2 d last L2 (ks ++ [((2 : Nat) : Int)]) (.slice (some ⟨g4, 0, none⟩) (n + 1) cap4)) := hinv
              have HST : Hid (stOf R (8 * s.size) w6 < 8 * s.size - q + 1) := hst
              clear hend hinv hst HBK HI5 HNX
              go_wp2_with fail
              go_roundw
              case rel => exact ⟨f2, q2, d, last, L2, _, _, rfl, HF⟩
              case measure => rw [HAL.out]; exact Nat.lt_of_le_of_lt (alOf_le _ _ _ _) HST.out
            · have HNX : Hid (∀ e w6, SEnd (Nf.block s lim 3 (q + 3) L) w5 R base s lim (.slice (some ⟨g4, 0, none⟩) (n + 1) cap4) e w6 → e = .returned (.tuple #[]) ∧ ∃ q2 d L2, AlInv w6 w R base s lim ANS f2 q2 d last L2 (ks ++ [((3 : Nat) : Int)]) (.slice (some ⟨g4, 0, none⟩) (n + 1) cap4) ∧ stOf R (8 * s.size) w6 < 8 * s.size - q + 1) := fun e w6 h => al_next HR.out HA.out HI5.out.2.1 HI5.out.2.2.2 HI5.out.2.2.1 HL.out.1 HL.out.2.1 HQ.out HL.out.2.2 h
              have HBK : Hid (Calls Tryz.prog 81 #[.pointer (some ⟨R, 0, none⟩), .int .i64 1] w5 (SEnd (Nf.block s lim 3 (q + 3) L) w5 R base s lim (.slice (some ⟨g4, 0, none⟩) (n + 1) cap4))) := by
                refine (sxFail_new R base (q + 3) lim 1 L _ s w5 HI5.out.1).mono ?_
                rintro e w' ⟨rfl, h2, h3⟩
                exact SEnd.no rfl (by decide) h2 (InF.of_only h3)
              clear HL HQ HA
              go_wp2_with fail
              refine HBK.out.mono ?_
              intro e w6 hend
              obtain ⟨he, q2, d, L2, hinv, hst⟩ := HNX.out _ _ hend
              subst he
              have HF : Hid (AlInv w6 w R base s lim ANS f2 q2 d last L2 (ks ++ [((3 : Nat) : Int)]) (.slice (some ⟨g4, 0, none⟩) (n + 1) cap4)) := hinv
              have HST : Hid (stOf R (8 * s.size) w6 < 8 * s.size - q + 1) := hst
              clear hend hinv hst HBK HI5 HNX
              go_wp2_with fail
              go_roundw
              case rel => exact ⟨f2, q2, d, last, L2, _, _, rfl, HF⟩
              case measure => rw [HAL.out]; exact Nat.lt_of_le_of_lt (alOf_le _ _ _ _) HST.out
          · have HE : Hid (SAll w R base s lim ANS (.returned (.tuple #[])) w2) := ⟨rfl, HOF.out.1.trans ((HV.out.2.trans (InF.of_only h3)).off HOF.out.2), Nat.le_trans HOF.out.2 (HV.out.2.trans (InF.of_only h3)).size, .inr ⟨2, _, _, _, by rw [HP.out.2.2.2.1]; exact Nf.all_no2 HV.out.1 hv, by decide, h2⟩⟩
            have c4 : w2.cell? ⟨R, 4, none⟩ = some (.int .i64 2) := h2.cells.2.2.2.1
            clear hv h2 h3 HN2 HV HP HOF
            go_wp2_with fail
            refine bodyPost_ret (v := .tuple #[]) (by simp [results, Tryz.results47, go_sem]) rfl ?_
            exact HE.out
        · have HE1 : Hid (SAll w R base s lim ANS (.returned (.tuple #[])) w1) := ⟨rfl, HOF.out.1.trans ((InF.of_only h3).off HOF.out.2), Nat.le_trans HOF.out.2 h3.below.size, .inr ⟨2, _, _, _, by rw [HP.out.2.2.2.1]; exact Nf.all_no1 hv, by decide, h2⟩⟩
          have HBO : Hid (Calls Tryz.prog 77 #[.pointer (some ⟨R, 0, none⟩), .int .i64 2] w1 fun e w' => e = .returned (.int .i64 0) ∧ ∃ m, w' = w1.drewN m) := sxBits_old R base q lim 2 2 L vk s w1 h2 (by decide)
          have c4' : w1.cell? ⟨R, 4, none⟩ = some (.int .i64 2) := h2.cells.2.2.2.1
          clear hv h2 h3 HN1 HP HOF c4
          go_wp2_with fail
          refine HBO.out.mono ?_
          rintro e w2 ⟨rfl, m, rfl⟩
          have c4 : (w1.drewN m).cell? ⟨R, 4, none⟩ = some (.int .i64 2) := c4'
          have HE : Hid (SAll w R base s lim ANS (.returned (.tuple #[])) (w1.drewN m)) := by
            obtain ⟨e1, e2, e3, e4⟩ := HE1.out
            refine ⟨e1, e2.drewN m, e3, ?_⟩
            rcases e4 with ⟨L2, q2, ks2, vk2, g1, g2, g3, g4⟩ | ⟨c, p', l', vk2, g1, g2, g3⟩
            · exact .inl ⟨L2, q2, ks2, vk2, g1, g2.drewN m, g3.drewN m, g4⟩
            · exact .inr ⟨c, p', l', vk2, g1, g2, g3.drewN m⟩
          clear c4' HE1 HBO
          generalize w1.drewN m = w2 at *
          go_wp2_with fail
          refine bodyPost_ret (v := .tuple #[]) (by simp [results, Tryz.results47, go_sem]) rfl ?_
          exact HE.out
      · have hdi : ¬ (d : Int) = 0 := by omega
        have HE : Hid (SAll w R base s lim ANS (.returned (.tuple #[])) wr) := HX.out.stop (.inl hd)
        clear HX
        go_wp2_with fail
        go_end0
        exact HE.out
    · have hli : ¬ (last : Int) = 0 := by omega
      have hlb : ((last : Int) == 0) = false := by simp; omega
      have HE : Hid (SAll w R base s lim ANS (.returned (.tuple #[])) wr) := HX.out.stop (.inr hl0)
      clear HX c4
      go_wp2_with fail
      go_end0
      exact HE.out

set_option maxHeartbeats 2000000 in
theorem l4Inflate_any (lim : Nat) (s : ByteArray) (w : World) (hs : s.size ≤ 9000) (hlim : lim ≤ 5000) :
    Calls Tryz.prog 28 #[.string s, .int .i64 (lim : Int)] w fun e w' => e = .returned (.pointer (some ⟨w.heap.size, 0, none⟩)) ∧ Below w.heap.size w w' ∧ ((∃ L q ks vk, Nf.inflate s lim = .ok ((L, q), ks) ∧ Sx w' w.heap.size (w.heap.size + 1) s q L lim 0 vk ∧ OwnI w' (w.heap.size + 1) vk ks.length ks ∧ q ≤ 8 * s.size ∧ L.length ≤ lim) ∨ ∃ c p' l' vk, Nf.inflate s lim = .error c ∧ c ≠ 0 ∧ Sx w' w.heap.size (w.heap.size + 1) s p' l' lim c vk) := by
  obtain ⟨W0, hW0⟩ : ∃ W0, W0 = w.alloc (.cells #[.string s, .int .i64 0, .int .i64 (lim : Int), .slice none 0 0, .int .i64 0, .slice none 0 0] 48) := ⟨_, rfl⟩
  obtain ⟨R, hR⟩ : ∃ R, R = w.heap.size := ⟨_, rfl⟩
  have hz : W0.heap.size = R + 1 := by rw [hW0, World.size_alloc, hR]
  have b0 : Below w.heap.size w W0 := by rw [hW0]; exact (Below.refl _ _).alloc (Nat.le_refl _) _
  have hx : Sx W0 R (R + 1) s 0 [] lim 0 (.slice none 0 0) := ⟨.slice none 0 0, by rw [hW0, hR]; exact heap_alloc_new _ _, World.ownsRow_nil _ _ _ _⟩
  have HAL : Hid (Calls Tryz.prog 47 #[.pointer (some ⟨R, 0, none⟩)] W0 (SAll W0 R (R + 1) s lim (Nf.inflate s lim))) := sxAll_any R (R + 1) lim s W0 hx (by omega) (by omega) hs hlim
  have HB : Hid (Below R w W0) := by rw [hR]; exact b0
  rw [← hR]
  clear hx hz b0
  go_enter Tryz.func28, Tryz.ntmps28
  go_wp2_with fail
  rw [← hW0, ← hR]
  clear hW0 hR
  refine HAL.out.mono ?_
  rintro e w1 ⟨rfl, h2, h3, h4⟩
  have HF : Hid (Below R w w1) := HB.out.trans (h2.below (Nat.le_refl _) (Nat.le_refl _) (by omega))
  have HG : Hid ((∃ L q ks vk, Nf.inflate s lim = .ok ((L, q), ks) ∧ Sx w1 R (R + 1) s q L lim 0 vk ∧ OwnI w1 (R + 1) vk ks.length ks ∧ q ≤ 8 * s.size ∧ L.length ≤ lim) ∨ ∃ c p' l' vk, Nf.inflate s lim = .error c ∧ c ≠ 0 ∧ Sx w1 R (R + 1) s p' l' lim c vk) := h4
  clear h2 h3 h4 HAL
  go_wp2_with fail
  go_ret
  exact ⟨rfl, HF.out, HG.out⟩
end Go.Proofs.YtejebodgfoihkabGreat

/- What a packed text makes: both readers, whole. -/
namespace Go.Proofs.YtejebodgfoihkabGreat
open Go.RowKit

namespace Nf
/-- what a text makes, if it and the limit are what they may be -/
def res (s : ByteArray) (lim : Int) : Except Nat ((List UInt8 × Nat) × List Int) := if s.size ≤ 9000 ∧ 0 ≤ lim ∧ lim ≤ 5000 then inflate s lim.toNat else .error 1
theorem res_ok {s : ByteArray} {lim : Nat} (h : s.size ≤ 9000) (hl : lim ≤ 5000) : res s (lim : Int) = inflate s lim := by unfold res; rw [if_pos ⟨h, by omega, by omega⟩, Int.toNat_natCast]
theorem res_no {s : ByteArray} {lim : Int} (h : ¬ (s.size ≤ 9000 ∧ 0 ≤ lim ∧ lim ≤ 5000)) : res s lim = .error 1 := if_neg h
def out (r : Except Nat ((List UInt8 × Nat) × List Int)) : List UInt8 := match r with | .ok ((L, _), _) => L | .error _ => []
def used (r : Except Nat ((List UInt8 × Nat) × List Int)) : Nat := match r with | .ok ((_, q), _) => (q + 7) / 8 | .error _ => 0
def code (r : Except Nat ((List UInt8 × Nat) × List Int)) : Nat := match r with | .ok _ => 0 | .error c => c
def kinds (r : Except Nat ((List UInt8 × Nat) × List Int)) : List Int := match r with | .ok (_, ks) => ks | .error _ => []
end Nf

set_option maxHeartbeats 1000000 in
theorem newInflater_any (s : ByteArray) (lim : Int) (w : World) :
    Calls Tryz.prog 51 #[.string s, .int .i64 lim] w fun e w' => e = .returned (.pointer (some ⟨w.heap.size, 0, none⟩)) ∧ w' = w.alloc (.cells #[ordV false, .string s, .int .i64 0, .slice none 0 0, .int .i64 lim, .slice none 0 0, .pointer none] 62) := by
  have HO : Hid (Calls Tryz.prog 31 #[.bool false] w fun e w' => e = .returned (ordV false) ∧ w' = w) := orderOf_low w
  go_enter Tryz.func51, Tryz.ntmps51
  go_wp2_with fail
  refine HO.out.mono ?_
  rintro e w1 ⟨rfl, hw1⟩
  replace hw1 := hw1.symm
  subst hw1
  unfold ordV
  go_wp2_with fail
  go_ret
  exact ⟨rfl, rfl⟩

set_option maxHeartbeats 1000000 in
theorem faultIn_meth (fw : Nat) (p : Value) (eg : ∀ args w, (callFunc fw args).run Tryz.prog w = .ok (.enter fw args) w) (R : World → Prop) (Rc : Int → World → Prop) (w : World)
    (h : Calls Tryz.prog fw #[p] (w.alloc (.cells #[.int .i64 0] 3)) fun e w' => Boxed w' w.heap.size 3 (.int .i64 0) ∧ ((∃ v, e = .returned v) ∧ R w' ∨ ∃ c, e = fault c ∧ Rc c w')) :
    Calls Tryz.prog 52 #[.func (.func fw) #[p] #[]] w (FaultOut w R Rc) := by
  have hmf : ∀ (fn : Fn) (first cap : Array Value) (w : World), (Instr.makeFunc fn first cap).run Tryz.prog w = .ok (.func fn first cap) w := fun _ _ _ _ => rfl
  have H : Hid (Calls Tryz.prog fw #[p] (w.alloc (.cells #[.int .i64 0] 3)) fun e w' => Boxed w' w.heap.size 3 (.int .i64 0) ∧ ((∃ v, e = .returned v) ∧ R w' ∨ ∃ c, e = fault c ∧ Rc c w')) := h
  clear h
  go_enter_defers Tryz.func52, Tryz.ntmps52
  go_wp2_with fail
  refine H.out.mono ?_
  rintro e w1 ⟨hb, (⟨⟨v, rfl⟩, hR⟩ | ⟨c, rfl, hR⟩)⟩
  · have hc := hb.cell
    have hf := hb.frozen
    have hb2 : Boxed (w1.setCell ⟨w.heap.size, 0, none⟩ (.int .i64 0)) w.heap.size 3 (.int .i64 0) := hb.set _
    have hc2 := hb2.cell
    have hfin : FaultOut w R Rc (.returned (.int .i64 0)) (w1.setCell ⟨w.heap.size, 0, none⟩ (.int .i64 0)) := ⟨w1, hb, .inl ⟨rfl, hR, rfl⟩⟩
    go_wp2_with fail
    refine leaves_cons (f := 82) (args := #[.pointer (some ⟨w.heap.size, 0, none⟩)]) (by simp) (by simp [go_sem]) ?_
    refine (catch_idle ⟨w.heap.size, 0, none⟩ _).mono ?_
    rintro e u' w'' ⟨rfl, rfl, rfl⟩
    simp [Leaves, settle, results, Tryz.results52, go_sem, hc2, hfin]
  · have hc := hb.cell
    have hf := hb.frozen
    have hb2 : Boxed (w1.setCell ⟨w.heap.size, 0, none⟩ (.int .i64 c)) w.heap.size 3 (.int .i64 c) := hb.set _
    have hc2 := hb2.cell
    have hfin : FaultOut w R Rc (.returned (.int .i64 c)) (w1.setCell ⟨w.heap.size, 0, none⟩ (.int .i64 c)) := ⟨w1, hb, .inr ⟨c, rfl, hR, rfl⟩⟩
    unfold fault
    go_wp2_with fail
    refine leaves_cons (f := 82) (args := #[.pointer (some ⟨w.heap.size, 0, none⟩)]) (by simp) (by simp [go_sem]) ?_
    refine (catch_met ⟨w.heap.size, 0, none⟩ c _ [] _ hc hf).mono ?_
    rintro e u' w'' ⟨rfl, rfl, rfl⟩
    simp [Leaves, settle, results, Tryz.results52, go_sem, hc2, hfin]

/-- how inflated ends -/
def InfEnd (w : World) (s : ByteArray) (lim : Int) (e : Ending) (w' : World) : Prop :=
  Below w.heap.size w w' ∧ ((∃ L q ks vk fx, Nf.res s lim = .ok ((L, q), ks) ∧ e = .returned (.tuple #[.pointer (some ⟨w.heap.size, 0, none⟩), .int .i64 0]) ∧ In w' w.heap.size (w.heap.size + 2) s q L lim.toNat vk fx ∧ OwnI w' (w.heap.size + 2) vk ks.length ks ∧ q ≤ 8 * s.size ∧ L.length ≤ lim.toNat) ∨ ∃ c v, Nf.res s lim = .error c ∧ c ≠ 0 ∧ e = .returned (.tuple #[v, .int .i64 (c : Int)]))
/-- the blocks were read -/
def BlYes (R base : Nat) (s : ByteArray) (lim : Nat) (w1 : World) (w' : World) : Prop :=
  ∃ L q ks vk fx, Nf.inflate s lim = .ok ((L, q), ks) ∧ In w' R base s q L lim vk fx ∧ OwnI w' base vk ks.length ks ∧ Off R R base w1 w' ∧ q ≤ 8 * s.size ∧ L.length ≤ lim
/-- they were not -/
def BlNo (R base : Nat) (s : ByteArray) (lim : Nat) (w1 : World) (c : Int) (w' : World) : Prop := ∃ d : Nat, c = (d : Int) ∧ d ≠ 0 ∧ Nf.inflate s lim = .error d ∧ Off R R base w1 w'

set_option maxHeartbeats 4000000 in
set_option maxRecDepth 20000 in
theorem inflated_yes (s : ByteArray) (lim : Nat) (w : World) (hs : s.size ≤ 9000) (hlim : lim ≤ 5000) :
    Calls Tryz.prog 32 #[.string s, .int .i64 (lim : Int)] w (InfEnd w s (lim : Int)) := by
  obtain ⟨W1, hW1⟩ : ∃ W1, W1 = w.alloc (.cells #[ordV false, .string s, .int .i64 0, .slice none 0 0, .int .i64 (lim : Int), .slice none 0 0, .pointer none] 62) := ⟨_, rfl⟩
  have HNI : Hid (Calls Tryz.prog 51 #[.string s, .int .i64 (lim : Int)] w fun e w' => e = .returned (.pointer (some ⟨w.heap.size, 0, none⟩)) ∧ w' = W1) := by rw [hW1]; exact newInflater_any s (lim : Int) w
  obtain ⟨R, hR⟩ : ∃ R, R = w.heap.size := ⟨_, rfl⟩
  have hz1 : W1.heap.size = R + 1 := by rw [hW1, World.size_alloc, hR]
  have hI1 : In W1 R (R + 2) s 0 [] lim (.slice none 0 0) (.pointer none) := ⟨.slice none 0 0, by rw [hW1, hR]; exact heap_alloc_new _ _, World.ownsRow_nil _ _ _ _⟩
  have b1 : Below R w W1 := by rw [hW1, hR]; exact (Below.refl _ _).alloc (Nat.le_refl _) _
  obtain ⟨W2, hW2⟩ : ∃ W2, W2 = W1.alloc (.cells #[.int .i64 0] 3) := ⟨_, rfl⟩
  have hz2 : W2.heap.size = R + 2 := by rw [hW2, World.size_alloc, hz1]
  have b2 : Below W1.heap.size W1 W2 := by rw [hW2]; exact (Below.refl _ _).alloc (Nat.le_refl _) _
  have hbox : Boxed W2 W1.heap.size 3 (.int .i64 0) := by rw [hW2]; exact Boxed.new W1 3 (.int .i64 0)
  have HBL : Hid (Calls Tryz.prog 53 #[.pointer (some ⟨R, 0, none⟩)] (W1.alloc (.cells #[.int .i64 0] 3)) fun e w' => Boxed w' W1.heap.size 3 (.int .i64 0) ∧ ((∃ v, e = .returned v) ∧ BlYes R (R + 2) s lim W2 w' ∨ ∃ c, e = fault c ∧ BlNo R (R + 2) s lim W2 c w')) := by
    rw [← hW2]
    refine (nfBlocks_any R (R + 2) lim s W2 (hI1.kept b2) (by omega) (by omega) hs hlim).mono ?_
    rintro e w' (⟨L, q, ks, vk, fx, h1, h2, h3, h4, h5, h6, h7⟩ | ⟨c, h1, h2, h3, h4⟩)
    · exact ⟨(h5.rest _ (by omega) (by omega) (by omega)).trans hbox, .inl ⟨h2, L, q, ks, vk, fx, h1, h3, h4, h5, h6, h7⟩⟩
    · exact ⟨(h4.rest _ (by omega) (by omega) (by omega)).trans hbox, .inr ⟨(c : Int), h3, c, rfl, h2, h1, h4⟩⟩
  have HFI : Hid (Calls Tryz.prog 52 #[.func (.func 53) #[.pointer (some ⟨R, 0, none⟩)] #[]] W1 (FaultOut W1 (BlYes R (R + 2) s lim W2) (BlNo R (R + 2) s lim W2))) :=
    faultIn_meth 53 (.pointer (some ⟨R, 0, none⟩)) (enters_of Tryz.func53 (by kernel_rfl) rfl) _ _ W1 HBL.out
  have HB : Hid (Below R w W1 ∧ Below (R + 1) W1 W2 ∧ W1.heap.size = R + 1 ∧ R = w.heap.size) := ⟨b1, b2.mono (by omega), hz1, hR⟩
  have d1 : decide ((s.size : Int) > 9000) = false := decide_eq_false (by omega)
  have d2 : decide ((9000 : Int) < (s.size : Int)) = false := decide_eq_false (by omega)
  have d3 : decide ((lim : Int) < 0) = false := decide_eq_false (by omega)
  have d4 : decide ((lim : Int) > 5000) = false := decide_eq_false (by omega)
  have d5 : decide ((5000 : Int) < (lim : Int)) = false := decide_eq_false (by omega)
  have hmf : ∀ (fn : Fn) (first cap : Array Value) (w : World), (Instr.makeFunc fn first cap).run Tryz.prog w = .ok (.func fn first cap) w := fun _ _ _ _ => rfl
  rw [← hR] at HNI
  clear hW1 hI1 b1 hW2 hz1 hz2 b2 hbox HBL hR
  go_enter Tryz.func32, Tryz.ntmps32
  go_wp2_with fail
  refine HNI.out.mono ?_
  rintro e w1 ⟨rfl, hw1⟩
  replace hw1 := hw1.symm
  subst hw1
  clear HNI
  go_wp2_with fail
  refine HFI.out.mono ?_
  rintro e w7 ⟨w6, hb6, (⟨rfl, ⟨L, q, ks, vk, fx, g1, g2, g3, g4, g5, g6⟩, ht⟩ | ⟨c, rfl, ⟨d, rfl, hd0, hno, g4⟩, ht⟩)⟩
  · have HF : Hid (InfEnd w s (lim : Int) (.returned (.tuple #[.pointer (some ⟨R, 0, none⟩), .int .i64 0])) w7) := by
      obtain ⟨k1, k2, k3, k4⟩ := HB.out
      rw [k3] at hb6
      have ht : w7 = w6.setCell ⟨R + 1, 0, none⟩ (.int .i64 0) := by rw [← k3]; exact ht
      have hcb : w6.heap[R + 1]? = some (.cells #[.int .i64 0] 3 (0, 0)) := hb6
      have g2' : In w7 R (R + 2) s q L lim vk fx := by
        rw [ht]
        obtain ⟨vo, e1, e2⟩ := g2
        exact ⟨vo, (Below.heap_setCell w6 ⟨R + 1, 0, none⟩ _ R (by show R ≠ R + 1; omega)).trans e1, e2.besides (fun k hk => Below.heap_setCell w6 ⟨R + 1, 0, none⟩ _ k (fun e => e2.away hcb (by decide) (by rw [hk, e])))⟩
      have g3' : OwnI w7 (R + 2) vk ks.length ks := by
        rw [ht]
        refine ⟨g3.1, ?_⟩
        rcases g3.2 with g | ⟨g, c1, cur, e1, e2, e3, e4⟩
        · exact .inl g
        · exact .inr ⟨g, c1, cur, e1, e2, (Below.heap_setCell w6 ⟨R + 1, 0, none⟩ _ g (by show g ≠ R + 1; omega)).trans e3, e4⟩
      refine ⟨?_, .inl ⟨L, q, ks, vk, fx, by rw [Nf.res_ok hs hlim]; exact g1, by rw [k4], by rw [← k4, Int.toNat_natCast]; exact g2', by rw [← k4]; exact g3', g5, by rw [Int.toNat_natCast]; exact g6⟩⟩
      rw [← k4, ht]
      exact ((k1.trans (k2.mono (by omega))).trans (g4.below (Nat.le_refl _) (Nat.le_refl _) (by omega))).setCell (p := ⟨R + 1, 0, none⟩) (show R ≤ R + 1 by omega) _
    clear g1 g2 g3 g4 hb6 ht HFI HB
    go_wp2_with fail
    go_ret2
    exact HF.out
  · have HF : Hid (InfEnd w s (lim : Int) (.returned (.tuple #[.pointer (some ⟨R, 0, none⟩), .int .i64 (d : Int)])) w7) := by
      obtain ⟨k1, k2, k3, k4⟩ := HB.out
      have ht : w7 = w6.setCell ⟨R + 1, 0, none⟩ (.int .i64 (d : Int)) := by rw [← k3]; exact ht
      refine ⟨?_, .inr ⟨d, _, by rw [Nf.res_ok hs hlim]; exact hno, hd0, rfl⟩⟩
      rw [← k4, ht]
      exact ((k1.trans (k2.mono (by omega))).trans (g4.below (Nat.le_refl _) (Nat.le_refl _) (by omega))).setCell (p := ⟨R + 1, 0, none⟩) (show R ≤ R + 1 by omega) _
    clear hno g4 hb6 ht HFI HB
    go_wp2_with fail
    go_ret2
    exact HF.out

set_option maxHeartbeats 2000000 in
theorem inflated_no (s : ByteArray) (lim : Int) (w : World) (hs : s.size ≤ 3000000) (h : ¬ (s.size ≤ 9000 ∧ 0 ≤ lim ∧ lim ≤ 5000)) :
    Calls Tryz.prog 32 #[.string s, .int .i64 lim] w (InfEnd w s lim) := by
  have HR : Hid (Nf.res s lim = .error 1) := Nf.res_no h
  have HNI := newInflater_any s lim w
  obtain ⟨W1, hW1⟩ : ∃ W1, W1 = w.alloc (.cells #[ordV false, .string s, .int .i64 0, .slice none 0 0, .int .i64 lim, .slice none 0 0, .pointer none] 62) := ⟨_, rfl⟩
  rw [← hW1] at HNI
  have HB : Hid (Below w.heap.size w W1) := by rw [hW1]; exact (Below.refl _ _).alloc (Nat.le_refl _) _
  have HN : Hid (Calls Tryz.prog 51 #[.string s, .int .i64 lim] w fun e w' => e = .returned (.pointer (some ⟨w.heap.size, 0, none⟩)) ∧ w' = W1) := HNI
  have HF : Hid (InfEnd w s lim (.returned (.tuple #[.pointer (some ⟨w.heap.size, 0, none⟩), .int .i64 1])) W1) := ⟨HB.out, .inr ⟨1, _, HR.out, by decide, rfl⟩⟩
  clear HNI hW1 HB HR
  by_cases h1 : s.size ≤ 9000
  · have d1 : decide ((s.size : Int) > 9000) = false := decide_eq_false (by omega)
    have d2 : decide ((9000 : Int) < (s.size : Int)) = false := decide_eq_false (by omega)
    by_cases h2 : lim < 0
    · have d3 : decide (lim < 0) = true := decide_eq_true h2
      clear h
      go_enter Tryz.func32, Tryz.ntmps32
      go_wp2_with fail
      refine HN.out.mono ?_
      rintro e w1 ⟨rfl, hw1⟩
      replace hw1 := hw1.symm
      subst hw1
      go_wp2_with fail
      go_ret2
      exact HF.out
    · have d3 : decide (lim < 0) = false := decide_eq_false h2
      have d4 : decide (lim > 5000) = true := decide_eq_true (by omega)
      have d5 : decide ((5000 : Int) < lim) = true := decide_eq_true (by omega)
      clear h
      go_enter Tryz.func32, Tryz.ntmps32
      go_wp2_with fail
      refine HN.out.mono ?_
      rintro e w1 ⟨rfl, hw1⟩
      replace hw1 := hw1.symm
      subst hw1
      go_wp2_with fail
      go_ret2
      exact HF.out
  · have d1 : decide ((s.size : Int) > 9000) = true := decide_eq_true (by omega)
    have d2 : decide ((9000 : Int) < (s.size : Int)) = true := decide_eq_true (by omega)
    clear h
    go_enter Tryz.func32, Tryz.ntmps32
    go_wp2_with fail
    refine HN.out.mono ?_
    rintro e w1 ⟨rfl, hw1⟩
    replace hw1 := hw1.symm
    subst hw1
    go_wp2_with fail
    go_ret2
    exact HF.out
theorem inflated_any (s : ByteArray) (lim : Int) (w : World) (hs : s.size ≤ 3000000) :
    Calls Tryz.prog 32 #[.string s, .int .i64 lim] w (InfEnd w s lim) := by
  by_cases h : s.size ≤ 9000 ∧ 0 ≤ lim ∧ lim ≤ 5000
  · obtain ⟨M, rfl⟩ := Int.eq_ofNat_of_zero_le h.2.1
    exact inflated_yes s M w h.1 (by have := h.2.2; omega)
  · exact inflated_no s lim w hs h
end Go.Proofs.YtejebodgfoihkabGreat

/- Inflate: both sides. -/
namespace Go.Proofs.YtejebodgfoihkabGreat
open Go.RowKit

/-- what Inflate answers -/
def infV (s : ByteArray) (lim : Int) : Value := .tuple #[.string ⟨(Nf.out (Nf.res s lim)).toArray⟩, .int .i64 ((Nf.used (Nf.res s lim) : Nat) : Int), .int .i64 ((Nf.code (Nf.res s lim) : Nat) : Int)]
theorem infV_ok {s : ByteArray} {lim : Int} {L : List UInt8} {q : Nat} {ks : List Int} (h : Nf.res s lim = .ok ((L, q), ks)) : infV s lim = .tuple #[.string ⟨L.toArray⟩, .int .i64 (((q + 7) / 8 : Nat) : Int), .int .i64 0] := by unfold infV; rw [h]; rfl
theorem infV_no {s : ByteArray} {lim : Int} {c : Nat} (h : Nf.res s lim = .error c) : infV s lim = .tuple #[.string ⟨#[]⟩, .int .i64 0, .int .i64 (c : Int)] := by unfold infV; rw [h]; rfl

theorem drewN_below' {n : Nat} {a b : World} (h : Below n a b) (m : Nat) : Below n a (b.drewN m) := ⟨h.os, h.tape, h.output, h.size, h.block⟩
theorem below_dn {n : Nat} {a b : World} (h : Below n a b) (m : Nat) : Below n a (b.drewN m) := ⟨h.os, h.tape, h.output, h.size, h.block⟩
set_option linter.unusedSimpArgs false in
set_option maxHeartbeats 4000000 in
set_option maxRecDepth 20000 in
theorem impl_inflate (s : ByteArray) (lim : Int) (w : World) (hs : s.size ≤ 3000000) :
    Calls Tryz.prog 10 #[.string s, .int .i64 lim] w fun e w' => e = .returned (infV s lim) ∧ Below w.heap.size w w' := by
  have HI : Hid (Calls Tryz.prog 32 #[.string s, .int .i64 lim] w (InfEnd w s lim)) := inflated_any s lim w hs
  go_enter Tryz.func10, Tryz.ntmps10
  go_wp2_with fail
  refine HI.out.mono ?_
  rintro e w1 ⟨b1, (⟨L, q, ks, vk, fx, g1, rfl, g2, g3, g4, g5⟩ | ⟨c, v, g1, g2, rfl⟩)⟩
  · have hq9 : q ≤ 100000 := by
      unfold Nf.res at g1
      split at g1
      · rename_i hh; have := hh.1; omega
      · cases g1
    have HF : Hid (infV s lim = .tuple #[.string ⟨L.toArray⟩, .int .i64 (((q + 7) / 8 : Nat) : Int), .int .i64 0] ∧ Below w.heap.size w w1) := ⟨infV_ok g1, b1⟩
    obtain ⟨R, hR⟩ : ∃ R, R = w.heap.size := ⟨_, rfl⟩
    rw [← hR] at g2
    have HUS : Hid (∀ w2, (∃ m, w2 = w1.drewN m) → Calls Tryz.prog 33 #[.pointer (some ⟨R, 0, none⟩)] w2 fun e w' => e = .returned (.int .i64 (((q + 7) / 8 : Nat) : Int)) ∧ w' = w2) := fun w2 hw => by
      obtain ⟨m, rfl⟩ := hw
      exact nfUsed_any R (R + 2) q lim.toNat L vk fx s _ (by rw [← hR] at *; exact g2.drewN m) hq9
    obtain ⟨vo, hc, hv⟩ := g2
    have c3 : w1.cell? ⟨R, 3, none⟩ = some vo := by simp [World.cell?, hc]
    have HTX : Hid (∀ w2, (∃ m, w2 = w1.drewN m) → Sem.run Tryz.prog (convert 22 9 vo) w2 = .ok (.string ⟨L.toArray⟩) w2) := fun w2 hw => by
      obtain ⟨m, rfl⟩ := hw
      exact OwnT.text (hv.drewN m)
    obtain ⟨u, hu⟩ : ∃ u, u = (q + 7) / 8 := ⟨_, rfl⟩
    rw [← hu] at HUS HF
    rw [← hR]
    clear g1 g3 hc hv HI hR hu
    go_wp2_with fail
    have htx := fun m => HTX.out (w1.drewN m) ⟨m, rfl⟩
    go_quiet ((go_at_call 33; exact Calls.quiet_of_same (HUS.out _ ⟨_, rfl⟩)))
    go_wp2_with fail
    refine bodyPost_ret (v := .tuple #[.string ⟨L.toArray⟩, .int .i64 (u : Int), .int .i64 0]) (by simp [results, Tryz.results10, go_sem]) rfl ?_
    exact ⟨by rw [HF.out.1], drewN_below' HF.out.2 _⟩
  · have HF : Hid (infV s lim = .tuple #[.string ⟨#[]⟩, .int .i64 0, .int .i64 (c : Int)] ∧ Below w.heap.size w w1) := ⟨infV_no g1, b1⟩
    have hci : ¬ (c : Int) = 0 := by omega
    have hcn : ((c : Int) != 0) = true := by simp; omega
    clear g1 g2 HI
    go_wp2_with fail
    refine bodyPost_ret (v := .tuple #[.string ⟨#[]⟩, .int .i64 0, .int .i64 (c : Int)]) (by simp [results, Tryz.results10, go_sem]) rfl ?_
    exact ⟨by rw [HF.out.1], HF.out.2⟩

/-- how l4Inflate ends -/
def L4End (w : World) (s : ByteArray) (lim : Nat) (e : Ending) (w' : World) : Prop := e = .returned (.pointer (some ⟨w.heap.size, 0, none⟩)) ∧ Below w.heap.size w w' ∧ ((∃ L q ks vk, Nf.inflate s lim = .ok ((L, q), ks) ∧ Sx w' w.heap.size (w.heap.size + 1) s q L lim 0 vk ∧ OwnI w' (w.heap.size + 1) vk ks.length ks ∧ q ≤ 8 * s.size ∧ L.length ≤ lim) ∨ ∃ c p' l' vk, Nf.inflate s lim = .error c ∧ c ≠ 0 ∧ Sx w' w.heap.size (w.heap.size + 1) s p' l' lim c vk)

end Go.Proofs.YtejebodgfoihkabGreat

/- How a text of RFC 1950 begins. -/
namespace Go.Proofs.YtejebodgfoihkabGreat
open Go.RowKit

namespace Nf
/-- whether a text may begin so -/
def hd (a b : Nat) : Bool := decide (a % 16 = 8) && (decide (a / 16 ≤ 7) && (decide ((256 * a + b) % 31 = 0) && decide (b / 32 % 2 = 0)))
theorem and32 : ∀ b, b < 256 → ((b &&& 32 = 0) ↔ (b / 32 % 2 = 0)) := by decide +kernel
end Nf
set_option maxHeartbeats 2000000 in
theorem zlibHead_any (a b : Nat) (w : World) (ha : a < 256) (hb : b < 256) :
    Calls Tryz.prog 26 #[.int .i64 (a : Int), .int .i64 (b : Int)] w fun e w' => e = .returned (.bool (Nf.hd a b)) ∧ w' = w := by
  have h32 := Nf.and32 b hb
  obtain ⟨k, hk⟩ : ∃ k, k = b &&& 32 := ⟨_, rfl⟩
  have hand : bits .and .i64 (b : Int) 32 = (k : Int) := by rw [hk]; exact i64_and_nat b 32 (by omega) (by omega)
  obtain ⟨m, hm⟩ : ∃ m, m = a % 16 := ⟨_, rfl⟩
  obtain ⟨d, hd⟩ : ∃ d, d = a / 16 := ⟨_, rfl⟩
  obtain ⟨S, hS⟩ : ∃ S, S = 256 * a + b := ⟨_, rfl⟩
  obtain ⟨r, hr⟩ : ∃ r, r = S % 31 := ⟨_, rfl⟩
  have eS : 256 * (a : Int) + (b : Int) = (S : Int) := by omega
  have eSw : IntKind.i64.wrap (256 * (a : Int) + (b : Int)) = (S : Int) := by rw [eS]; exact wrap_i64_nat S (by omega)
  have em : (a : Int).tmod 16 = (m : Int) := by rw [Int.tmod_eq_emod_of_nonneg (by omega)]; omega
  have em2 : (a : Int) % 16 = (m : Int) := by omega
  have ed : (a : Int).tdiv 16 = (d : Int) := by rw [Int.tdiv_eq_ediv_of_nonneg (by omega)]; omega
  have ed2 : (a : Int) / 16 = (d : Int) := by omega
  have er : (S : Int).tmod 31 = (r : Int) := by rw [Int.tmod_eq_emod_of_nonneg (by omega)]; omega
  have er2 : (S : Int) % 31 = (r : Int) := by omega
  have w1 := wrap_i64_nat m (by omega)
  have w2 := wrap_i64_nat d (by omega)
  have w3 := wrap_i64_nat r (by omega)
  have HE : Hid (Nf.hd a b = (decide (m = 8) && (decide (d ≤ 7) && (decide (r = 0) && decide (k = 0))))) := by
    show _ = _
    unfold Nf.hd
    rw [← hm, ← hd, ← hS, ← hr, hk]
    congr 3
    rw [decide_eq_decide]; exact h32.symm
  have hSb : S ≤ 66000 := by omega
  clear hk hm hd hS hr h32 eS
  by_cases c1 : m = 8
  · subst c1
    by_cases c2 : d ≤ 7
    · have c2i : (d : Int) ≤ 7 := by omega
      by_cases c3 : r = 0
      · subst c3
        by_cases c4 : k = 0
        · subst c4
          have HF : Hid (Nf.hd a b = true) := by show _ = _; rw [HE.out]; simp [c2]
          clear HE
          go_enter Tryz.func26, Tryz.ntmps26
          go_wp2_with fail
          go_ret
          exact ⟨ret_bool (by rw [HF.out]), rfl⟩
        · have c4i : ((k : Int) == 0) = false := by simp; omega
          have HF : Hid (Nf.hd a b = false) := by show _ = _; rw [HE.out]; simp [c4]
          clear HE
          go_enter Tryz.func26, Tryz.ntmps26
          go_wp2_with fail
          go_ret
          exact ⟨ret_bool (by rw [HF.out]), rfl⟩
      · have c3i : ((r : Int) == 0) = false := by simp; omega
        have HF : Hid (Nf.hd a b = false) := by show _ = _; rw [HE.out]; simp [c3]
        clear HE
        go_enter Tryz.func26, Tryz.ntmps26
        go_wp2_with fail
        go_ret
        exact ⟨ret_bool (by rw [HF.out]), rfl⟩
    · have c2i : decide ((d : Int) ≤ 7) = false := decide_eq_false (by omega)
      have HF : Hid (Nf.hd a b = false) := by show _ = _; rw [HE.out]; simp [c2]
      clear HE
      go_enter Tryz.func26, Tryz.ntmps26
      go_wp2_with fail
      go_ret
      exact ⟨ret_bool (by rw [HF.out]), rfl⟩
  · have c1i : ((m : Int) == 8) = false := by simp; omega
    have HF : Hid (Nf.hd a b = false) := by show _ = _; rw [HE.out]; simp [c1]
    clear HE
    go_enter Tryz.func26, Tryz.ntmps26
    go_wp2_with fail
    go_ret
    exact ⟨ret_bool (by rw [HF.out]), rfl⟩
end Go.Proofs.YtejebodgfoihkabGreat

/- Bounds of what a packed text makes (mathematics). -/
namespace Go.Proofs.YtejebodgfoihkabGreat
open Go.RowKit

theorem below_d {n : Nat} {a b : World} (h : Below n a b) (m : Nat) : Below n a (b.drewN m) := ⟨h.os, h.tape, h.output, h.size, h.block⟩
namespace Nf
theorem nxt_c0 {s : ByteArray} {n p c : Nat} (h : nxt s n p = .error c) : c ≠ 0 := by rw [nxt_err h]; decide
theorem sym_c0 {s : ByteArray} {zs : List Int} {p c : Nat} (h : sym s zs p = .error c) : c ≠ 0 := by
  unfold sym at h
  split at h
  · cases h
  · cases h
    split <;> decide
theorem size_c0 {s : ByteArray} {k p c : Nat} (h : size s k p = .error c) : c ≠ 0 := by
  unfold size at h
  split at h
  · rename_i c' hc
    cases h
    exact nxt_c0 hc
  · cases h
theorem dist_c0 {s : ByteArray} {B : List Int} {p c : Nat} (h : dist s B p = .error c) : c ≠ 0 := by
  unfold dist at h
  split at h
  · rename_i c' hc
    cases h
    exact sym_c0 hc
  · split at h
    · split at h
      · rename_i c' hc
        cases h
        exact nxt_c0 hc
      · cases h
    · cases h; decide
theorem rep_c0 {lim n d c : Nat} {out : List UInt8} (h : rep lim out n d = .error c) : c ≠ 0 := by
  unfold rep at h
  split at h
  · split at h
    · cases h
    · cases h; decide
  · cases h; decide
theorem copy_c0 {s : ByteArray} {lim k q c : Nat} {B : List Int} {out : List UInt8} (h : copy s lim B k q out = .error c) : c ≠ 0 := by
  unfold copy at h
  split at h
  · rename_i c' hc
    cases h
    exact size_c0 hc
  · split at h
    · rename_i c' hc
      cases h
      exact dist_c0 hc
    · split at h
      · rename_i c' hc
        cases h
        exact rep_c0 hc
      · cases h
theorem body_c0 {s : ByteArray} {lim : Nat} {A B : List Int} : ∀ {f p c : Nat} {l : List UInt8}, body s lim A B f p l = .error c → c ≠ 0
  | 0, _, _, _, h => by cases h; decide
  | f + 1, p, c, l, h => by
    cases hy : sym s A p with
    | error c' => rw [body_no hy] at h; cases h; exact sym_c0 hy
    | ok r =>
      obtain ⟨y, q1⟩ := r
      by_cases h1 : y < 256
      · by_cases h2 : l.length < lim
        · rw [body_byte hy h1 h2] at h
          exact body_c0 h
        · rw [body_full hy h1 h2] at h; cases h; decide
      · by_cases h2 : y = 256
        · rw [body_end hy h2] at h; cases h
        · by_cases h3 : 286 ≤ y
          · rw [body_bad hy h3] at h; cases h; decide
          · cases hc : copy s lim B (y - 257) q1 l with
            | error c' => rw [body_stop hy (by omega) (by omega) hc] at h; cases h; exact copy_c0 hc
            | ok r =>
              obtain ⟨l2, q2⟩ := r
              rw [body_copy hy (by omega) (by omega) hc] at h
              exact body_c0 h
theorem take_c0 {s : ByteArray} {lim : Nat} : ∀ {n p c : Nat} {l : List UInt8}, take s lim n p l = .error c → c ≠ 0
  | 0, _, _, _, h => by cases h
  | n + 1, p, c, l, h => by
    cases hn : nxt s 8 p with
    | error c' => rw [take_no hn] at h; cases h; exact nxt_c0 hn
    | ok v =>
      by_cases h2 : l.length < lim
      · rw [take_ok hn h2] at h; exact take_c0 h
      · rw [take_full hn h2] at h; cases h; decide
theorem lol_c0 {s : ByteArray} : ∀ {m i p c : Nat} {row : List Int}, lol s m i p row = .error c → c ≠ 0
  | 0, _, _, _, _, h => by cases h
  | m + 1, i, p, c, row, h => by
    cases hn : nxt s 3 p with
    | error c' => rw [lol_no hn] at h; cases h; exact nxt_c0 hn
    | ok v => rw [lol_ok hn] at h; exact lol_c0 h
theorem run_c0 {s : ByteArray} {zs l : List Int} {p c : Nat} (h : run s zs p l = .error c) : c ≠ 0 := by
  unfold run at h
  split at h
  · rename_i c' hc
    cases h
    exact sym_c0 hc
  · split at h
    · split at h
      · cases h; decide
      · split at h
        · rename_i c' hc
          cases h
          exact nxt_c0 hc
        · cases h
    · split at h
      · split at h
        · rename_i c' hc
          cases h
          exact nxt_c0 hc
        · cases h
      · split at h
        · split at h
          · rename_i c' hc
            cases h
            exact nxt_c0 hc
          · cases h
        · cases h
theorem lens_c0 {s : ByteArray} {zs : List Int} {count : Nat} : ∀ {f p c : Nat} {l : List Int}, lens s zs count f p l = .error c → c ≠ 0
  | 0, _, _, _, h => by cases h; decide
  | f + 1, p, c, l, h => by
    by_cases hlt : l.length < count
    · cases hr : run s zs p l with
      | error c' => rw [lens_no hlt hr] at h; cases h; exact run_c0 hr
      | ok r =>
        obtain ⟨⟨v, t⟩, q1⟩ := r
        by_cases ho : l.length + t ≤ count
        · rw [lens_more hlt hr ho] at h; exact lens_c0 h
        · rw [lens_over hlt hr ho] at h; cases h; decide
    · rw [lens_done hlt] at h; cases h
theorem plain_c0 {s : ByteArray} {lim p c : Nat} {out : List UInt8} (h : plain s lim p out = .error c) : c ≠ 0 := by
  unfold plain at h
  split at h
  · rename_i c' hc
    cases h
    exact nxt_c0 hc
  · split at h
    · rename_i c' hc
      cases h
      exact nxt_c0 hc
    · split at h
      · exact take_c0 h
      · cases h; decide
theorem own_c0 {s : ByteArray} {lim p c : Nat} {out : List UInt8} (h : own s lim p out = .error c) : c ≠ 0 := by
  unfold own at h
  split at h
  · rename_i c' hc
    cases h
    exact nxt_c0 hc
  · split at h
    · rename_i c' hc
      cases h
      exact nxt_c0 hc
    · split at h
      · rename_i c' hc
        cases h
        exact nxt_c0 hc
      · split at h
        · rename_i c' hc
          cases h
          exact lol_c0 hc
        · split at h
          · split at h
            · rename_i c' hc
              cases h
              exact lens_c0 hc
            · split at h
              · exact body_c0 h
              · cases h; decide
          · cases h; decide
theorem block_c0 {s : ByteArray} {lim k p c : Nat} {out : List UInt8} (h : block s lim k p out = .error c) : c ≠ 0 := by
  unfold block at h
  split at h
  · exact plain_c0 h
  · split at h
    · exact body_c0 h
    · split at h
      · exact own_c0 h
      · cases h; decide
theorem all_c0 {s : ByteArray} {lim : Nat} : ∀ {f q c : Nat} {l : List UInt8} {ks : List Int}, all s lim f q l ks = .error c → c ≠ 0
  | 0, _, _, _, _, h => by cases h; decide
  | f + 1, q, c, l, ks, h => by
    cases h1 : nxt s 1 q with
    | error c' => rw [all_no1 h1] at h; cases h; exact nxt_c0 h1
    | ok last =>
      cases h2 : nxt s 2 (q + 1) with
      | error c' => rw [all_no2 h1 h2] at h; cases h; exact nxt_c0 h2
      | ok k =>
        cases h3 : block s lim k (q + 3) l with
        | error c' => rw [all_no3 h1 h2 h3] at h; cases h; exact block_c0 h3
        | ok r =>
          obtain ⟨l2, q2⟩ := r
          by_cases h0 : last = 0
          · subst h0
            rw [all_more h1 h2 h3] at h
            exact all_c0 h
          · rw [all_end h1 h0 h2 h3] at h; cases h
theorem block_le {s : ByteArray} {lim k p q : Nat} {l L : List UInt8} (h : block s lim k p l = .ok (L, q)) (hl : l.length ≤ lim) : q ≤ 8 * s.size ∧ L.length ≤ lim := by
  unfold block at h
  split at h
  · unfold plain at h
    split at h
    · cases h
    · split at h
      · cases h
      · rename_i m hm
        split at h
        · have h2 := (nxt_ok hm).1
          have := take_ok' h (by omega) hl
          omega
        · cases h
  · split at h
    · have := body_ok fixS_good fixD_good h hl; omega
    · split at h
      · unfold own at h
        split at h
        · cases h
        · split at h
          · cases h
          · split at h
            · cases h
            · rename_i c hc
              have hc1 := (nxt_ok hc).1
              split at h
              · cases h
              · rename_i by_ q1 hlol
                have hlk := lol_ok' hlol hc1 (by decide)
                split at h
                · rename_i hck
                  have hby : GoodC by_ := goodC (may_ok (by rw [hlk.2.1]; decide) hlk.1 hck.2.2)
                  split at h
                  · cases h
                  · rename_i L2 q2 hlens
                    have hln := lens_ok hby (by rw [hlk.2.1]; decide) hlens hlk.2.2 rfl (Nat.zero_le _)
                    split at h
                    · rename_i hm
                      have g1 : GoodC (L2.take _) := goodC (may_ok (by rw [List.length_take]; omega) (valid_sub hln.1 (fun z hz => List.mem_of_mem_take hz)) hm.1)
                      have g2 : GoodC (L2.drop _) := goodC (may_ok (by rw [List.length_drop]; omega) (valid_sub hln.1 (fun z hz => List.mem_of_mem_drop hz)) hm.2.1)
                      have := body_ok g1 g2 h hl
                      omega
                    · cases h
                · cases h
      · cases h
theorem all_le {s : ByteArray} {lim : Nat} : ∀ {f q : Nat} {l : List UInt8} {ks : List Int} {R : (List UInt8 × Nat) × List Int}, all s lim f q l ks = .ok R → l.length ≤ lim → R.1.2 ≤ 8 * s.size ∧ R.1.1.length ≤ lim
  | 0, _, _, _, _, h, _ => by cases h
  | f + 1, q, l, ks, R, h, hl => by
    cases h1 : nxt s 1 q with
    | error c => rw [all_no1 h1] at h; cases h
    | ok last =>
      cases h2 : nxt s 2 (q + 1) with
      | error c => rw [all_no2 h1 h2] at h; cases h
      | ok k =>
        cases h3 : block s lim k (q + 3) l with
        | error c => rw [all_no3 h1 h2 h3] at h; cases h
        | ok r =>
          obtain ⟨l2, q2⟩ := r
          have hb := block_le h3 hl
          by_cases h0 : last = 0
          · subst h0
            rw [all_more h1 h2 h3] at h
            exact all_le h hb.2
          · rw [all_end h1 h0 h2 h3] at h
            cases h
            exact hb
end Nf
/-- no answer is the code 0 -/
theorem inf_c0 {s : ByteArray} {M c : Nat} (h : Nf.inflate s M = .error c) : c ≠ 0 := Nf.all_c0 h
theorem inf_le {s : ByteArray} {M q : Nat} {L : List UInt8} {ks : List Int} (h : Nf.inflate s M = .ok ((L, q), ks)) : q ≤ 8 * s.size ∧ L.length ≤ M := Nf.all_le (R := ((L, q), ks)) h (Nat.zero_le _)
end Go.Proofs.YtejebodgfoihkabGreat

/- ZlibGet: both sides. -/
namespace Go.Proofs.YtejebodgfoihkabGreat
open Go.RowKit

namespace Nf
/-- the sum that stands behind -/
def sumAt (s : ByteArray) (u : Nat) : Nat := Nm.big (fun i => byteAt s (2 + u + i)) 4
/-- what stands behind the packed text -/
def ztail (s : ByteArray) (r : Except Nat ((List UInt8 × Nat) × List Int)) : Except Nat (List UInt8) :=
  match r with
  | .error c => .error c
  | .ok ((L, q), _) => if 2 + (q + 7) / 8 + 4 ≤ s.size then (if s.size = 2 + (q + 7) / 8 + 4 ∧ ((sumAt s ((q + 7) / 8) : Nat) : Int) = Ad.more 1 L then .ok L else .error 1) else .error 2
/-- what a text of RFC 1950 makes -/
def zget (s : ByteArray) (lim : Int) : Except Nat (List UInt8) :=
  if s.size ≤ 9000 ∧ 0 ≤ lim ∧ lim ≤ 5000 then (if s.size < 2 then .error 2 else if hd (byteAt s 0) (byteAt s 1) = true then ztail s (inflate (s.extract 2 s.size) lim.toNat) else .error 1) else .error 1
def zV (r : Except Nat (List UInt8)) : Value := match r with | .ok L => .tuple #[.string ⟨L.toArray⟩, .int .i64 0] | .error c => .tuple #[.string ⟨#[]⟩, .int .i64 (c : Int)]
theorem zget_bad {s : ByteArray} {lim : Int} (h : ¬ (s.size ≤ 9000 ∧ 0 ≤ lim ∧ lim ≤ 5000)) : zget s lim = .error 1 := if_neg h
theorem zget_short {s : ByteArray} {lim : Int} (h : s.size ≤ 9000 ∧ 0 ≤ lim ∧ lim ≤ 5000) (h2 : s.size < 2) : zget s lim = .error 2 := by unfold zget; rw [if_pos h, if_pos h2]
theorem zget_head {s : ByteArray} {lim : Int} (h : s.size ≤ 9000 ∧ 0 ≤ lim ∧ lim ≤ 5000) (h2 : ¬ s.size < 2) (h3 : hd (byteAt s 0) (byteAt s 1) = false) : zget s lim = .error 1 := by unfold zget; rw [if_pos h, if_neg h2, if_neg (by rw [h3]; decide)]
theorem zget_go {s : ByteArray} {lim : Int} (h : s.size ≤ 9000 ∧ 0 ≤ lim ∧ lim ≤ 5000) (h2 : ¬ s.size < 2) (h3 : hd (byteAt s 0) (byteAt s 1) = true) : zget s lim = ztail s (inflate (s.extract 2 s.size) lim.toNat) := by unfold zget; rw [if_pos h, if_neg h2, if_pos h3]
theorem ztail_short {s : ByteArray} {L : List UInt8} {q u : Nat} {ks : List Int} (hu : u = (q + 7) / 8) (h : ¬ 2 + u + 4 ≤ s.size) : ztail s (.ok ((L, q), ks)) = .error 2 := by subst hu; unfold ztail; simp only [if_neg h]
theorem ztail_bad {s : ByteArray} {L : List UInt8} {q u : Nat} {ks : List Int} (hu : u = (q + 7) / 8) (h : 2 + u + 4 ≤ s.size) (h2 : ¬ (s.size = 2 + u + 4 ∧ ((sumAt s u : Nat) : Int) = Ad.more 1 L)) : ztail s (.ok ((L, q), ks)) = .error 1 := by subst hu; unfold ztail; simp only [if_pos h, if_neg h2]
theorem ztail_ok {s : ByteArray} {L : List UInt8} {q u : Nat} {ks : List Int} (hu : u = (q + 7) / 8) (h : 2 + u + 4 ≤ s.size) (h2 : s.size = 2 + u + 4 ∧ ((sumAt s u : Nat) : Int) = Ad.more 1 L) : ztail s (.ok ((L, q), ks)) = .ok L := by subst hu; unfold ztail; simp only [if_pos h, if_pos h2]
theorem sumAt_lt (s : ByteArray) (u : Nat) : sumAt s u < 4294967296 := Nat.lt_of_lt_of_le (Nm.big_lt _ (fun _ => byteAt_lt _ _) 4) (by decide)
end Nf
theorem extract_from (s : ByteArray) (A i : Nat) (h : A + i < s.size) : byteAt (s.extract A s.size) i = byteAt s (A + i) := by
  rw [← byteAt_eq _ i (by rw [ByteArray.size_extract]; omega), ← byteAt_eq _ (A + i) h, ByteArray.getElem_extract]
theorem big_congr {f g : Nat → Nat} : ∀ {n : Nat}, (∀ i, i < n → f i = g i) → Nm.big f n = Nm.big g n
  | 0, _ => rfl
  | n + 1, h => by
    unfold Nm.big
    rw [big_congr (fun i hi => h i (by omega)), h n (by omega)]

set_option linter.unusedSimpArgs false in
set_option maxHeartbeats 4000000 in
set_option maxRecDepth 20000 in
theorem impl_zlibGet (s : ByteArray) (lim : Int) (w : World) (hs : s.size ≤ 1048576) :
    Calls Tryz.prog 7 #[.string s, .int .i64 lim] w fun e w' => e = .returned (Nf.zV (Nf.zget s lim)) ∧ Below w.heap.size w w' := by
  by_cases hv : s.size ≤ 9000 ∧ 0 ≤ lim ∧ lim ≤ 5000
  · obtain ⟨M, rfl⟩ := Int.eq_ofNat_of_zero_le hv.2.1
    have hM : M ≤ 5000 := by omega
    have h9 := hv.1
    have d1 : decide ((s.size : Int) > 9000) = false := decide_eq_false (by omega)
    have d2 : decide ((9000 : Int) < (s.size : Int)) = false := decide_eq_false (by omega)
    have d3 : decide ((M : Int) < 0) = false := decide_eq_false (by omega)
    have d4 : decide ((M : Int) > 5000) = false := decide_eq_false (by omega)
    have d5 : decide ((5000 : Int) < (M : Int)) = false := decide_eq_false (by omega)
    by_cases h2 : s.size < 2
    · have h2i : (s.size : Int) < 2 := by omega
      have HF : Hid (Nf.zV (Nf.zget s (M : Int)) = .tuple #[.string ⟨#[]⟩, .int .i64 2]) := by show _ = _; rw [Nf.zget_short hv h2]; rfl
      clear hv
      go_enter Tryz.func7, Tryz.ntmps7
      go_wp2_with fail
      refine bodyPost_ret (v := .tuple #[.string ⟨#[]⟩, .int .i64 2]) (by simp [results, Tryz.results7, go_sem]) rfl ?_
      exact ⟨by rw [HF.out], Below.refl _ _⟩
    · have h2i : ¬ (s.size : Int) < 2 := by omega
      have hz0 : 0 < s.size := by omega
      have hz1 : 1 < s.size := by omega
      have hz0i : (0 : Int) < (s.size : Int) := by omega
      have hz1i : (1 : Int) < (s.size : Int) := by omega
      have hb0 := byteAt_eq s 0 hz0
      have hb1 := byteAt_eq s 1 hz1
      have ha := byteAt_lt s 0
      have hb := byteAt_lt s 1
      obtain ⟨a, hA⟩ : ∃ a, a = byteAt s 0 := ⟨_, rfl⟩
      obtain ⟨b, hB⟩ : ∃ b, b = byteAt s 1 := ⟨_, rfl⟩
      rw [← hA] at hb0 ha
      rw [← hB] at hb1 hb
      have hwa := wrap_i64_nat a (by omega)
      have hwb := wrap_i64_nat b (by omega)
      cases hh : Nf.hd a b with
      | false =>
        have HZ : Hid (∀ w : World, Calls Tryz.prog 26 #[.int .i64 (a : Int), .int .i64 (b : Int)] w fun e w' => e = .returned (.bool false) ∧ w' = w) := fun w => by have := zlibHead_any a b w ha hb; rw [hh] at this; exact this
        have HF : Hid (Nf.zV (Nf.zget s (M : Int)) = .tuple #[.string ⟨#[]⟩, .int .i64 1]) := by show _ = _; rw [Nf.zget_head hv h2 (by rw [← hA, ← hB]; exact hh)]; rfl
        clear hv hA hB hh
        go_enter Tryz.func7, Tryz.ntmps7
        go_wp2_with fail
        go_quiet ((go_at_call 26; exact Calls.quiet_of_same (HZ.out _)))
        go_wp2_with fail
        refine bodyPost_ret (v := .tuple #[.string ⟨#[]⟩, .int .i64 1]) (by simp [results, Tryz.results7, go_sem]) rfl ?_
        exact ⟨by rw [HF.out], below_d (Below.refl _ _) _⟩
      | true =>
        have HZ : Hid (∀ w : World, Calls Tryz.prog 26 #[.int .i64 (a : Int), .int .i64 (b : Int)] w fun e w' => e = .returned (.bool true) ∧ w' = w) := fun w => by have := zlibHead_any a b w ha hb; rw [hh] at this; exact this
        obtain ⟨t, ht⟩ : ∃ t, t = s.extract 2 s.size := ⟨_, rfl⟩
        have hts : t.size = s.size - 2 := by rw [ht, ByteArray.size_extract]; omega
        have hex : s.extract 2 s.size = t := ht.symm
        have HG : Hid (Nf.zget s (M : Int) = Nf.ztail s (Nf.inflate t M)) := by show _ = _; rw [Nf.zget_go hv h2 (by rw [← hA, ← hB]; exact hh), ht, Int.toNat_natCast]
        have HIN : Hid (∀ w : World, Calls Tryz.prog 10 #[.string t, .int .i64 (M : Int)] w fun e w' => e = .returned (infV t (M : Int)) ∧ Below w.heap.size w w') := fun w => impl_inflate t (M : Int) w (by omega)
        have HRS : Hid (Nf.res t (M : Int) = Nf.inflate t M) := Nf.res_ok (by omega) hM
        have HTT : Hid (t = s.extract 2 s.size) := ht
        clear hv hA hB hh
        cases hin : Nf.inflate t M with
        | error c =>
          have HF : Hid (Nf.zV (Nf.zget s (M : Int)) = .tuple #[.string ⟨#[]⟩, .int .i64 (c : Int)]) := by show _ = _; rw [HG.out, hin]; rfl
          have HIV : Hid (infV t (M : Int) = .tuple #[.string ⟨#[]⟩, .int .i64 0, .int .i64 (c : Int)]) := infV_no (HRS.out.trans hin)
          have hc0 : c ≠ 0 := inf_c0 hin
          have hci : ¬ (c : Int) = 0 := by omega
          have hcn : ((c : Int) != 0) = true := by simp; omega
          have HI2 : Hid (∀ w : World, Calls Tryz.prog 10 #[.string t, .int .i64 (M : Int)] w fun e w' => e = .returned (.tuple #[.string ⟨#[]⟩, .int .i64 0, .int .i64 (c : Int)]) ∧ Below w.heap.size w w') := fun w => by rw [← HIV.out]; exact HIN.out w
          clear ht hin HG HRS HIV HIN
          go_enter Tryz.func7, Tryz.ntmps7
          go_wp2_with fail
          go_quiet ((go_at_call 26; exact Calls.quiet_of_same (HZ.out _)))
          go_wp2_with fail
          refine (HI2.out _).mono ?_
          rintro e w2 ⟨rfl, b2⟩
          go_wp2_with fail
          refine bodyPost_ret (v := .tuple #[.string ⟨#[]⟩, .int .i64 (c : Int)]) (by simp [results, Tryz.results7, go_sem]) rfl ?_
          exact ⟨by rw [HF.out], (below_d (Below.refl _ _) _).trans b2⟩
        | ok r =>
          obtain ⟨⟨L, q⟩, ks⟩ := r
          have hq : q ≤ 8 * t.size ∧ L.length ≤ M := inf_le hin
          obtain ⟨u, hu⟩ : ∃ u, u = (q + 7) / 8 := ⟨_, rfl⟩
          have hut : u ≤ t.size := by omega
          have HIV : Hid (infV t (M : Int) = .tuple #[.string ⟨L.toArray⟩, .int .i64 (u : Int), .int .i64 0]) := by show _ = _; rw [hu]; exact infV_ok (HRS.out.trans hin)
          have HI2 : Hid (∀ w : World, Calls Tryz.prog 10 #[.string t, .int .i64 (M : Int)] w fun e w' => e = .returned (.tuple #[.string ⟨L.toArray⟩, .int .i64 (u : Int), .int .i64 0]) ∧ Below w.heap.size w w') := fun w => by rw [← HIV.out]; exact HIN.out w
          have HG2 : Hid (Nf.zget s (M : Int) = Nf.ztail s (.ok ((L, q), ks)) ∧ u = (q + 7) / 8) := ⟨by rw [HG.out, hin], hu⟩
          obtain ⟨v, hvv⟩ : ∃ v : Nat, v = 2 + u := ⟨_, rfl⟩
          have hvi : (2 : Int) + (u : Int) = (v : Int) := by omega
          have hvw : IntKind.i64.wrap ((2 : Int) + (u : Int)) = (v : Int) := by rw [hvi]; exact wrap_i64_nat v (by omega)
          have hvs : v ≤ s.size := by omega
          have hvsi : (v : Int) ≤ (s.size : Int) := by omega
          obtain ⟨y, hy⟩ : ∃ y, y = s.extract v s.size := ⟨_, rfl⟩
          have hys : y.size = s.size - v := by rw [hy, ByteArray.size_extract]; omega
          have hey : s.extract v s.size = y := hy.symm
          have HLS : Hid ((⟨L.toArray⟩ : ByteArray).size = L.length ∧ (⟨L.toArray⟩ : ByteArray).data.toList = L) := ⟨by simp [ByteArray.size], by simp⟩
          have hLb : L.length ≤ 5000 := by omega
          clear ht hin HG HRS HIV HIN hu hq
          by_cases h4 : v + 4 ≤ s.size
          · have HNG : Hid (∀ w : World, Calls Tryz.prog 9 #[.string y, .int .i64 0, .int .i64 4, .bool true] w fun e w' => e = .returned (.tuple #[.int .i64 ((Nf.sumAt s u : Nat) : Int), .bool true]) ∧ Below w.heap.size w w') := fun w => by
              have h1 := impl_numGet_high y 0 4 w (by omega) (by omega) (by omega) (by omega)
              have e : Nm.big (fun i => byteAt y (0 + i)) 4 = Nf.sumAt s u := big_congr (fun i hi => by rw [hy, Nat.zero_add, extract_from s v i (by omega), hvv])
              rw [e] at h1
              exact h1
            have hsl := Nf.sumAt_lt s u
            by_cases h5 : y.size > 4
            · have h5i : (y.size : Int) > 4 := by omega
              have h5b : decide ((4 : Int) < (y.size : Int)) = true := decide_eq_true (by omega)
              have HF : Hid (Nf.zV (Nf.zget s (M : Int)) = .tuple #[.string ⟨#[]⟩, .int .i64 1]) := by show _ = _; rw [HG2.out.1, Nf.ztail_bad HG2.out.2 (by omega) (fun g => by have := g.1; omega)]; rfl
              generalize Nf.sumAt s u = sm at *
              clear hy HTT hts hys hut hvv hvs h4 hLb HLS
              go_enter Tryz.func7, Tryz.ntmps7
              go_wp2_with fail
              go_quiet ((go_at_call 26; exact Calls.quiet_of_same (HZ.out _)))
              go_wp2_with fail
              refine (HI2.out _).mono ?_
              rintro e w2 ⟨rfl, b2⟩
              go_wp2_with fail
              refine (HNG.out _).mono ?_
              rintro e w3 ⟨rfl, b3⟩
              have HBB : Hid (Below w.heap.size w w3) := ((below_d (Below.refl _ _) _).trans b2).trans (b3.mono b2.size)
              clear b2 b3
              go_wp2_with fail
              refine bodyPost_ret (v := .tuple #[.string ⟨#[]⟩, .int .i64 1]) (by simp [results, Tryz.results7, go_sem]) rfl ?_
              exact ⟨by rw [HF.out], HBB.out⟩
            · have h5i : ¬ (y.size : Int) > 4 := by omega
              have h5b : decide ((4 : Int) < (y.size : Int)) = false := decide_eq_false (by omega)
              have HAD : Hid (∀ w : World, Calls Tryz.prog 11 #[.string ⟨L.toArray⟩] w fun e w' => e = .returned (.int .i64 (Ad.more 1 L)) ∧ Below w.heap.size w w') := fun w => by
                have := impl_adler32 ⟨L.toArray⟩ w (by rw [HLS.out.1]; unfold maxLen; omega)
                rw [HLS.out.2] at this
                exact this
              have HSZ : Hid (s.size = 2 + u + 4) := by show _ = _; omega
              obtain ⟨X, hX⟩ : ∃ X, X = Ad.more 1 L := ⟨_, rfl⟩
              rw [← hX] at HAD
              by_cases h6 : ((Nf.sumAt s u : Nat) : Int) = X
              · have HF : Hid (Nf.zV (Nf.zget s (M : Int)) = .tuple #[.string ⟨L.toArray⟩, .int .i64 0]) := by show _ = _; rw [HG2.out.1, Nf.ztail_ok HG2.out.2 (by omega) ⟨HSZ.out, by rw [h6, hX]⟩]; rfl
                generalize Nf.sumAt s u = sm at *
                have h6n : ((sm : Int) != X) = false := by rw [h6]; simp
                clear hy HTT hX hts hys hut hvv hvs h4 hLb HLS HSZ
                subst h6
                go_enter Tryz.func7, Tryz.ntmps7
                go_wp2_with fail
                go_quiet ((go_at_call 26; exact Calls.quiet_of_same (HZ.out _)))
                go_wp2_with fail
                refine (HI2.out _).mono ?_
                rintro e w2 ⟨rfl, b2⟩
                go_wp2_with fail
                refine (HNG.out _).mono ?_
                rintro e w3 ⟨rfl, b3⟩
                have HBB : Hid (Below w.heap.size w w3) := ((below_d (Below.refl _ _) _).trans b2).trans (b3.mono b2.size)
                clear b2 b3
                go_wp2_with fail
                refine (HAD.out _).mono ?_
                rintro e w4 ⟨rfl, b4⟩
                have HB4 : Hid (Below w.heap.size w w4) := HBB.out.trans (b4.mono HBB.out.size)
                clear b4
                go_wp2_with fail
                refine bodyPost_ret (v := .tuple #[.string ⟨L.toArray⟩, .int .i64 0]) (by simp [results, Tryz.results7, go_sem]) rfl ?_
                exact ⟨by rw [HF.out], HB4.out⟩
              · have HF : Hid (Nf.zV (Nf.zget s (M : Int)) = .tuple #[.string ⟨#[]⟩, .int .i64 1]) := by show _ = _; rw [HG2.out.1, Nf.ztail_bad HG2.out.2 (by omega) (fun g => h6 (by rw [hX]; exact g.2))]; rfl
                generalize Nf.sumAt s u = sm at *
                have h6n : ((sm : Int) != X) = true := by simp [h6]
                clear hy HTT hX hts hys hut hvv hvs h4 hLb HLS HSZ
                go_enter Tryz.func7, Tryz.ntmps7
                go_wp2_with fail
                go_quiet ((go_at_call 26; exact Calls.quiet_of_same (HZ.out _)))
                go_wp2_with fail
                refine (HI2.out _).mono ?_
                rintro e w2 ⟨rfl, b2⟩
                go_wp2_with fail
                refine (HNG.out _).mono ?_
                rintro e w3 ⟨rfl, b3⟩
                have HBB : Hid (Below w.heap.size w w3) := ((below_d (Below.refl _ _) _).trans b2).trans (b3.mono b2.size)
                clear b2 b3
                go_wp2_with fail
                refine (HAD.out _).mono ?_
                rintro e w4 ⟨rfl, b4⟩
                have HB4 : Hid (Below w.heap.size w w4) := HBB.out.trans (b4.mono HBB.out.size)
                clear b4
                go_wp2_with fail
                refine bodyPost_ret (v := .tuple #[.string ⟨#[]⟩, .int .i64 1]) (by simp [results, Tryz.results7, go_sem]) rfl ?_
                exact ⟨by rw [HF.out], HB4.out⟩
          · have HNG : Hid (∀ w : World, Calls Tryz.prog 9 #[.string y, .int .i64 0, .int .i64 4, .bool true] w fun e w' => e = .returned (.tuple #[.int .i64 0, .bool false]) ∧ w' = w) := fun w => impl_numGet_no y 0 4 true w (by omega) (fun g => by obtain ⟨_, _, _, _, g5⟩ := g; omega)
            have HF : Hid (Nf.zV (Nf.zget s (M : Int)) = .tuple #[.string ⟨#[]⟩, .int .i64 2]) := by show _ = _; rw [HG2.out.1, Nf.ztail_short HG2.out.2 (by omega)]; rfl
            clear hy HTT hts hys hut hvv hvs h4 hLb HLS
            go_enter Tryz.func7, Tryz.ntmps7
            go_wp2_with fail
            go_quiet ((go_at_call 26; exact Calls.quiet_of_same (HZ.out _)))
            go_wp2_with fail
            refine (HI2.out _).mono ?_
            rintro e w2 ⟨rfl, b2⟩
            go_wp2_with fail
            refine (HNG.out _).mono ?_
            rintro e w3 ⟨rfl, hw3⟩
            subst hw3
            have HBB : Hid (Below w.heap.size w w3) := (below_d (Below.refl _ _) _).trans b2
            clear b2
            go_wp2_with fail
            refine bodyPost_ret (v := .tuple #[.string ⟨#[]⟩, .int .i64 2]) (by simp [results, Tryz.results7, go_sem]) rfl ?_
            exact ⟨by rw [HF.out], HBB.out⟩
  · have HF : Hid (Nf.zV (Nf.zget s lim) = .tuple #[.string ⟨#[]⟩, .int .i64 1]) := by show _ = _; rw [Nf.zget_bad hv]; rfl
    by_cases h9 : s.size ≤ 9000
    · have d1 : decide ((s.size : Int) > 9000) = false := decide_eq_false (by omega)
      have d2 : decide ((9000 : Int) < (s.size : Int)) = false := decide_eq_false (by omega)
      by_cases hl : lim < 0
      · have d3 : decide (lim < 0) = true := decide_eq_true hl
        clear hv
        go_enter Tryz.func7, Tryz.ntmps7
        go_wp2_with fail
        refine bodyPost_ret (v := .tuple #[.string ⟨#[]⟩, .int .i64 1]) (by simp [results, Tryz.results7, go_sem]) rfl ?_
        exact ⟨by rw [HF.out], Below.refl _ _⟩
      · have d3 : decide (lim < 0) = false := decide_eq_false hl
        have d4 : decide (lim > 5000) = true := decide_eq_true (by omega)
        have d5 : decide ((5000 : Int) < lim) = true := decide_eq_true (by omega)
        clear hv
        go_enter Tryz.func7, Tryz.ntmps7
        go_wp2_with fail
        refine bodyPost_ret (v := .tuple #[.string ⟨#[]⟩, .int .i64 1]) (by simp [results, Tryz.results7, go_sem]) rfl ?_
        exact ⟨by rw [HF.out], Below.refl _ _⟩
    · have d1 : decide ((s.size : Int) > 9000) = true := decide_eq_true (by omega)
      have d2 : decide ((9000 : Int) < (s.size : Int)) = true := decide_eq_true (by omega)
      clear hv
      go_enter Tryz.func7, Tryz.ntmps7
      go_wp2_with fail
      refine bodyPost_ret (v := .tuple #[.string ⟨#[]⟩, .int .i64 1]) (by simp [results, Tryz.results7, go_sem]) rfl ?_
      exact ⟨by rw [HF.out], Below.refl _ _⟩
end Go.Proofs.YtejebodgfoihkabGreat

/- ZlibGet of the specification, and the exact law. -/
namespace Go.Proofs.YtejebodgfoihkabGreat
open Go.RowKit

set_option linter.unusedSimpArgs false in
set_option maxHeartbeats 4000000 in
set_option maxRecDepth 20000 in
theorem spec_zlibGet (s : ByteArray) (lim : Int) (w : World) (hs : s.size ≤ 1048576) :
    Calls Tryz.prog 8 #[.string s, .int .i64 lim] w fun e w' => e = .returned (Nf.zV (Nf.zget s lim)) ∧ Below w.heap.size w w' := by
  by_cases h9 : s.size ≤ 9000
  rotate_left
  · have d1 : decide ((s.size : Int) > 9000) = true := decide_eq_true (by omega)
    have d2 : decide ((9000 : Int) < (s.size : Int)) = true := decide_eq_true (by omega)
    have HF : Hid (Nf.zV (Nf.zget s lim) = .tuple #[.string ⟨#[]⟩, .int .i64 1]) := by show _ = _; rw [Nf.zget_bad (fun g => h9 g.1)]; rfl
    go_enter Tryz.func8, Tryz.ntmps8
    go_wp2_with fail
    refine bodyPost_ret (v := .tuple #[.string ⟨#[]⟩, .int .i64 1]) (by simp [results, Tryz.results8, go_sem]) rfl ?_
    exact ⟨by rw [HF.out], Below.refl _ _⟩
  have d1 : decide ((s.size : Int) > 9000) = false := decide_eq_false (by omega)
  have d2 : decide ((9000 : Int) < (s.size : Int)) = false := decide_eq_false (by omega)
  by_cases hl : 0 ≤ lim ∧ lim ≤ 5000
  rotate_left
  · have HIN : Hid (Calls Tryz.prog 27 #[.int .i64 lim, .int .i64 0, .int .i64 5000] w fun e w' => e = .returned (.bool false) ∧ w' = w) := l1In_no _ _ _ w hl
    have HF : Hid (Nf.zV (Nf.zget s lim) = .tuple #[.string ⟨#[]⟩, .int .i64 1]) := by show _ = _; rw [Nf.zget_bad (fun g => hl g.2)]; rfl
    clear hl
    go_enter Tryz.func8, Tryz.ntmps8
    go_wp2_with fail
    refine HIN.out.mono ?_
    rintro e w1 ⟨rfl, hw1⟩
    replace hw1 := hw1.symm
    subst hw1
    go_wp2_with fail
    refine bodyPost_ret (v := .tuple #[.string ⟨#[]⟩, .int .i64 1]) (by simp [results, Tryz.results8, go_sem]) rfl ?_
    exact ⟨by rw [HF.out], Below.refl _ _⟩
  have hv : s.size ≤ 9000 ∧ 0 ≤ lim ∧ lim ≤ 5000 := ⟨h9, hl⟩
  obtain ⟨M, rfl⟩ := Int.eq_ofNat_of_zero_le hl.1
  have hM : M ≤ 5000 := by omega
  have HIN : Hid (Calls Tryz.prog 27 #[.int .i64 (M : Int), .int .i64 0, .int .i64 5000] w fun e w' => e = .returned (.bool true) ∧ w' = w) := l1In_yes _ _ _ w (by omega) (by omega)
  clear hl
  by_cases h2 : s.size < 2
  · have h2i : (s.size : Int) < 2 := by omega
    have HF : Hid (Nf.zV (Nf.zget s (M : Int)) = .tuple #[.string ⟨#[]⟩, .int .i64 2]) := by show _ = _; rw [Nf.zget_short hv h2]; rfl
    clear hv
    go_enter Tryz.func8, Tryz.ntmps8
    go_wp2_with fail
    refine HIN.out.mono ?_
    rintro e w1 ⟨rfl, hw1⟩
    replace hw1 := hw1.symm
    subst hw1
    go_wp2_with fail
    refine bodyPost_ret (v := .tuple #[.string ⟨#[]⟩, .int .i64 2]) (by simp [results, Tryz.results8, go_sem]) rfl ?_
    exact ⟨by rw [HF.out], Below.refl _ _⟩
  have h2i : ¬ (s.size : Int) < 2 := by omega
  have hz0 : 0 < s.size := by omega
  have hz1 : 1 < s.size := by omega
  have hz0i : (0 : Int) < (s.size : Int) := by omega
  have hz1i : (1 : Int) < (s.size : Int) := by omega
  have hb0 := byteAt_eq s 0 hz0
  have hb1 := byteAt_eq s 1 hz1
  have ha := byteAt_lt s 0
  have hb := byteAt_lt s 1
  obtain ⟨a, hA⟩ : ∃ a, a = byteAt s 0 := ⟨_, rfl⟩
  obtain ⟨b, hB⟩ : ∃ b, b = byteAt s 1 := ⟨_, rfl⟩
  rw [← hA] at hb0 ha
  rw [← hB] at hb1 hb
  have hwa := wrap_i64_nat a (by omega)
  have hwb := wrap_i64_nat b (by omega)
  obtain ⟨m, hm⟩ : ∃ m, m = a % 16 := ⟨_, rfl⟩
  obtain ⟨d, hd⟩ : ∃ d, d = a / 16 := ⟨_, rfl⟩
  obtain ⟨S, hS⟩ : ∃ S, S = 256 * a + b := ⟨_, rfl⟩
  obtain ⟨r, hr⟩ : ∃ r, r = S % 31 := ⟨_, rfl⟩
  obtain ⟨k0, hk0⟩ : ∃ k0, k0 = b / 32 := ⟨_, rfl⟩
  obtain ⟨k, hk⟩ : ∃ k, k = k0 % 2 := ⟨_, rfl⟩
  have eS : (a : Int) * 256 + (b : Int) = (S : Int) := by omega
  have eSw : IntKind.i64.wrap ((a : Int) * 256 + (b : Int)) = (S : Int) := by rw [eS]; exact wrap_i64_nat S (by omega)
  have em : (a : Int).tmod 16 = (m : Int) := by rw [Int.tmod_eq_emod_of_nonneg (by omega)]; omega
  have em2 : (a : Int) % 16 = (m : Int) := by omega
  have ed : (a : Int).tdiv 16 = (d : Int) := by rw [Int.tdiv_eq_ediv_of_nonneg (by omega)]; omega
  have ed2 : (a : Int) / 16 = (d : Int) := by omega
  have er : (S : Int).tmod 31 = (r : Int) := by rw [Int.tmod_eq_emod_of_nonneg (by omega)]; omega
  have er2 : (S : Int) % 31 = (r : Int) := by omega
  have ek : (b : Int).tdiv 32 = (k0 : Int) := by rw [Int.tdiv_eq_ediv_of_nonneg (by omega)]; omega
  have ek2 : (b : Int) / 32 = (k0 : Int) := by omega
  have el : (k0 : Int).tmod 2 = (k : Int) := by rw [Int.tmod_eq_emod_of_nonneg (by omega)]; omega
  have el2 : (k0 : Int) % 2 = (k : Int) := by omega
  have hw1 := wrap_i64_nat m (by omega)
  have hw2 := wrap_i64_nat d (by omega)
  have hw3 := wrap_i64_nat r (by omega)
  have hw4 := wrap_i64_nat k0 (by omega)
  have hw5 := wrap_i64_nat k (by omega)
  have hk2 : k < 2 := by omega
  have HE : Hid (Nf.hd a b = (decide (m = 8) && (decide (d ≤ 7) && (decide (r = 0) && decide (k = 0))))) := by
    show _ = _
    unfold Nf.hd
    rw [← hm, ← hd, ← hS, ← hr, ← hk0, ← hk]
  have HAB : Hid (a = byteAt s 0 ∧ b = byteAt s 1) := ⟨hA, hB⟩
  have hSb : S ≤ 66000 := by omega
  clear hA hB hm hd hS hr hk0 hk eS
  by_cases hbad : Nf.hd a b = false
  · have HF : Hid (Nf.zV (Nf.zget s (M : Int)) = .tuple #[.string ⟨#[]⟩, .int .i64 1]) := by show _ = _; rw [Nf.zget_head hv h2 (by rw [← HAB.out.1, ← HAB.out.2]; exact hbad)]; rfl
    rw [HE.out] at hbad
    clear hv HE HAB
    by_cases c1 : m = 8
    · subst c1
      by_cases c2 : d ≤ 7
      · have c2i : decide ((d : Int) > 7) = false := decide_eq_false (by omega)
        have c2j : decide ((7 : Int) < (d : Int)) = false := decide_eq_false (by omega)
        by_cases c3 : r = 0
        · subst c3
          have c4 : k = 1 := by simp [c2] at hbad; omega
          subst c4
          clear hbad
          go_enter Tryz.func8, Tryz.ntmps8
          go_wp2_with fail
          refine HIN.out.mono ?_
          rintro e w1 ⟨rfl, hw1⟩
          replace hw1 := hw1.symm
          subst hw1
          go_wp2_with fail
          refine bodyPost_ret (v := .tuple #[.string ⟨#[]⟩, .int .i64 1]) (by simp [results, Tryz.results8, go_sem]) rfl ?_
          exact ⟨by rw [HF.out], Below.refl _ _⟩
        · have c3i : ((r : Int) != 0) = true := by simp; omega
          clear hbad
          go_enter Tryz.func8, Tryz.ntmps8
          go_wp2_with fail
          refine HIN.out.mono ?_
          rintro e w1 ⟨rfl, hw1⟩
          replace hw1 := hw1.symm
          subst hw1
          go_wp2_with fail
          refine bodyPost_ret (v := .tuple #[.string ⟨#[]⟩, .int .i64 1]) (by simp [results, Tryz.results8, go_sem]) rfl ?_
          exact ⟨by rw [HF.out], Below.refl _ _⟩
      · have c2i : decide ((d : Int) > 7) = true := decide_eq_true (by omega)
        have c2j : decide ((7 : Int) < (d : Int)) = true := decide_eq_true (by omega)
        clear hbad
        go_enter Tryz.func8, Tryz.ntmps8
        go_wp2_with fail
        refine HIN.out.mono ?_
        rintro e w1 ⟨rfl, hw1⟩
        replace hw1 := hw1.symm
        subst hw1
        go_wp2_with fail
        refine bodyPost_ret (v := .tuple #[.string ⟨#[]⟩, .int .i64 1]) (by simp [results, Tryz.results8, go_sem]) rfl ?_
        exact ⟨by rw [HF.out], Below.refl _ _⟩
    · have c1i : ((m : Int) != 8) = true := by simp; omega
      clear hbad
      go_enter Tryz.func8, Tryz.ntmps8
      go_wp2_with fail
      refine HIN.out.mono ?_
      rintro e w1 ⟨rfl, hw1⟩
      replace hw1 := hw1.symm
      subst hw1
      go_wp2_with fail
      refine bodyPost_ret (v := .tuple #[.string ⟨#[]⟩, .int .i64 1]) (by simp [results, Tryz.results8, go_sem]) rfl ?_
      exact ⟨by rw [HF.out], Below.refl _ _⟩
  have hgood : Nf.hd a b = true := by cases h : Nf.hd a b; exact absurd h hbad; rfl
  have hc : m = 8 ∧ d ≤ 7 ∧ r = 0 ∧ k = 0 := by
    have := HE.out
    rw [hgood] at this
    simpa using this.symm
  obtain ⟨c1, c2, c3, c4⟩ := hc
  subst c1 c3 c4
  have c2i : decide ((d : Int) > 7) = false := decide_eq_false (by omega)
  have c2j : decide ((7 : Int) < (d : Int)) = false := decide_eq_false (by omega)
  obtain ⟨t, ht⟩ : ∃ t, t = s.extract 2 s.size := ⟨_, rfl⟩
  have hts : t.size = s.size - 2 := by rw [ht, ByteArray.size_extract]; omega
  have hex : s.extract 2 s.size = t := ht.symm
  have HG : Hid (Nf.zget s (M : Int) = Nf.ztail s (Nf.inflate t M)) := by show _ = _; rw [Nf.zget_go hv h2 (by rw [← HAB.out.1, ← HAB.out.2]; exact hgood), ht, Int.toNat_natCast]
  have HL4 : Hid (Calls Tryz.prog 28 #[.string t, .int .i64 (M : Int)] w (L4End w t M)) := l4Inflate_any M t w (by omega) hM
  have HTS : Hid (t.size = s.size - 2) := hts
  clear hv hgood hbad HE HAB ht hts
  go_enter Tryz.func8, Tryz.ntmps8
  go_wp2_with fail
  refine HIN.out.mono ?_
  rintro e w0 ⟨rfl, hw0⟩
  replace hw0 := hw0.symm
  subst hw0
  clear HIN
  go_wp2_with fail
  refine HL4.out.mono ?_
  rintro e w1 ⟨rfl, b1, (⟨L, q, ks, vk, g1, g2, g3, g4, g5⟩ | ⟨c, p', l', vk, g1, g2, g3⟩)⟩
  · obtain ⟨u, hu⟩ : ∃ u, u = (q + 7) / 8 := ⟨_, rfl⟩
    have HG2 : Hid (Nf.zget s (M : Int) = Nf.ztail s (.ok ((L, q), ks)) ∧ u = (q + 7) / 8 ∧ Below w.heap.size w w1) := ⟨by rw [HG.out, g1], hu, b1⟩
    obtain ⟨R, hR⟩ : ∃ R, R = w.heap.size := ⟨_, rfl⟩
    rw [← hR] at g2
    have k4 : w1.cell? ⟨R, 4, none⟩ = some (.int .i64 0) := g2.cells.2.2.2.1
    have k1 := g2.cells.2.1
    obtain ⟨vo, hcc, hvo⟩ := g2
    have k3 : w1.cell? ⟨R, 3, none⟩ = some vo := by simp [World.cell?, hcc]
    have HTX : Hid (∀ m, Sem.run Tryz.prog (convert 22 9 vo) (w1.drewN m) = .ok (.string ⟨L.toArray⟩) (w1.drewN m)) := fun m => OwnT.text (hvo.drewN m)
    have e1 : ((q : Int) + 7) / 8 = (u : Int) := by omega
    have e2 : ((q : Int) + 7).tdiv 8 = (u : Int) := by rw [Int.tdiv_eq_ediv_of_nonneg (by omega)]; exact e1
    have hts := HTS.out
    have e3 := wrap_i64_nat u (by omega)
    have e4 : IntKind.i64.wrap ((q : Int) + 7) = (q : Int) + 7 := by have := wrap_i64_nat (q + 7) (by omega); rw [show ((q + 7 : Nat) : Int) = (q : Int) + 7 by omega] at this; exact this
    obtain ⟨v, hvv⟩ : ∃ v : Nat, v = 2 + u := ⟨_, rfl⟩
    have hvi : (2 : Int) + (u : Int) = (v : Int) := by omega
    have hvw : IntKind.i64.wrap ((2 : Int) + (u : Int)) = (v : Int) := by rw [hvi]; exact wrap_i64_nat v (by omega)
    obtain ⟨y, hy⟩ : ∃ y : Nat, y = v + 4 := ⟨_, rfl⟩
    have hyi : (v : Int) + 4 = (y : Int) := by omega
    have hyw : IntKind.i64.wrap ((v : Int) + 4) = (y : Int) := by rw [hyi]; exact wrap_i64_nat y (by omega)
    have hLb : L.length ≤ 5000 := by omega
    have hvb : v ≤ 20000 := by omega
    have hyb : y ≤ 20000 := by omega
    rw [← hR]
    clear g1 g3 hcc hvo HL4 hR hu HG b1 g4 g5 hts
    by_cases h4 : y ≤ s.size
    · have h4i : ¬ (y : Int) > (s.size : Int) := by omega
      have h4b : decide ((s.size : Int) < (y : Int)) = false := decide_eq_false (by omega)
      by_cases h5 : y < s.size
      · have h5b : decide ((y : Int) < (s.size : Int)) = true := decide_eq_true (by omega)
        have h5i : (y : Int) < (s.size : Int) := by omega
        have HF : Hid (Nf.zV (Nf.zget s (M : Int)) = .tuple #[.string ⟨#[]⟩, .int .i64 1]) := by show _ = _; rw [HG2.out.1, Nf.ztail_bad HG2.out.2.1 (by omega) (fun g => by have := g.1; omega)]; rfl
        clear hvv hy h4 h5 hLb
        go_wp2_with fail
        go_quiet (fail)
        go_wp2_with fail
        refine bodyPost_ret (v := .tuple #[.string ⟨#[]⟩, .int .i64 1]) (by simp [results, Tryz.results8, go_sem]) rfl ?_
        exact ⟨by rw [HF.out], below_d HG2.out.2.2 _⟩
      · have h5b : decide ((y : Int) < (s.size : Int)) = false := decide_eq_false (by omega)
        have h5n : decide (y < s.size) = false := decide_eq_false (by omega)
        have h5i : ¬ (y : Int) < (s.size : Int) := by omega
        have HLS : Hid ((⟨L.toArray⟩ : ByteArray).size = L.length ∧ (⟨L.toArray⟩ : ByteArray).data.toList = L) := ⟨by simp [ByteArray.size], by simp⟩
        have HAD : Hid (∀ w : World, Calls Tryz.prog 30 #[.string ⟨L.toArray⟩] w fun e w' => e = .returned (.int .i64 (Ad.more 1 L)) ∧ w' = w) := fun w => by
          have := spec_adler32 ⟨L.toArray⟩ w (by rw [HLS.out.1]; unfold maxLen; omega)
          rw [HLS.out.2] at this
          exact this
        have HFD : Hid (∀ w : World, Calls Tryz.prog 29 #[.string s, .int .i64 (v : Int), .int .i64 4, .bool true] w fun e w' => e = .returned (.int .i64 ((Nf.sumAt s u : Nat) : Int)) ∧ w' = w) := fun w => by
          have h1 := l1Field_big s v 4 w (by omega) (by omega) (by omega)
          have e : Nm.big (fun i => byteAt s (v + i)) 4 = Nf.sumAt s u := by rw [hvv]; rfl
          rw [e] at h1
          exact h1
        have HSZ : Hid (s.size = 2 + u + 4) := by show _ = _; omega
        obtain ⟨X, hX⟩ : ∃ X, X = Ad.more 1 L := ⟨_, rfl⟩
        rw [← hX] at HAD
        by_cases h6 : ((Nf.sumAt s u : Nat) : Int) = X
        · have HF : Hid (Nf.zV (Nf.zget s (M : Int)) = .tuple #[.string ⟨L.toArray⟩, .int .i64 0]) := by show _ = _; rw [HG2.out.1, Nf.ztail_ok HG2.out.2.1 (by omega) ⟨HSZ.out, by rw [h6, hX]⟩]; rfl
          generalize Nf.sumAt s u = sm at *
          have h6n : ((sm : Int) != X) = false := by rw [h6]; simp
          clear hvv hy h4 h5 hLb HSZ HLS hX
          subst h6
          have h6m : ((sm : Int) != (sm : Int)) = false := by simp
          go_wp2_with fail
          have htx := fun m => HTX.out m
          go_quiet (first | (go_at_call 29; exact Calls.quiet_of_same (HFD.out _)) | (go_at_call 30; exact Calls.quiet_of_same (HAD.out _)))
          generalize hwr : w1.drewN nq = w2
          have j3 : w2.cell? ⟨R, 3, none⟩ = some vo := by rw [← hwr]; exact k3
          have htx2 : Sem.run Tryz.prog (convert 22 9 vo) w2 = .ok (.string ⟨L.toArray⟩) w2 := by rw [← hwr]; exact HTX.out nq
          have HB2 : Hid (Below w.heap.size w w2) := by show Below _ _ _; rw [← hwr]; exact below_d HG2.out.2.2 _
          clear hwr htx k3 k4 k1
          go_wp2_with fail
          refine bodyPost_ret (v := .tuple #[.string ⟨L.toArray⟩, .int .i64 0]) (by simp [results, Tryz.results8, go_sem]) rfl ?_
          exact ⟨by rw [HF.out], HB2.out⟩
        · have HF : Hid (Nf.zV (Nf.zget s (M : Int)) = .tuple #[.string ⟨#[]⟩, .int .i64 1]) := by show _ = _; rw [HG2.out.1, Nf.ztail_bad HG2.out.2.1 (by omega) (fun g => h6 (by rw [hX]; exact g.2))]; rfl
          generalize Nf.sumAt s u = sm at *
          have h6n : ((sm : Int) != X) = true := by simp [h6]
          clear hvv hy h4 h5 hLb HSZ HLS hX
          go_wp2_with fail
          have htx := fun m => HTX.out m
          go_quiet (first | (go_at_call 29; exact Calls.quiet_of_same (HFD.out _)) | (go_at_call 30; exact Calls.quiet_of_same (HAD.out _)))
          go_wp2_with fail
          refine bodyPost_ret (v := .tuple #[.string ⟨#[]⟩, .int .i64 1]) (by simp [results, Tryz.results8, go_sem]) rfl ?_
          exact ⟨by rw [HF.out], below_d HG2.out.2.2 _⟩
    · have h4i : (y : Int) > (s.size : Int) := by omega
      have h4b : decide ((s.size : Int) < (y : Int)) = true := decide_eq_true (by omega)
      have HF : Hid (Nf.zV (Nf.zget s (M : Int)) = .tuple #[.string ⟨#[]⟩, .int .i64 2]) := by show _ = _; rw [HG2.out.1, Nf.ztail_short HG2.out.2.1 (by omega)]; rfl
      clear hvv hy h4 hLb
      go_wp2_with fail
      refine bodyPost_ret (v := .tuple #[.string ⟨#[]⟩, .int .i64 2]) (by simp [results, Tryz.results8, go_sem]) rfl ?_
      exact ⟨by rw [HF.out], HG2.out.2.2⟩
  · have HF : Hid (Nf.zV (Nf.zget s (M : Int)) = .tuple #[.string ⟨#[]⟩, .int .i64 (c : Int)] ∧ Below w.heap.size w w1) := ⟨by rw [HG.out, g1]; rfl, b1⟩
    obtain ⟨R, hR⟩ : ∃ R, R = w.heap.size := ⟨_, rfl⟩
    rw [← hR] at g3
    have k4 := g3.cells.2.2.2.1
    have hci : ¬ (c : Int) = 0 := by omega
    have hcn : ((c : Int) != 0) = true := by simp; omega
    rw [← hR]
    clear g1 g2 g3 HL4 hR b1
    go_wp2_with fail
    go_quiet (fail)
    go_wp2_with fail
    refine bodyPost_ret (v := .tuple #[.string ⟨#[]⟩, .int .i64 (c : Int)]) (by simp [results, Tryz.results8, go_sem]) rfl ?_
    exact ⟨by rw [HF.out.1], below_d HF.out.2 _⟩

end Go.Proofs.YtejebodgfoihkabGreat

/- How deep each symbol stands is written down. -/
namespace Go.Proofs.YtejebodgfoihkabGreat
open Go.RowKit
open Ct (Tr Nt)

/-- what is written down -/
def tell : Tr → Nat → (Nat → Nat) → (Nat → Nat)
  | .leaf s, d, f => fun i => if i = s then d else f i
  | .node l r, d, f => tell r (d + 1) (tell l (d + 1) f)
/-- a row of lengths -/
def OwnL (w : World) (B n : Nat) (f : Nat → Nat) : Prop := Own w B n (fun i => ((f i : Nat) : Int)) ∧ ∃ cs fr, w.heap[B]? = some (.cells cs 3 fr)
theorem OwnL.set {w : World} {B n : Nat} {f : Nat → Nat} (h : OwnL w B n f) {s : Nat} (hs : s < n) (d : Nat) : OwnL (w.setCell ⟨B, s, none⟩ (.int .i64 (d : Int))) B n (fun i => if i = s then d else f i) ∧ Turned B w (w.setCell ⟨B, s, none⟩ (.int .i64 (d : Int))) := by
  obtain ⟨h1, cs, fr, h2⟩ := h
  refine ⟨⟨⟨by rw [World.size_setCell]; exact h1.1, fun i hi => ⟨?_, ?_⟩⟩, ?_⟩, (Turned.refl B w).set s _⟩
  · by_cases e : i = s
    · subst e; rw [World.cell?_setCell_same _ _ _ (h1.2 i hi).1]; simp
    · rw [World.cell?_setCell_other _ _ _ _ (fun q => e (congrArg Addr.off q).symm), (h1.2 i hi).1]; simp [e]
  · rw [World.frozen?_setCell]; exact (h1.2 i hi).2
  · rw [setCell_eq_setRow w B s cs _ fr _ h2]
    exact ⟨_, _, setRow_heap w B cs _ _ _ h2⟩
theorem Turned.nodes {B : Nat} {w w' : World} (h : Turned B w w') (hb : ∃ cs fr, w.heap[B]? = some (.cells cs 3 fr)) : NodesK w w' := fun k cs e => by
  obtain ⟨cs', fr, hb⟩ := hb
  refine (h.rest k (fun ek => ?_)).trans e
  rw [ek, hb] at e
  cases e
theorem Turned.trans {B : Nat} {x y z : World} (h : Turned B x y) (k : Turned B y z) : Turned B x z := ⟨k.os.trans h.os, k.tape.trans h.tape, k.output.trans h.output, k.size.trans h.size, fun i hi => (k.rest i hi).trans (h.rest i hi)⟩
end Go.Proofs.YtejebodgfoihkabGreat

/- The lengths that a tree tells, and those that are counted (mathematics). -/
namespace Go.Proofs.YtejebodgfoihkabGreat
open Ct (Tr Nt)
namespace Ct

theorem step_cases (ts : List Nt) : (step ts = ts ∧ ts.length ≤ 1) ∨ ∃ a wa b wb, Cf.lst (-1) (ts.map wt) 0 none = some (a, wa) ∧ Cf.lst (a : Int) (ts.map wt) 0 none = some (b, wb) ∧ a ≠ b ∧ a < ts.length ∧ b < ts.length := by
  by_cases h : 1 < ts.length
  · obtain ⟨a, wa, b, wb, h1, h2, hab, ha, hb⟩ := Cf.two (ns := ts.map wt) (by rw [List.length_map]; exact h)
    rw [List.length_map] at ha hb
    exact .inr ⟨a, wa, b, wb, h1, h2, hab, ha, hb⟩
  · refine .inl ⟨?_, by omega⟩
    match ts, h with
    | [], _ => rfl
    | [x], _ => rfl
    | x :: y :: l, h => simp at h
theorem getD_at {ts : List Nt} {a : Nat} (ha : a < ts.length) : ts.getD a (0, .leaf 0) = ts[a] := by rw [List.getD_eq_getElem?_getD, List.getElem?_eq_getElem ha]; rfl
/-- a sum over the nodes, behind a step -/
theorem step_sum (f : Nt → Nat) {ts : List Nt} {a wa b wb : Nat} (h1 : Cf.lst (-1) (ts.map wt) 0 none = some (a, wa)) (h2 : Cf.lst (a : Int) (ts.map wt) 0 none = some (b, wb)) (hab : a ≠ b) (ha : a < ts.length) (hb : b < ts.length) :
    Cf.sum f (step ts) + f ts[a] + f ts[b] = Cf.sum f ts + f (ts[a].1 + ts[b].1, .node ts[a].2 ts[b].2) := by
  rw [step_two h1 h2, Cf.sum_append, getD_at ha, getD_at hb, ← Cf.wo_sum0 f hab ts ha hb]
  show Cf.sum f _ + (f _ + 0) + f ts[a] + f ts[b] = _
  omega
def cnt (s : Nat) (p : Nt) : Nat := (syms p.2).count s
def lvs (p : Nt) : Nat := (syms p.2).length
def dpt (s : Nat) (p : Nt) : Nat := dep p.2 s
theorem step_cnt (s : Nat) (ts : List Nt) : Cf.sum (cnt s) (step ts) = Cf.sum (cnt s) ts := by
  rcases step_cases ts with ⟨h, _⟩ | ⟨a, wa, b, wb, h1, h2, hab, ha, hb⟩
  · rw [h]
  · have := step_sum (cnt s) h1 h2 hab ha hb
    have e : cnt s (ts[a].1 + ts[b].1, .node ts[a].2 ts[b].2) = cnt s ts[a] + cnt s ts[b] := by unfold cnt; simp only [syms]; rw [List.count_append]
    omega
theorem step_lvs (ts : List Nt) : Cf.sum lvs (step ts) = Cf.sum lvs ts := by
  rcases step_cases ts with ⟨h, _⟩ | ⟨a, wa, b, wb, h1, h2, hab, ha, hb⟩
  · rw [h]
  · have := step_sum lvs h1 h2 hab ha hb
    have e : lvs (ts[a].1 + ts[b].1, .node ts[a].2 ts[b].2) = lvs ts[a] + lvs ts[b] := by unfold lvs; simp only [syms]; rw [List.length_append]
    omega
theorem iter_cnt (s : Nat) (ts : List Nt) : ∀ j, Cf.sum (cnt s) (iterT ts j) = Cf.sum (cnt s) ts
  | 0 => rfl
  | j + 1 => by rw [iterT, step_cnt, iter_cnt s ts j]
theorem iter_lvs (ts : List Nt) : ∀ j, Cf.sum lvs (iterT ts j) = Cf.sum lvs ts
  | 0 => rfl
  | j + 1 => by rw [iterT, step_lvs, iter_lvs ts j]
theorem init_cnt (zs : List Int) (s : Nat) : ∀ k, Cf.sum (cnt s) (initT zs k) ≤ 1 ∧ (k ≤ s → Cf.sum (cnt s) (initT zs k) = 0)
  | 0 => ⟨by simp [initT, Cf.sum], fun _ => rfl⟩
  | k + 1 => by
    obtain ⟨h1, h2⟩ := init_cnt zs s k
    unfold initT
    split
    · rw [Cf.sum_append]
      have e : Cf.sum (cnt s) [((zs.getD k 0).toNat, Tr.leaf k)] = if k = s then 1 else 0 := by
        simp [Cf.sum, cnt, syms, List.count_cons]
      rw [e]
      refine ⟨?_, fun h => ?_⟩
      · by_cases hk : k = s
        · rw [if_pos hk, h2 (by omega)]; exact Nat.le_refl _
        · rw [if_neg hk]; omega
      · rw [h2 (by omega), if_neg (by omega)]
    · exact ⟨h1, fun h => h2 (by omega)⟩
theorem init_lvs (zs : List Int) : ∀ k, Cf.sum lvs (initT zs k) ≤ k
  | 0 => by simp [initT, Cf.sum]
  | k + 1 => by
    have := init_lvs zs k
    unfold initT
    split
    · rw [Cf.sum_append]
      have e : Cf.sum lvs [((zs.getD k 0).toNat, Tr.leaf k)] = 1 := by simp [Cf.sum, lvs, syms]
      omega
    · omega
theorem hgt_lvs : ∀ t : Tr, hgt t + 1 ≤ (syms t).length
  | .leaf _ => by simp [hgt, syms]
  | .node l r => by
    have h1 := hgt_lvs l
    have h2 := hgt_lvs r
    simp only [hgt, syms, List.length_append]
    have : Nat.max (hgt l) (hgt r) = hgt l ∨ Nat.max (hgt l) (hgt r) = hgt r := by
      rcases Nat.le_total (hgt l) (hgt r) with h | h
      · exact .inr (Nat.max_eq_right h)
      · exact .inl (Nat.max_eq_left h)
    omega
theorem dep_none {s : Nat} : ∀ {t : Tr}, s ∉ syms t → dep t s = 0
  | .leaf _, _ => rfl
  | .node l r, h => by
    simp only [syms, List.mem_append, not_or] at h
    simp only [dep]
    rw [dep_none h.1, dep_none h.2, List.count_append, List.count_eq_zero.2 h.1, List.count_eq_zero.2 h.2]
theorem tell_is {s : Nat} : ∀ {t : Tr} {d : Nat} {f : Nat → Nat}, (syms t).count s ≤ 1 → tell t d f s = if s ∈ syms t then d + dep t s else f s
  | .leaf x, d, f, _ => by simp [tell, syms, dep]
  | .node l r, d, f, h => by
    simp only [syms, List.count_append] at h
    simp only [tell]
    rw [tell_is (t := r) (by omega), tell_is (t := l) (by omega)]
    by_cases hr : s ∈ syms r
    · have c1 : (syms r).count s = 1 := by have := List.one_le_count_iff.2 hr; omega
      have hl : s ∉ syms l := fun hl => by have := List.one_le_count_iff.2 hl; omega
      rw [if_pos hr, if_pos (by simp [syms, hr])]
      simp only [dep]
      rw [List.count_append, c1, List.count_eq_zero.2 hl, dep_none hl]
      omega
    · rw [if_neg hr]
      by_cases hl : s ∈ syms l
      · have c1 : (syms l).count s = 1 := by have := List.one_le_count_iff.2 hl; omega
        rw [if_pos hl, if_pos (by simp [syms, hl])]
        simp only [dep]
        rw [List.count_append, c1, List.count_eq_zero.2 hr, dep_none hr]
        omega
      · rw [if_neg hl, if_neg (by simp [syms, hl, hr])]
/-- the lengths that the tree at the end tells -/
def topT : Tr → (Nat → Nat)
  | .leaf s => fun i => if i = s then 1 else 0
  | .node l r => tell (.node l r) 0 (fun _ => 0)
def IsLens (zs : List Int) (F : Nat → Nat) : Prop := (initT zs zs.length = [] ∧ F = fun _ => 0) ∨ ∃ o t j, iterT (initT zs zs.length) j = [(o, t)] ∧ F = topT t
theorem iter_stop {ts : List Nt} {j : Nat} {x : Nt} (h : iterT ts j = [x]) : ∀ k, iterT ts (j + k) = [x]
  | 0 => h
  | k + 1 => by
    show step (iterT ts (j + k)) = [x]
    rw [iter_stop h k]
    rfl
theorem iter_nil : ∀ j, iterT [] j = []
  | 0 => rfl
  | j + 1 => by rw [iterT, iter_nil j]; rfl
theorem IsLens.same {zs : List Int} {F G : Nat → Nat} (h : IsLens zs F) (k : IsLens zs G) : F = G := by
  rcases h with ⟨h1, h2⟩ | ⟨o, t, j, h1, h2⟩ <;> rcases k with ⟨k1, k2⟩ | ⟨o', t', j', k1, k2⟩
  · rw [h2, k2]
  · rw [h1, iter_nil] at k1; cases k1
  · rw [k1, iter_nil] at h1; cases h1
  · have e1 := iter_stop h1 j'
    have e2 := iter_stop k1 j
    rw [Nat.add_comm] at e2
    rw [e1] at e2
    injection e2 with e3
    injection e3 with _ e4
    rw [h2, k2, e4]
/-- the nodes of the specification -/
def nd (p : Nt) : Cf.Nd := ((p.1, hgt p.2), syms p.2)
theorem nd_wt (ts : List Nt) : (ts.map nd).map (fun p => p.1) = ts.map wt := by rw [List.map_map]; rfl
def sumd (ts : List Nt) (s : Nat) : Nat := Cf.sum (dpt s) ts
/-- what is known of the specification's nodes and lengths -/
def Ex (zs : List Int) (ps : List Cf.Nd) (f : Nat → Nat) : Prop := ∃ ts j, ts = iterT (initT zs zs.length) j ∧ ps = ts.map nd ∧ ((f = sumd ts ∧ ∀ o x, ts ≠ [(o, .leaf x)]) ∨ (∃ o x, ts = [(o, .leaf x)] ∧ f = fun i => if i = x then 1 else 0))
theorem init_nd (zs : List Int) : ∀ k, (initT zs k).map nd = Cf.init zs k
  | 0 => rfl
  | k + 1 => by
    unfold initT Cf.init
    split
    · rw [List.map_append, init_nd zs k]; rfl
    · exact init_nd zs k
theorem init_dep (zs : List Int) (s : Nat) : ∀ k, Cf.sum (dpt s) (initT zs k) = 0
  | 0 => rfl
  | k + 1 => by
    unfold initT
    split
    · rw [Cf.sum_append, init_dep zs s k]; rfl
    · exact init_dep zs s k
theorem Ex.init {zs : List Int} (h : (Cf.init zs zs.length).length ≠ 1) : Ex zs (Cf.init zs zs.length) (fun _ => 0) := ⟨_, 0, rfl, (init_nd zs _).symm, .inl ⟨by funext s; exact (init_dep zs s _).symm, fun o x e => h (by rw [← init_nd, show initT zs zs.length = _ from e]; rfl)⟩⟩
theorem Ex.one {zs : List Int} {p : Cf.Nd} {x : Nat} (h : Cf.init zs zs.length = [p]) (hx : p.2 = [x]) : Ex zs (Cf.init zs zs.length) (fun i => if i = x then 1 else 0) := by
  refine ⟨_, 0, rfl, (init_nd zs _).symm, .inr ?_⟩
  have h2 := init_nd zs zs.length
  rw [h] at h2
  show ∃ o y, initT zs zs.length = [(o, Tr.leaf y)] ∧ _
  match hq : initT zs zs.length, h2 with
  | [], h2 => cases h2
  | [(o, t)], h2 =>
    injection h2 with h3
    match t, h3 with
    | .leaf y, h3 =>
      rw [← h3] at hx
      simp [nd, syms] at hx
      exact ⟨o, y, rfl, by rw [hx]⟩
    | .node l r, h3 =>
      rw [← h3] at hx
      have h4 : (syms (Tr.node l r)).length = 1 := by
        have : syms (Tr.node l r) = [x] := hx
        rw [this]; rfl
      have := hgt_lvs (Tr.node l r)
      simp only [hgt] at this
      omega
  | y :: z :: l, h2 => injection h2 with _ h3; cases h3
theorem Ex.next {zs : List Int} {ps : List Cf.Nd} {f : Nat → Nat} (h : Ex zs ps f) {a wa b wb : Nat} {x y : Cf.Nd} (h1 : Cf.lst (-1) (ps.map (fun p => p.1)) 0 none = some (a, wa)) (h2 : Cf.lst (a : Int) (ps.map (fun p => p.1)) 0 none = some (b, wb)) (hx : ps[a]? = some x) (hy : ps[b]? = some y) (hab : a ≠ b) : Ex zs (Cf.next ps a b x y) (fun s => f s + (x.2 ++ y.2).count s) := by
  obtain ⟨ts, j, hts, rfl, hf⟩ := h
  rw [nd_wt] at h1 h2
  have ha : a < ts.length := by have := (List.getElem?_eq_some_iff.1 hx).1; rwa [List.length_map] at this
  have hb : b < ts.length := by have := (List.getElem?_eq_some_iff.1 hy).1; rwa [List.length_map] at this
  have ex : x = nd ts[a] := by rw [List.getElem?_map, List.getElem?_eq_getElem ha] at hx; exact (Option.some.inj hx).symm
  have ey : y = nd ts[b] := by rw [List.getElem?_map, List.getElem?_eq_getElem hb] at hy; exact (Option.some.inj hy).symm
  refine ⟨step ts, j + 1, by rw [hts]; rfl, ?_, .inl ⟨?_, fun o x e => ?_⟩⟩
  · rw [step_two h1 h2, List.map_append, Cf.wo_map, getD_at ha, getD_at hb, ex, ey]
    rfl
  · rcases hf with ⟨rfl, _⟩ | ⟨o, z, e, _⟩
    · funext s
      have h5 := step_sum (dpt s) h1 h2 hab ha hb
      have e : dpt s (ts[a].1 + ts[b].1, .node ts[a].2 ts[b].2) = (syms ts[a].2 ++ syms ts[b].2).count s + dpt s ts[a] + dpt s ts[b] := rfl
      rw [ex, ey]
      show Cf.sum (dpt s) ts + (syms ts[a].2 ++ syms ts[b].2).count s = Cf.sum (dpt s) (step ts)
      omega
    · exfalso
      rw [e] at ha hb
      simp at ha hb
      omega
  · rw [step_two h1 h2] at e
    have h7 := congrArg List.getLast? e
    simp at h7
theorem step_none {ts : List Nt} (h : step ts = []) : ts = [] := by
  rcases step_cases ts with ⟨e, _⟩ | ⟨a, wa, b, wb, h1, h2, _⟩
  · rw [← e]; exact h
  · rw [step_two h1 h2] at h; simp at h
theorem iter_none {ts : List Nt} : ∀ {j : Nat}, iterT ts j = [] → ts = []
  | 0, h => h
  | _ + 1, h => iter_none (step_none h)
theorem Ex.end {zs : List Int} {ps : List Cf.Nd} {f : Nat → Nat} (h : Ex zs ps f) (hl : ps.length ≤ 1) : IsLens zs f := by
  obtain ⟨ts, j, hts, rfl, hf⟩ := h
  rw [List.length_map] at hl
  match ts, hl, hts, hf with
  | [], _, hts, hf =>
    refine .inl ⟨iter_none hts.symm, ?_⟩
    rcases hf with ⟨rfl, _⟩ | ⟨o, x, e, _⟩
    · rfl
    · cases e
  | [(o, t)], _, hts, hf =>
    refine .inr ⟨o, t, j, hts.symm, ?_⟩
    rcases hf with ⟨rfl, hno⟩ | ⟨o', x, e, hf⟩
    · match t, hts, hno with
      | .leaf x, _, hno => exact absurd rfl (hno o x)
      | .node l r, hts, _ =>
        funext s
        have hc := iter_cnt s (initT zs zs.length) j
        rw [← hts] at hc
        have hc1 := (init_cnt zs s zs.length).1
        have hc2 : (syms (Tr.node l r)).count s ≤ 1 := by
          have e : Cf.sum (cnt s) [(o, Tr.node l r)] = (syms (Tr.node l r)).count s := by simp [Cf.sum, cnt]
          omega
        show Cf.sum (dpt s) [(o, Tr.node l r)] = tell (.node l r) 0 (fun _ => 0) s
        rw [tell_is hc2]
        have e : Cf.sum (dpt s) [(o, Tr.node l r)] = dep (Tr.node l r) s := by simp [Cf.sum, dpt]
        rw [e]
        by_cases hm : s ∈ syms (Tr.node l r)
        · rw [if_pos hm]; omega
        · rw [if_neg hm, dep_none hm]
    · injection e with e1
      injection e1 with _ e2
      rw [hf, e2]
      rfl
  | x :: y :: l, hl, _, _ => simp at hl
end Ct
end Go.Proofs.YtejebodgfoihkabGreat

/- Where none comes more often than once, the tree is no deeper than it must be (mathematics). -/
namespace Go.Proofs.YtejebodgfoihkabGreat
namespace Ct
open Cf (lst wo Wt)

theorem wo_idx {α : Type} {a b : Nat} : ∀ (xs : List α) (i : Nat) (z : α), z ∈ wo a b xs i → ∃ j, xs[j]? = some z ∧ i + j ≠ a ∧ i + j ≠ b
  | [], _, z, h => by simp [wo] at h
  | x :: xs, i, z, h => by
    rw [Cf.wo_cons] at h
    by_cases hc : (Nat.beq i a || Nat.beq i b) = true
    · rw [if_pos hc] at h
      obtain ⟨j, h1, h2, h3⟩ := wo_idx xs (i + 1) z h
      exact ⟨j + 1, by simpa using h1, by omega, by omega⟩
    · rw [if_neg hc] at h
      rcases List.mem_cons.1 h with h1 | h1
      · refine ⟨0, by simp [h1], ?_, ?_⟩
        · intro e; apply hc; simp [show i = a by omega]
        · intro e; apply hc; simp [show i = b by omega]
      · obtain ⟨j, h1, h2, h3⟩ := wo_idx xs (i + 1) z h1
        exact ⟨j + 1, by simpa using h1, by omega, by omega⟩
/-- between two powers -/
def odd (k : Nat) (x : Wt) : Nat := if 2 ^ k < x.1 ∧ x.1 < 2 ^ (k + 1) then 1 else 0
structure Ph (k : Nat) (ns : List Wt) : Prop where
  kind : ∀ x ∈ ns, (x.1 = 2 ^ k ∧ x.2 ≤ k) ∨ (x.1 = 2 ^ (k + 1) ∧ x.2 ≤ k + 1) ∨ (2 ^ k < x.1 ∧ x.1 < 2 ^ (k + 1) ∧ x.2 ≤ k + 1)
  one : Cf.sum (odd k) ns ≤ 1
theorem sum_zero {α : Type} {f : α → Nat} : ∀ {l : List α}, (∀ x ∈ l, f x = 0) → Cf.sum f l = 0
  | [], _ => rfl
  | x :: l, h => by
    simp only [Cf.sum]
    rw [h x (by simp), sum_zero (fun y hy => h y (by simp [hy]))]
theorem max_le {a b c : Nat} (h1 : a ≤ c) (h2 : b ≤ c) : Nat.max a b ≤ c := Nat.max_le.2 ⟨h1, h2⟩
theorem ph_step {k : Nat} {ns : List Wt} (h : Ph k ns) (hl : 1 < ns.length) : ∃ k', Ph k' (Cf.step ns) := by
  obtain ⟨a, wa, b, wb, h1, h2, hab, ha, hb⟩ := Cf.two hl
  obtain ⟨_, _, x, hx, hxa⟩ := Cf.lst_at h1
  obtain ⟨_, _, y, hy, hyb⟩ := Cf.lst_at h2
  dsimp only at hx hxa hy hyb
  have gx : ns[a] = x := by rw [List.getElem?_eq_getElem ha] at hx; exact Option.some.inj hx
  have gy : ns[b] = y := by rw [List.getElem?_eq_getElem hb] at hy; exact Option.some.inj hy
  have hgx : Cf.hgt ns a = x.2 := by unfold Cf.hgt; rw [List.getD_eq_getElem?_getD, hx]; rfl
  have hgy : Cf.hgt ns b = y.2 := by unfold Cf.hgt; rw [List.getD_eq_getElem?_getD, hy]; rfl
  rw [Cf.step_two h1 h2, hgx, hgy, ← hxa, ← hyb]
  have hrest : ∀ z ∈ wo a b ns 0, x.1 ≤ z.1 ∧ y.1 ≤ z.1 ∧ z ∈ ns := fun z hz => by
    obtain ⟨j, hj, j1, j2⟩ := wo_idx ns 0 z hz
    rw [Nat.zero_add] at j1 j2
    have e1 := (lst_min h1 (by omega) hj).1
    have e2 := (lst_min h2 (by omega) hj).1
    dsimp only at e1 e2
    exact ⟨by omega, by omega, List.mem_of_getElem? hj⟩
  have hsum := Cf.wo_sum0 (odd k) hab ns ha hb
  rw [gx, gy] at hsum
  have hone := h.one
  have hxy : x.1 ≤ y.1 := by have := (lst_min h1 (k := b) (x := y) (by omega) hy).1; dsimp only at this; omega
  have kx := h.kind x (List.mem_of_getElem? hx)
  have ky := h.kind y (List.mem_of_getElem? hy)
  have e1 : 2 ^ (k + 1) = 2 * 2 ^ k := by rw [Nat.pow_succ]; omega
  have e2 : 2 ^ (k + 1 + 1) = 4 * 2 ^ k := by rw [Nat.pow_succ, e1]; omega
  have hp : 0 < 2 ^ k := Nat.two_pow_pos k
  by_cases c1 : x.1 = 2 ^ k ∧ y.1 = 2 ^ k
  · refine ⟨k, fun z hz => ?_, ?_⟩
    · rcases List.mem_append.1 hz with hz | hz
      · exact h.kind z (hrest z hz).2.2
      · rw [List.mem_singleton.1 hz]
        refine .inr (.inl ⟨by show x.1 + y.1 = _; omega, ?_⟩)
        show 1 + Nat.max x.2 y.2 ≤ k + 1
        have := max_le (a := x.2) (b := y.2) (c := k) (by omega) (by omega)
        omega
    · rw [Cf.sum_append]
      have e0 : Cf.sum (odd k) [(x.1 + y.1, 1 + Nat.max x.2 y.2)] = 0 := sum_zero (fun z hz => by
        rw [List.mem_singleton.1 hz]; unfold odd; rw [if_neg (by show ¬ (2 ^ k < x.1 + y.1 ∧ x.1 + y.1 < 2 ^ (k + 1)); omega)])
      omega
  · -- all others are of the next power
    have hoth : ∀ z ∈ wo a b ns 0, z.1 = 2 ^ (k + 1) ∧ z.2 ≤ k + 1 := fun z hz => by
      obtain ⟨z1, z2, z3⟩ := hrest z hz
      have kz := h.kind z z3
      have oz := Cf.sum_one (odd k) (wo a b ns 0) z hz
      by_cases hoz : 2 ^ k < z.1 ∧ z.1 < 2 ^ (k + 1)
      · exfalso
        have o1 : odd k z = 1 := by unfold odd; rw [if_pos hoz]
        have ox : odd k x = 0 := by omega
        have oy : odd k y = 0 := by omega
        unfold odd at ox oy
        have nx : ¬ (2 ^ k < x.1 ∧ x.1 < 2 ^ (k + 1)) := fun q => by rw [if_pos q] at ox; cases ox
        have ny : ¬ (2 ^ k < y.1 ∧ y.1 < 2 ^ (k + 1)) := fun q => by rw [if_pos q] at oy; cases oy
        omega
      · omega
    have hnew : 2 ^ (k + 1) < x.1 + y.1 ∧ x.1 + y.1 ≤ 2 ^ (k + 1 + 1) := by omega
    have hh : 1 + Nat.max x.2 y.2 ≤ k + 1 + 1 := by
      have := max_le (a := x.2) (b := y.2) (c := k + 1) (by omega) (by omega)
      omega
    refine ⟨k + 1, fun z hz => ?_, ?_⟩
    · rcases List.mem_append.1 hz with hz | hz
      · exact .inl (hoth z hz)
      · rw [List.mem_singleton.1 hz]
        by_cases e : x.1 + y.1 = 2 ^ (k + 1 + 1)
        · exact .inr (.inl ⟨e, hh⟩)
        · exact .inr (.inr ⟨hnew.1, by show x.1 + y.1 < _; omega, hh⟩)
    · rw [Cf.sum_append, sum_zero (fun z hz => by unfold odd; rw [if_neg (by have := (hoth z hz).1; omega)])]
      have e0 : Cf.sum (odd (k + 1)) [(x.1 + y.1, 1 + Nat.max x.2 y.2)] ≤ 1 := by
        simp only [Cf.sum, odd]
        split <;> omega
      omega
theorem ph_fin : ∀ (n : Nat) (ns : List Wt) (k m : Nat), ns.length ≤ n → Ph k ns → Cf.sum (fun x : Wt => x.1) ns ≤ 2 ^ m → Cf.fin ns ≤ m
  | 0, ns, k, m, hn, _, _ => by
    have : ns = [] := List.eq_nil_of_length_eq_zero (by omega)
    subst this
    exact Nat.zero_le _
  | n + 1, ns, k, m, hn, h, hs => by
    by_cases hl : 1 < ns.length
    · rw [Cf.fin_step hl]
      obtain ⟨k', h'⟩ := ph_step h hl
      have hlen := Cf.step_len hl
      refine ph_fin n (Cf.step ns) k' m (by omega) h' ?_
      obtain ⟨a, wa, b, wb, h1, h2, hab, ha, hb⟩ := Cf.two hl
      obtain ⟨_, _, x, hx, hxa⟩ := Cf.lst_at h1
      obtain ⟨_, _, y, hy, hyb⟩ := Cf.lst_at h2
      dsimp only at hx hxa hy hyb
      have hsum := Cf.wo_sum0 (fun x : Wt => x.1) hab ns ha hb
      rw [List.getElem?_eq_getElem ha] at hx
      rw [List.getElem?_eq_getElem hb] at hy
      rw [Option.some.inj hx, Option.some.inj hy] at hsum
      rw [Cf.step_two h1 h2, Cf.sum_append]
      show Cf.sum _ (wo a b ns 0) + (wa + wb + 0) ≤ _
      omega
    · rw [Cf.fin_one (by omega)]
      match ns, hl, h, hs with
      | [], _, _, _ => exact Nat.zero_le _
      | [x], _, h, hs =>
        have hs' : x.1 ≤ 2 ^ m := by simpa [Cf.sum] using hs
        have hm : Cf.maxh [x] = x.2 := by simp [Cf.maxh]
        rw [hm]
        rcases h.kind x (by simp) with ⟨e1, e2⟩ | ⟨e1, e2⟩ | ⟨e1, e2, e3⟩
        · rw [e1] at hs'
          have := (Nat.pow_le_pow_iff_right (by omega : 1 < 2)).1 hs'
          omega
        · rw [e1] at hs'
          have := (Nat.pow_le_pow_iff_right (by omega : 1 < 2)).1 hs'
          omega
        · have h5 : 2 ^ k < 2 ^ m := by omega
          have := (Nat.pow_lt_pow_iff_right (by omega : 1 < 2)).1 h5
          omega
      | x :: y :: l, hl, _, _ => simp at hl
/-- how many come -/
def come (zs : List Int) : Nat := (initT zs zs.length).length
theorem ones_init {zs : List Int} (h : ∀ i, i < zs.length → zs.getD i 0 ≤ 1) : ∀ k, k ≤ zs.length → (∀ x ∈ (initT zs k).map wt, x = (1, 0)) ∧ Cf.sum (fun x : Wt => x.1) ((initT zs k).map wt) = (initT zs k).length
  | 0, _ => ⟨fun x hx => by simp [initT] at hx, rfl⟩
  | k + 1, hk => by
    obtain ⟨h1, h2⟩ := ones_init h k (by omega)
    unfold initT
    split
    · rename_i hp
      have e : zs.getD k 0 = 1 := by have := h k (by omega); omega
      rw [e, List.map_append, Cf.sum_append, List.length_append, h2]
      refine ⟨fun x hx => ?_, rfl⟩
      rcases List.mem_append.1 hx with hx | hx
      · exact h1 x hx
      · simpa [wt, hgt] using hx
    · exact ⟨h1, h2⟩
theorem ones_deep {zs : List Int} (h : ∀ i, i < zs.length → zs.getD i 0 ≤ 1) {m : Nat} (hm : 1 ≤ m) (hc : come zs ≤ 2 ^ m) : Cf.deep zs ≤ m := by
  obtain ⟨h1, h2⟩ := ones_init h zs.length (Nat.le_refl _)
  have h3 : Cf.fin ((initT zs zs.length).map wt) ≤ m := by
    refine ph_fin _ _ 0 m (Nat.le_refl _) ⟨fun x hx => .inl (by rw [h1 x hx]; exact ⟨rfl, Nat.le_refl _⟩), ?_⟩ (by rw [h2]; exact hc)
    rw [sum_zero (fun x hx => by rw [h1 x hx]; rfl)]
    omega
  unfold Cf.deep
  rw [← init_nd, nd_wt]
  exact max_le hm h3
theorem dep_hgt {s : Nat} : ∀ {t : Tr}, (syms t).count s ≤ 1 → dep t s ≤ hgt t
  | .leaf _, _ => Nat.le_refl _
  | .node l r, h => by
    simp only [syms, List.count_append] at h
    have hl := dep_hgt (t := l) (s := s) (by omega)
    have hr := dep_hgt (t := r) (s := s) (by omega)
    have m1 : hgt l ≤ Nat.max (hgt l) (hgt r) := Nat.le_max_left _ _
    have m2 : hgt r ≤ Nat.max (hgt l) (hgt r) := Nat.le_max_right _ _
    simp only [dep, hgt, List.count_append]
    by_cases c : s ∈ syms l
    · have hc := List.one_le_count_iff.2 c
      have hn : s ∉ syms r := fun q => by have := List.one_le_count_iff.2 q; omega
      rw [dep_none hn]
      omega
    · rw [dep_none c]
      omega
theorem step_wt (ts : List Nt) : (step ts).map wt = Cf.step (ts.map wt) := by
  rcases step_cases ts with ⟨h, hl⟩ | ⟨a, wa, b, wb, h1, h2, hab, ha, hb⟩
  · rw [h]
    match ts, hl with
    | [], _ => rfl
    | [x], _ => rfl
    | x :: y :: l, hl => simp at hl
  · obtain ⟨_, _, x, hx, hxa⟩ := Cf.lst_at h1
    obtain ⟨_, _, y, hy, hyb⟩ := Cf.lst_at h2
    dsimp only at hx hxa hy hyb
    rw [List.getElem?_map, List.getElem?_eq_getElem ha] at hx
    rw [List.getElem?_map, List.getElem?_eq_getElem hb] at hy
    have ex := Option.some.inj hx
    have ey := Option.some.inj hy
    have hgx : Cf.hgt (ts.map wt) a = hgt ts[a].2 := by unfold Cf.hgt; rw [List.getD_eq_getElem?_getD, List.getElem?_map, List.getElem?_eq_getElem ha]; rfl
    have hgy : Cf.hgt (ts.map wt) b = hgt ts[b].2 := by unfold Cf.hgt; rw [List.getD_eq_getElem?_getD, List.getElem?_map, List.getElem?_eq_getElem hb]; rfl
    rw [step_two h1 h2, Cf.step_two h1 h2, List.map_append, Cf.wo_map, getD_at ha, getD_at hb, hgx, hgy, ← hxa, ← hyb, ← ex, ← ey]
    rfl
theorem iter_fin (ts : List Nt) : ∀ j, Cf.fin ((iterT ts j).map wt) = Cf.fin (ts.map wt)
  | 0 => rfl
  | j + 1 => by
    rw [iterT, step_wt, ← iter_fin ts j]
    by_cases h : 1 < ((iterT ts j).map wt).length
    · exact (Cf.fin_step h).symm
    · rw [List.length_map] at h
      rw [← step_wt]
      rcases step_cases (iterT ts j) with ⟨e, _⟩ | ⟨a, wa, b, wb, _, _, hab, ha, hb⟩
      · rw [e]
      · omega
theorem IsLens.deep {zs : List Int} {F : Nat → Nat} (h : IsLens zs F) : ∀ i, F i ≤ Cf.deep zs := fun i => by
  have h1 : 1 ≤ Cf.deep zs := Nat.le_max_left _ _
  rcases h with ⟨_, rfl⟩ | ⟨o, t, j, hit, rfl⟩
  · exact Nat.zero_le _
  · have hd : hgt t ≤ Cf.deep zs := by
      have e := iter_fin (initT zs zs.length) j
      rw [hit] at e
      have e2 : Cf.fin ([(o, t)].map wt) = hgt t := by rw [Cf.fin_one (by simp)]; simp [Cf.maxh, wt]
      rw [e2] at e
      unfold Cf.deep
      rw [← init_nd, nd_wt, ← e]
      exact Nat.le_max_right _ _
    match t, hit, hd with
    | .leaf s, _, _ =>
      show (if i = s then 1 else 0) ≤ _
      split <;> omega
    | .node l r, hit, hd =>
      have hc := iter_cnt i (initT zs zs.length) j
      rw [hit] at hc
      have hc1 := (init_cnt zs i zs.length).1
      have hc2 : (syms (Tr.node l r)).count i ≤ 1 := by
        have e : Cf.sum (cnt i) [(o, Tr.node l r)] = (syms (Tr.node l r)).count i := by simp [Cf.sum, cnt]
        omega
      show tell (.node l r) 0 (fun _ => 0) i ≤ _
      rw [tell_is hc2]
      split
      · have := dep_hgt hc2; omega
      · exact Nat.zero_le _
end Ct
end Go.Proofs.YtejebodgfoihkabGreat

/- What comes less often stands no higher in the tree (mathematics). -/
namespace Go.Proofs.YtejebodgfoihkabGreat
namespace Ct
open Cf (lst wo)

/-- where an element stands when two are gone -/
def pos (a b o j : Nat) : Nat := j - (if o ≤ a ∧ a < o + j then 1 else 0) - (if o ≤ b ∧ b < o + j then 1 else 0)
theorem wo_pos {α : Type} {a b : Nat} (hab : a ≠ b) : ∀ (xs : List α) (o j : Nat) (x : α), xs[j]? = some x → o + j ≠ a → o + j ≠ b → (wo a b xs o)[pos a b o j]? = some x
  | [], _, j, x, h, _, _ => by simp at h
  | y :: xs, o, 0, x, h, h1, h2 => by
    rw [Cf.wo_cons, if_neg (by simp; omega)]
    simp [pos]
    simpa using h
  | y :: xs, o, j + 1, x, h, h1, h2 => by
    have ih := wo_pos hab xs (o + 1) j x (by simpa using h) (by omega) (by omega)
    rw [Cf.wo_cons]
    by_cases hc : o = a ∨ o = b
    · rw [if_pos (by simp; omega)]
      have e : pos a b o (j + 1) = pos a b (o + 1) j := by
        unfold pos
        rcases hc with hc | hc
        · subst hc
          rw [if_pos (show o ≤ o ∧ o < o + (j + 1) by omega), if_neg (show ¬ (o + 1 ≤ o ∧ o < o + 1 + j) by omega)]
          by_cases q : o ≤ b ∧ b < o + (j + 1)
          · rw [if_pos q, if_pos (by omega)]; omega
          · rw [if_neg q, if_neg (by omega)]; omega
        · subst hc
          rw [if_pos (show o ≤ o ∧ o < o + (j + 1) by omega), if_neg (show ¬ (o + 1 ≤ o ∧ o < o + 1 + j) by omega)]
          by_cases q : o ≤ a ∧ a < o + (j + 1)
          · rw [if_pos q, if_pos (by omega)]; omega
          · rw [if_neg q, if_neg (by omega)]; omega
      rw [e]; exact ih
    · rw [if_neg (by simp; omega)]
      have hp : (if o ≤ a ∧ a < o + (j + 1) then 1 else 0) + (if o ≤ b ∧ b < o + (j + 1) then 1 else 0) ≤ j := by
        split <;> split <;> omega
      have e : pos a b o (j + 1) = pos a b (o + 1) j + 1 := by
        unfold pos
        by_cases q : o ≤ a ∧ a < o + (j + 1)
        · rw [if_pos q, if_pos (show o + 1 ≤ a ∧ a < o + 1 + j by omega)]
          rw [if_pos q] at hp
          by_cases r : o ≤ b ∧ b < o + (j + 1)
          · rw [if_pos r, if_pos (by omega)]; rw [if_pos r] at hp; omega
          · rw [if_neg r, if_neg (by omega)]; rw [if_neg r] at hp; omega
        · rw [if_neg q, if_neg (show ¬ (o + 1 ≤ a ∧ a < o + 1 + j) by omega)]
          rw [if_neg q] at hp
          by_cases r : o ≤ b ∧ b < o + (j + 1)
          · rw [if_pos r, if_pos (by omega)]; rw [if_pos r] at hp; omega
          · rw [if_neg r, if_neg (by omega)]; omega
      rw [e, List.getElem?_cons_succ]; exact ih
theorem pos_mono {a b i k : Nat} (hab : a ≠ b) (hi : i ≠ a ∧ i ≠ b) (hk : k ≠ a ∧ k ≠ b) (h : i < k) : pos a b 0 i < pos a b 0 k := by
  unfold pos
  by_cases q1 : a < i <;> by_cases q2 : b < i <;> by_cases q3 : a < k <;> by_cases q4 : b < k <;> simp [q1, q2, q3, q4] <;> omega
def made : Tr → Prop
  | .leaf _ => False
  | .node _ _ => True
def wAt (ts : List Nt) (i : Nat) : Nat := (ts.getD i (0, .leaf 0)).1
def tAt (ts : List Nt) (i : Nat) : Tr := (ts.getD i (0, .leaf 0)).2
/-- what was put together is no more than any two others -/
def Sml (ts : List Nt) : Prop := ∀ i k l, i < ts.length → k < ts.length → l < ts.length → k ≠ l → made (tAt ts i) → wAt ts i ≤ wAt ts k + wAt ts l
/-- the two least -/
structure Two (ts : List Nt) (a b : Nat) : Prop where
  ne : a ≠ b
  la : a < ts.length
  lb : b < ts.length
  st : step ts = wo a b ts 0 ++ [(wAt ts a + wAt ts b, .node (tAt ts a) (tAt ts b))]
  mn : ∀ k, k < ts.length → k ≠ a → k ≠ b → wAt ts a ≤ wAt ts k ∧ wAt ts b ≤ wAt ts k ∧ (k < a → wAt ts a < wAt ts k) ∧ (k < b → wAt ts b < wAt ts k)
  ab : wAt ts a ≤ wAt ts b
theorem two_of {ts : List Nt} (h : 1 < ts.length) : ∃ a b, Two ts a b := by
  obtain ⟨a, wa, b, wb, h1, h2, hab, ha, hb⟩ := Cf.two (ns := ts.map wt) (by rw [List.length_map]; exact h)
  rw [List.length_map] at ha hb
  obtain ⟨_, _, x, hx, hxa⟩ := Cf.lst_at h1
  obtain ⟨_, _, y, hy, hyb⟩ := Cf.lst_at h2
  dsimp only at hx hxa hy hyb
  have hw : ∀ k (hk : k < ts.length), (ts.map wt)[k]? = some (wt ts[k]) ∧ wAt ts k = (wt ts[k]).1 := fun k hk => by
    refine ⟨by rw [List.getElem?_map, List.getElem?_eq_getElem hk]; rfl, ?_⟩
    unfold wAt
    rw [getD_at hk]; rfl
  have ea : wAt ts a = wa := by have := hw a ha; rw [this.1] at hx; rw [this.2, ← hxa, ← Option.some.inj hx]
  have eb : wAt ts b = wb := by have := hw b hb; rw [this.1] at hy; rw [this.2, ← hyb, ← Option.some.inj hy]
  refine ⟨a, b, hab, ha, hb, by rw [step_two h1 h2]; rfl, fun k hk ka kb => ?_, ?_⟩
  · have e1 := lst_min h1 (k := k) (by omega) (hw k hk).1
    have e2 := lst_min h2 (k := k) (by omega) (hw k hk).1
    rw [← (hw k hk).2] at e1 e2
    dsimp only at e1 e2
    rw [ea, eb]
    exact ⟨e1.1, e2.1, e1.2, e2.2⟩
  · have e1 := lst_min h1 (k := b) (by omega) (hw b hb).1
    rw [← (hw b hb).2] at e1
    dsimp only at e1
    rw [ea]
    exact e1.1
theorem step_last {ts : List Nt} {a b : Nat} (t : Two ts a b) : (step ts).length + 1 = ts.length ∧ wAt (step ts) ((step ts).length - 1) = wAt ts a + wAt ts b ∧ tAt (step ts) ((step ts).length - 1) = .node (tAt ts a) (tAt ts b) := by
  have hl := Cf.wo_len0 t.ne ts t.la t.lb
  have e : (step ts).length = (wo a b ts 0).length + 1 := by rw [t.st, List.length_append]; rfl
  have g : (step ts).getD ((step ts).length - 1) (0, .leaf 0) = (wAt ts a + wAt ts b, .node (tAt ts a) (tAt ts b)) := by
    rw [e, List.getD_eq_getElem?_getD, t.st]
    simp
  refine ⟨by omega, by unfold wAt at g ⊢; rw [g], by unfold tAt at g ⊢; rw [g]⟩
theorem step_rest {ts : List Nt} {a b : Nat} (t : Two ts a b) {i : Nat} (hi : i < ts.length) (h1 : i ≠ a) (h2 : i ≠ b) : pos a b 0 i < (step ts).length - 1 ∧ wAt (step ts) (pos a b 0 i) = wAt ts i ∧ tAt (step ts) (pos a b 0 i) = tAt ts i := by
  have hw := wo_pos t.ne ts 0 i ts[i] (List.getElem?_eq_getElem hi) (by omega) (by omega)
  have hlt := (List.getElem?_eq_some_iff.1 hw).1
  have e : (step ts).length = (wo a b ts 0).length + 1 := by rw [t.st, List.length_append]; rfl
  have g : (step ts).getD (pos a b 0 i) (0, .leaf 0) = ts[i] := by
    rw [List.getD_eq_getElem?_getD, t.st, List.getElem?_append_left hlt, hw]; rfl
  refine ⟨by omega, by unfold wAt; rw [g, getD_at hi], by unfold tAt; rw [g, getD_at hi]⟩
/-- each of the nodes behind a step is the new one or one of the old -/
theorem step_from {ts : List Nt} {a b : Nat} (t : Two ts a b) {k : Nat} (hk : k < (step ts).length) : k = (step ts).length - 1 ∨ ∃ i, i < ts.length ∧ i ≠ a ∧ i ≠ b ∧ wAt (step ts) k = wAt ts i ∧ tAt (step ts) k = tAt ts i := by
  have e : (step ts).length = (wo a b ts 0).length + 1 := by rw [t.st, List.length_append]; rfl
  by_cases hl : k = (step ts).length - 1
  · exact .inl hl
  · right
    have hk' : k < (wo a b ts 0).length := by omega
    obtain ⟨i, hi, h1, h2⟩ := wo_idx ts 0 _ (List.getElem_mem hk')
    rw [Nat.zero_add] at h1 h2
    have hil := (List.getElem?_eq_some_iff.1 hi).1
    have g : (step ts).getD k (0, .leaf 0) = ts[i] := by
      rw [List.getD_eq_getElem?_getD, t.st, List.getElem?_append_left hk', List.getElem?_eq_getElem hk']
      rw [List.getElem?_eq_getElem hil] at hi
      exact (Option.some.inj hi).symm
    exact ⟨i, hil, h1, h2, by unfold wAt; rw [g, getD_at hil], by unfold tAt; rw [g, getD_at hil]⟩
theorem Sml.step {ts : List Nt} (h : Sml ts) {a b : Nat} (t : Two ts a b) : Sml (Ct.step ts) := by
  intro i k l hi hk hl hkl hm
  obtain ⟨_, lw, lt⟩ := step_last t
  have hab := t.ab
  rcases step_from t hi with ei | ⟨i', hi', ia, ib, wi, ti⟩
  · rw [ei, lw]
    rcases step_from t hk with ek | ⟨k', hk', ka, kb, wk, _⟩ <;> rcases step_from t hl with el | ⟨l', hl', la, lb, wl, _⟩
    · omega
    · rw [ek, lw]; omega
    · rw [el, lw]; omega
    · rw [wk, wl]
      have := t.mn k' hk' ka kb
      have := t.mn l' hl' la lb
      omega
  · rw [wi]
    rw [ti] at hm
    rcases step_from t hk with ek | ⟨k', hk', ka, kb, wk, tk⟩ <;> rcases step_from t hl with el | ⟨l', hl', la, lb, wl, tl⟩
    · omega
    · rw [ek, lw]
      have := h i' a b hi' t.la t.lb t.ne hm
      omega
    · rw [el, lw]
      have := h i' a b hi' t.la t.lb t.ne hm
      omega
    · rw [wk, wl]
      by_cases e : k' = l'
      · subst e
        have h5 := h i' a b hi' t.la t.lb t.ne hm
        have h6 := t.mn k' hk' ka kb
        omega
      · exact h i' k' l' hi' hk' hl' e hm
/-- final depths -/
structure Dp (ts : List Nt) (F : Nat → Nat) (D : Nat → Nat) : Prop where
  tell : ∀ i, i < ts.length → ∀ s ∈ syms (tAt ts i), F s = D i + dep (tAt ts i) s
  ahead : ∀ i k, i < ts.length → k < ts.length → (wAt ts i < wAt ts k ∨ (wAt ts i = wAt ts k ∧ i < k)) → D k ≤ D i
  near : ∀ i k, i < ts.length → k < ts.length → made (tAt ts i) → D k ≤ D i + 1
theorem Dp.back {ts : List Nt} {F : Nat → Nat} (hs : Sml ts) {a b : Nat} (t : Two ts a b) (hc : ∀ s, (syms (.node (tAt ts a) (tAt ts b))).count s ≤ 1) {D : Nat → Nat} (h : Dp (step ts) F D) :
    Dp ts F (fun i => if i = a ∨ i = b then D ((step ts).length - 1) + 1 else D (pos a b 0 i)) := by
  obtain ⟨ll, lw, lt⟩ := step_last t
  have hL : (step ts).length - 1 < (step ts).length := by have := t.la; have := t.lb; have := t.ne; omega
  have hml : made (tAt (step ts) ((step ts).length - 1)) := by rw [lt]; trivial
  have hab := t.ab
  refine ⟨fun i hi s hsi => ?_, fun i k hi hk hlt => ?_, fun i k hi hk hm => ?_⟩
  · by_cases c : i = a ∨ i = b
    · rw [if_pos c]
      have h5 := h.tell _ hL s (by
        rw [lt]
        simp only [syms, List.mem_append]
        rcases c with rfl | rfl
        · exact .inl hsi
        · exact .inr hsi)
      rw [lt] at h5
      have h6 := hc s
      simp only [syms, List.count_append] at h6
      simp only [dep, List.count_append] at h5
      have h7 := List.one_le_count_iff.2 hsi
      rcases c with rfl | rfl
      · have hn : s ∉ syms (tAt ts b) := fun q => by have := List.one_le_count_iff.2 q; omega
        rw [dep_none hn, List.count_eq_zero.2 hn] at h5
        omega
      · have hn : s ∉ syms (tAt ts a) := fun q => by have := List.one_le_count_iff.2 q; omega
        rw [dep_none hn, List.count_eq_zero.2 hn] at h5
        omega
    · rw [if_neg c]
      obtain ⟨p1, _, p3⟩ := step_rest t hi (by omega) (by omega)
      have h5 := h.tell (pos a b 0 i) (by omega) s (by rw [p3]; exact hsi)
      rw [p3] at h5
      exact h5
  · show (if k = a ∨ k = b then _ else _) ≤ (if i = a ∨ i = b then _ else _)
    by_cases ck : k = a ∨ k = b
    · rw [if_pos ck]
      by_cases ci : i = a ∨ i = b
      · rw [if_pos ci]; exact Nat.le_refl _
      · exfalso
        have h5 := t.mn i hi (by omega) (by omega)
        rcases ck with rfl | rfl <;> omega
    · rw [if_neg ck]
      obtain ⟨k1, k2, k3⟩ := step_rest t hk (by omega) (by omega)
      by_cases ci : i = a ∨ i = b
      · rw [if_pos ci]
        exact h.near _ _ hL (by omega) hml
      · rw [if_neg ci]
        obtain ⟨i1, i2, i3⟩ := step_rest t hi (by omega) (by omega)
        refine h.ahead _ _ (by omega) (by omega) ?_
        rw [i2, k2]
        rcases hlt with q | ⟨q1, q2⟩
        · exact .inl q
        · exact .inr ⟨q1, pos_mono t.ne (by omega) (by omega) q2⟩
  · show (if k = a ∨ k = b then _ else _) ≤ (if i = a ∨ i = b then _ else _) + 1
    by_cases ck : k = a ∨ k = b
    · rw [if_pos ck]
      by_cases ci : i = a ∨ i = b
      · rw [if_pos ci]; omega
      · rw [if_neg ci]
        obtain ⟨i1, i2, i3⟩ := step_rest t hi (by omega) (by omega)
        have h5 := hs i a b hi t.la t.lb t.ne hm
        have h6 := h.ahead (pos a b 0 i) ((step ts).length - 1) (by omega) hL (by rw [i2, lw]; omega)
        omega
    · rw [if_neg ck]
      obtain ⟨k1, k2, k3⟩ := step_rest t hk (by omega) (by omega)
      by_cases ci : i = a ∨ i = b
      · rw [if_pos ci]
        have h6 := h.near _ (pos a b 0 k) hL (by omega) hml
        omega
      · rw [if_neg ci]
        obtain ⟨i1, i2, i3⟩ := step_rest t hi (by omega) (by omega)
        exact h.near _ _ (by omega) (by omega) (by rw [i3]; exact hm)
theorem sml_leaves {ts : List Nt} (h : ∀ p ∈ ts, ∃ s, p.2 = .leaf s) : Sml ts := fun i k l hi hk hl hkl hm => by
  obtain ⟨s, hs⟩ := h ts[i] (List.getElem_mem hi)
  unfold tAt at hm
  rw [getD_at hi, hs] at hm
  exact hm.elim
theorem sml_iter {ts : List Nt} (h : Sml ts) : ∀ j, Sml (iterT ts j)
  | 0 => h
  | j + 1 => by
    have ih := sml_iter h j
    show Sml (step (iterT ts j))
    by_cases hl : 1 < (iterT ts j).length
    · obtain ⟨a, b, t⟩ := two_of hl
      exact ih.step t
    · rcases step_cases (iterT ts j) with ⟨e, _⟩ | ⟨a, wa, b, wb, _, _, hab, ha, hb⟩
      · rw [e]; exact ih
      · omega
theorem dp_iter {ts : List Nt} {F : Nat → Nat} (hs : Sml ts) (hc : ∀ s, Cf.sum (cnt s) ts ≤ 1) : ∀ j, (∃ D, Dp (iterT ts j) F D) → ∃ D, Dp ts F D
  | 0, h => h
  | j + 1, ⟨D, h⟩ => by
    refine dp_iter hs hc j ?_
    have h' : Dp (step (iterT ts j)) F D := h
    by_cases hl : 1 < (iterT ts j).length
    · obtain ⟨a, b, t⟩ := two_of hl
      refine ⟨_, h'.back (sml_iter hs j) t (fun s => ?_)⟩
      have h1 := Cf.sum_ge (cnt s) t.ne (iterT ts j) t.la t.lb
      have h2 := iter_cnt s ts j
      have h3 := hc s
      have e1 : cnt s ((iterT ts j)[a]'t.la) = (syms (tAt (iterT ts j) a)).count s := by unfold cnt tAt; rw [getD_at t.la]
      have e2 : cnt s ((iterT ts j)[b]'t.lb) = (syms (tAt (iterT ts j) b)).count s := by unfold cnt tAt; rw [getD_at t.lb]
      rw [e1, e2] at h1
      simp only [syms, List.count_append]
      omega
    · rcases step_cases (iterT ts j) with ⟨e, _⟩ | ⟨a, wa, b, wb, _, _, hab, ha, hb⟩
      · rw [e] at h'; exact ⟨D, h'⟩
      · omega
theorem init_leaves (zs : List Int) : ∀ k, ∀ p ∈ initT zs k, ∃ s, p.2 = .leaf s
  | 0, p, h => by simp [initT] at h
  | k + 1, p, h => by
    unfold initT at h
    split at h
    · rcases List.mem_append.1 h with h | h
      · exact init_leaves zs k p h
      · rw [List.mem_singleton.1 h]; exact ⟨k, rfl⟩
    · exact init_leaves zs k p h
theorem init_has {zs : List Int} {s : Nat} (h : 0 < zs.getD s 0) : ∀ k, s < k → ((zs.getD s 0).toNat, Tr.leaf s) ∈ initT zs k
  | 0, hk => by omega
  | k + 1, hk => by
    unfold initT
    by_cases e : s = k
    · subst e
      rw [if_pos h]; simp
    · have := init_has h k (by omega)
      split
      · exact List.mem_append_left _ this
      · exact this
/-- what comes less often has no shorter length -/
theorem mono {zs : List Int} {F : Nat → Nat} (hF : IsLens zs F) {s u : Nat} (hs : s < zs.length) (hu : u < zs.length) (h0 : 0 < zs.getD s 0) (hlt : zs.getD s 0 < zs.getD u 0) : F u ≤ F s := by
  have m1 := init_has h0 zs.length hs
  have m2 := init_has (zs := zs) (s := u) (by omega) zs.length hu
  obtain ⟨i, hi, ei⟩ := List.mem_iff_getElem.1 m1
  obtain ⟨k, hk, ek⟩ := List.mem_iff_getElem.1 m2
  rcases hF with ⟨hn, _⟩ | ⟨o, t, j, hit, rfl⟩
  · rw [hn] at hi; simp at hi
  · have hcnt : ∀ x, Cf.sum (cnt x) (initT zs zs.length) ≤ 1 := fun x => (init_cnt zs x zs.length).1
    have hc2 : ∀ x, (syms t).count x ≤ 1 := fun x => by
      have h1 := iter_cnt x (initT zs zs.length) j
      rw [hit] at h1
      have e : Cf.sum (cnt x) [(o, t)] = (syms t).count x := by simp [Cf.sum, cnt]
      have := hcnt x
      omega
    match t, hit, hc2 with
    | .leaf x, hit, hc2 =>
      exfalso
      have h1 := iter_lvs (initT zs zs.length) j
      rw [hit] at h1
      have e : Cf.sum lvs [(o, Tr.leaf x)] = 1 := by simp [Cf.sum, lvs, syms]
      have hik : i ≠ k := fun q => by
        subst q
        rw [ei] at ek
        injection ek with q1 _
        omega
      have h2 := Cf.sum_ge lvs hik (initT zs zs.length) hi hk
      rw [ei, ek] at h2
      have e1 : ∀ n y, lvs (n, Tr.leaf y) = 1 := fun n y => rfl
      rw [e1, e1] at h2
      omega
    | .node l r, hit, hc2 =>
      obtain ⟨D, hD⟩ := dp_iter (F := topT (.node l r)) (sml_leaves (init_leaves zs zs.length)) hcnt j ⟨fun _ => 0, by
        rw [hit]
        refine ⟨fun i hi x hx => ?_, fun _ _ _ _ _ => Nat.le_refl _, fun _ _ _ _ _ => Nat.zero_le _⟩
        have e0 : i = 0 := by simpa using hi
        subst e0
        have ht : tAt [(o, Tr.node l r)] 0 = Tr.node l r := rfl
        rw [ht] at hx ⊢
        show Go.Proofs.YtejebodgfoihkabGreat.tell (.node l r) 0 (fun _ => 0) x = 0 + dep (.node l r) x
        rw [tell_is (hc2 x), if_pos hx]⟩
      have ti : tAt (initT zs zs.length) i = .leaf s := by unfold tAt; rw [getD_at hi, ei]
      have tk : tAt (initT zs zs.length) k = .leaf u := by unfold tAt; rw [getD_at hk, ek]
      have wi : wAt (initT zs zs.length) i = (zs.getD s 0).toNat := by unfold wAt; rw [getD_at hi, ei]
      have wk : wAt (initT zs zs.length) k = (zs.getD u 0).toNat := by unfold wAt; rw [getD_at hk, ek]
      have f1 := hD.tell i hi s (by rw [ti]; simp [syms])
      have f2 := hD.tell k hk u (by rw [tk]; simp [syms])
      have f3 := hD.ahead i k hi hk (.inl (by rw [wi, wk]; omega))
      rw [ti] at f1
      rw [tk] at f2
      have d1 : dep (Tr.leaf s) s = 0 := rfl
      have d2 : dep (Tr.leaf u) u = 0 := rfl
      omega
end Ct
end Go.Proofs.YtejebodgfoihkabGreat

/- The program's lengths of a code: treeLengths, oneAbove, halves. -/
namespace Go.Proofs.YtejebodgfoihkabGreat
open Go.RowKit
open Ct (Tr Nt)

theorem hgt_le {zs : List Int} {j o : Nat} {t : Tr} (h : iterT (initT zs zs.length) j = [(o, t)]) : Ct.hgt t ≤ zs.length := by
  have h1 := Ct.iter_lvs (initT zs zs.length) j
  rw [h] at h1
  have h2 : Cf.sum Ct.lvs [(o, t)] = (Ct.syms t).length := by simp [Cf.sum, Ct.lvs]
  have h3 := Ct.init_lvs zs zs.length
  have h4 := Ct.hgt_lvs t
  omega
theorem OwnL.below {w w' : World} {B n lo : Nat} {f : Nat → Nat} (h : OwnL w B n f) (hb : Below lo w w') (hl : B < lo) : OwnL w' B n f := by
  obtain ⟨h1, cs, fr, h2⟩ := h
  exact ⟨own_low h1 hb hl, cs, fr, (hb.block B hl).trans h2⟩
end Go.Proofs.YtejebodgfoihkabGreat

/- Numbers of how often each comes are halved until no length is too great (mathematics); halves, fitOk. -/
namespace Go.Proofs.YtejebodgfoihkabGreat
open Go.RowKit
namespace Ct

def half (z : Int) : Int := (z + 1) / 2
def hv (zs : List Int) : List Int := zs.map half
theorem hv_len (zs : List Int) : (hv zs).length = zs.length := by unfold hv; simp
theorem hv_get {zs : List Int} {i : Nat} (h : i < zs.length) : (hv zs).getD i 0 = half (zs.getD i 0) := by
  unfold hv
  rw [List.getD_eq_getElem?_getD, List.getD_eq_getElem?_getD, List.getElem?_map, List.getElem?_eq_getElem h]; rfl
/-- all that is asked of the numbers -/
def Good (m : Nat) (zs : List Int) : Prop := zs.length ≤ 300 ∧ (∀ i, i < zs.length → 0 ≤ zs.getD i 0 ∧ zs.getD i 0 ≤ 9000) ∧ come zs ≤ 2 ^ m
theorem come_hv_k {zs : List Int} (h : ∀ i, i < zs.length → 0 ≤ zs.getD i 0 ∧ zs.getD i 0 ≤ 9000) : ∀ k, k ≤ zs.length → (initT (hv zs) k).length = (initT zs k).length
  | 0, _ => rfl
  | k + 1, hk => by
    have ih := come_hv_k h k (by omega)
    have hz := h k (by omega)
    unfold initT
    rw [hv_get (by omega)]
    unfold half
    by_cases hp : 0 < zs.getD k 0
    · rw [if_pos hp, if_pos (by omega), List.length_append, List.length_append, ih]; rfl
    · rw [if_neg hp, if_neg (by omega), ih]
theorem Good.hv {m : Nat} {zs : List Int} (h : Good m zs) : Good m (hv zs) := by
  obtain ⟨h1, h2, h3⟩ := h
  refine ⟨by rw [hv_len]; exact h1, fun i hi => ?_, ?_⟩
  · rw [hv_len] at hi
    rw [hv_get hi]
    have := h2 i hi
    unfold half
    omega
  · unfold come at *
    rw [hv_len, come_hv_k h2 _ (Nat.le_refl _)]
    exact h3
/-- the lengths at the end -/
inductive Fits (m : Nat) : List Int → (Nat → Nat) → Prop
  | stop {zs : List Int} {F : Nat → Nat} : IsLens zs F → (∀ i, i < zs.length → F i ≤ m) → Fits m zs F
  | more {zs : List Int} {F G : Nat → Nat} : IsLens zs F → (∃ i, i < zs.length ∧ m < F i) → Fits m (hv zs) G → Fits m zs G
theorem Fits.same {m : Nat} {zs : List Int} {F G : Nat → Nat} (h : Fits m zs F) (k : Fits m zs G) : F = G := by
  induction h generalizing G with
  | stop h1 h2 =>
    cases k with
    | stop k1 k2 => exact h1.same k1
    | more k1 k2 k3 =>
      obtain ⟨i, hi, hgt⟩ := k2
      have := h2 i hi
      rw [h1.same k1] at this
      omega
  | more h1 h2 h3 ih =>
    cases k with
    | stop k1 k2 =>
      obtain ⟨i, hi, hgt⟩ := h2
      have := k2 i hi
      rw [← h1.same k1] at this
      omega
    | more k1 k2 k3 => exact ih k3
def tot (zs : List Int) : Nat := Cf.sum (fun z : Int => z.toNat) zs
theorem tot_hv : ∀ {zs : List Int}, (∀ z ∈ zs, 0 ≤ z) → tot (hv zs) ≤ tot zs ∧ ((∃ z ∈ zs, 1 < z) → tot (hv zs) < tot zs)
  | [], _ => ⟨Nat.le_refl _, fun ⟨z, hz, _⟩ => by simp at hz⟩
  | z :: zs, h => by
    obtain ⟨h1, h2⟩ := tot_hv (zs := zs) (fun y hy => h y (by simp [hy]))
    have hz := h z (by simp)
    have e1 : tot (hv (z :: zs)) = (half z).toNat + tot (hv zs) := rfl
    have e2 : tot (z :: zs) = z.toNat + tot zs := rfl
    have e3 : (half z).toNat ≤ z.toNat := by unfold half; omega
    rw [e1, e2]
    refine ⟨by omega, fun ⟨y, hy, hgt⟩ => ?_⟩
    rcases List.mem_cons.1 hy with rfl | hy
    · have : (half y).toNat < y.toNat := by unfold half; omega
      omega
    · have := h2 ⟨y, hy, hgt⟩
      omega
/-- where one length is too great the numbers can be halved -/
theorem Good.less {m : Nat} {zs : List Int} {F : Nat → Nat} (h : Good m zs) (hm : 1 ≤ m) (hF : IsLens zs F) (hx : ∃ i, i < zs.length ∧ m < F i) : tot (Ct.hv zs) < tot zs := by
  refine (tot_hv (fun z hz => ?_)).2 ?_
  · obtain ⟨i, hi, rfl⟩ := List.mem_iff_getElem.1 hz
    have := (h.2.1 i hi).1
    rwa [List.getD_eq_getElem?_getD, List.getElem?_eq_getElem hi] at this
  · by_cases c : ∃ z ∈ zs, 1 < z
    · exact c
    · exfalso
      obtain ⟨i, hi, hgt⟩ := hx
      have h1 := ones_deep (zs := zs) (fun i hi => by
        rw [List.getD_eq_getElem?_getD, List.getElem?_eq_getElem hi]
        show zs[i] ≤ 1
        rcases Int.lt_or_le 1 zs[i] with q | q
        · exact absurd ⟨zs[i], List.getElem_mem hi, q⟩ c
        · exact q) hm h.2.2
      have h2 := hF.deep i
      omega
end Ct

/-- the numbers that lie in memory, summed up -/
def memSum (w : World) : Value → Nat
  | .slice (some a) n _ => Ct.tot ((List.range n).map (fun i => intOf ((w.cell? ⟨a.block, a.off + i, none⟩).getD undef)))
  | _ => 0
theorem memSum_is {w : World} {a : Option Addr} {n c : Nat} {l : List Int} (h : Ints w a l) (hn : l.length = n) : memSum w (.slice a n c) = Ct.tot l := by
  rcases h with rfl | ⟨b, off, rfl, _, hc⟩
  · subst hn
    cases a <;> rfl
  · show Ct.tot ((List.range n).map (fun i => intOf ((w.cell? ⟨b, off + i, none⟩).getD undef))) = Ct.tot l
    congr 1
    apply List.ext_getElem
    · simp [hn]
    · intro i h1 h2
      simp only [List.getElem_map, List.getElem_range]
      rw [hc i h2]
      rfl
end Go.Proofs.YtejebodgfoihkabGreat

/- The lengths of a tree leave nothing over (mathematics). -/
namespace Go.Proofs.YtejebodgfoihkabGreat
namespace Ct

def sg (g : Nat → Nat) : Nat → Nat
  | 0 => 0
  | n + 1 => sg g n + g n
theorem sg_same {g h : Nat → Nat} : ∀ {n : Nat}, (∀ i, i < n → g i = h i) → sg g n = sg h n
  | 0, _ => rfl
  | n + 1, e => by
    show sg g n + g n = sg h n + h n
    rw [sg_same (n := n) (fun i hi => e i (by omega)), e n (by omega)]
theorem sg_add (g h : Nat → Nat) : ∀ n, sg (fun i => g i + h i) n = sg g n + sg h n
  | 0 => rfl
  | n + 1 => by
    show sg (fun i => g i + h i) n + (g n + h n) = sg g n + g n + (sg h n + h n)
    rw [sg_add g h n]
    omega
theorem sg_one (s v : Nat) : ∀ n, sg (fun i => if i = s then v else 0) n = if s < n then v else 0
  | 0 => by rw [if_neg (by omega)]; rfl
  | n + 1 => by
    show sg (fun i => if i = s then v else 0) n + (if n = s then v else 0) = _
    rw [sg_one s v n]
    by_cases h : n = s
    · rw [if_pos h, if_neg (by omega), if_pos (by omega)]; omega
    · rw [if_neg h]
      by_cases q : s < n
      · rw [if_pos q, if_pos (by omega)]; omega
      · rw [if_neg q, if_neg (by omega)]
theorem sg_zero (n : Nat) : sg (fun _ => 0) n = 0 := by
  induction n with
  | zero => rfl
  | succ n ih => show sg _ n + 0 = 0; rw [ih]
theorem taken_sg (f : Nat → Nat) : ∀ n, Cd.taken ((List.range n).map (fun i => ((f i : Nat) : Int))) = sg (fun i => Cd.part ((f i : Nat) : Int)) n
  | 0 => rfl
  | n + 1 => by
    rw [List.range_succ, List.map_append, Cd.taken_append, taken_sg f n]
    show _ + (Cd.part _ + 0) = sg _ n + _
    rfl
theorem part_nat (k : Nat) (h : 0 < k) : Cd.part (k : Int) = 2 ^ (15 - k) := by
  unfold Cd.part
  rw [if_pos (by omega)]
  rfl
theorem syms_some : ∀ t : Tr, ∃ s, s ∈ syms t
  | .leaf s => ⟨s, by simp [syms]⟩
  | .node l _ => by obtain ⟨s, h⟩ := syms_some l; exact ⟨s, by simp [syms, h]⟩
theorem dep_left {l r : Tr} {s : Nat} (hc : (syms (.node l r)).count s ≤ 1) (h : s ∈ syms l) : s ∉ syms r ∧ dep (.node l r) s = 1 + dep l s := by
  simp only [syms, List.count_append] at hc
  have h1 := List.one_le_count_iff.2 h
  have hn : s ∉ syms r := fun q => by have := List.one_le_count_iff.2 q; omega
  refine ⟨hn, ?_⟩
  simp only [dep, List.count_append]
  rw [dep_none hn, List.count_eq_zero.2 hn]
  omega
theorem dep_right {l r : Tr} {s : Nat} (hc : (syms (.node l r)).count s ≤ 1) (h : s ∈ syms r) : s ∉ syms l ∧ dep (.node l r) s = 1 + dep r s := by
  simp only [syms, List.count_append] at hc
  have h1 := List.one_le_count_iff.2 h
  have hn : s ∉ syms l := fun q => by have := List.one_le_count_iff.2 q; omega
  refine ⟨hn, ?_⟩
  simp only [dep, List.count_append]
  rw [dep_none hn, List.count_eq_zero.2 hn]
  omega
/-- the leaves of a tree take what its top takes -/
theorem kraft (n : Nat) : ∀ (t : Tr) (d : Nat), 0 < d → (∀ s, (syms t).count s ≤ 1) → (∀ s ∈ syms t, s < n ∧ d + dep t s ≤ 15) → sg (fun i => Cd.part ((if i ∈ syms t then d + dep t i else 0 : Nat) : Int)) n = 2 ^ (15 - d)
  | .leaf x, d, hd, _, hb => by
    have h1 := (hb x (by simp [syms])).1
    rw [sg_same (h := fun i => if i = x then 2 ^ (15 - d) else 0) (fun i _ => by
      by_cases e : i = x
      · rw [if_pos (by simp [syms, e]), if_pos e]
        exact part_nat _ (by show 0 < d + 0; omega)
      · rw [if_neg (by simp [syms, e]), if_neg e]; rfl), sg_one, if_pos h1]
  | .node l r, d, hd, hc, hb => by
    have hl := kraft n l (d + 1) (by omega) (fun s => by have := hc s; simp only [syms, List.count_append] at this; omega) (fun s hs => by
      have := hb s (by simp [syms, hs])
      rw [(dep_left (hc s) hs).2] at this
      omega)
    have hr := kraft n r (d + 1) (by omega) (fun s => by have := hc s; simp only [syms, List.count_append] at this; omega) (fun s hs => by
      have := hb s (by simp [syms, hs])
      rw [(dep_right (hc s) hs).2] at this
      omega)
    obtain ⟨x, hx⟩ := syms_some l
    have hd2 : d + 1 ≤ 15 := by
      have := hb x (by simp [syms, hx])
      rw [(dep_left (hc x) hx).2] at this
      omega
    rw [sg_same (h := fun i => Cd.part ((if i ∈ syms l then d + 1 + dep l i else 0 : Nat) : Int) + Cd.part ((if i ∈ syms r then d + 1 + dep r i else 0 : Nat) : Int)) (fun i _ => by
      by_cases h1 : i ∈ syms l
      · obtain ⟨h2, h3⟩ := dep_left (hc i) h1
        rw [if_pos (by simp [syms, h1]), if_pos h1, if_neg h2, h3, ← Nat.add_assoc]
        rfl
      · by_cases h2 : i ∈ syms r
        · obtain ⟨_, h3⟩ := dep_right (hc i) h2
          rw [if_pos (by simp [syms, h2]), if_neg h1, if_pos h2, h3, ← Nat.add_assoc]
          show _ = 0 + _
          rw [Nat.zero_add]
        · rw [if_neg (by simp [syms, h1, h2]), if_neg h1, if_neg h2]; rfl), sg_add, hl, hr]
    have e : 15 - d = 15 - (d + 1) + 1 := by omega
    rw [e, Nat.pow_succ]
    omega
theorem kraft_node {n : Nat} {l r : Tr} (hc : ∀ s, (syms (.node l r)).count s ≤ 1) (hb : ∀ s ∈ syms (.node l r), s < n ∧ dep (.node l r) s ≤ 15) : sg (fun i => Cd.part ((if i ∈ syms (.node l r) then dep (.node l r) i else 0 : Nat) : Int)) n = 32768 := by
  have hl := kraft n l 1 (by omega) (fun s => by have := hc s; simp only [syms, List.count_append] at this; omega) (fun s hs => by
    have := hb s (by simp [syms, hs])
    rw [(dep_left (hc s) hs).2] at this
    omega)
  have hr := kraft n r 1 (by omega) (fun s => by have := hc s; simp only [syms, List.count_append] at this; omega) (fun s hs => by
    have := hb s (by simp [syms, hs])
    rw [(dep_right (hc s) hs).2] at this
    omega)
  rw [sg_same (h := fun i => Cd.part ((if i ∈ syms l then 1 + dep l i else 0 : Nat) : Int) + Cd.part ((if i ∈ syms r then 1 + dep r i else 0 : Nat) : Int)) (fun i _ => by
    by_cases h1 : i ∈ syms l
    · obtain ⟨h2, h3⟩ := dep_left (hc i) h1
      rw [if_pos (by simp [syms, h1]), if_pos h1, if_neg h2, h3]
      rfl
    · by_cases h2 : i ∈ syms r
      · obtain ⟨_, h3⟩ := dep_right (hc i) h2
        rw [if_pos (by simp [syms, h2]), if_neg h1, if_pos h2, h3]
        show _ = 0 + _
        rw [Nat.zero_add]
      · rw [if_neg (by simp [syms, h1, h2]), if_neg h1, if_neg h2]; rfl), sg_add, hl, hr]
theorem sum_mem {α : Type} {f : α → Nat} {x : α} : ∀ {l : List α}, x ∈ l → f x ≤ Cf.sum f l
  | y :: l, h => by
    show f x ≤ f y + Cf.sum f l
    rcases List.mem_cons.1 h with rfl | h
    · omega
    · have := sum_mem (f := f) h; omega
theorem init_cnt_no {zs : List Int} {s : Nat} (h : ¬ 0 < zs.getD s 0) : ∀ k, Cf.sum (cnt s) (initT zs k) = 0
  | 0 => rfl
  | k + 1 => by
    have ih := init_cnt_no h k
    unfold initT
    split
    · rename_i hp
      rw [Cf.sum_append, ih]
      have e : k ≠ s := fun e => h (e ▸ hp)
      simp [Cf.sum, cnt, syms, e]
    · exact ih
theorem init_cnt_big (zs : List Int) (s k : Nat) (h : k ≤ s) : Cf.sum (cnt s) (initT zs k) = 0 := (init_cnt zs s k).2 h
/-- which symbols stand in the tree -/
theorem tree_syms {zs : List Int} {o : Nat} {t : Tr} {j : Nat} (h : iterT (initT zs zs.length) j = [(o, t)]) : (∀ s, (syms t).count s ≤ 1) ∧ (∀ s, s ∈ syms t ↔ s < zs.length ∧ 0 < zs.getD s 0) ∧ (syms t).length = come zs := by
  have hcnt : ∀ x, (syms t).count x = Cf.sum (cnt x) (initT zs zs.length) := fun x => by
    have h1 := iter_cnt x (initT zs zs.length) j
    rw [h] at h1
    have e : Cf.sum (cnt x) [(o, t)] = (syms t).count x := by simp [Cf.sum, cnt]
    omega
  refine ⟨fun s => by rw [hcnt]; exact (init_cnt zs s zs.length).1, fun s => ⟨fun hs => ?_, fun ⟨hs, hp⟩ => ?_⟩, ?_⟩
  · have h1 := List.one_le_count_iff.2 hs
    rw [hcnt] at h1
    refine ⟨Nat.lt_of_not_le fun q => ?_, ?_⟩
    · rw [init_cnt_big zs s _ q] at h1; omega
    · by_cases hp : 0 < zs.getD s 0
      · exact hp
      · rw [init_cnt_no hp] at h1; omega
  · have h1 := sum_mem (f := cnt s) (init_has hp zs.length hs)
    rw [← hcnt] at h1
    have e : cnt s ((zs.getD s 0).toNat, Tr.leaf s) = 1 := by simp [cnt, syms]
    rw [e] at h1
    exact List.one_le_count_iff.1 h1
  · have h1 := iter_lvs (initT zs zs.length) j
    rw [h] at h1
    have e : Cf.sum lvs [(o, t)] = (syms t).length := by simp [Cf.sum, lvs]
    rw [← e, h1]
    unfold come
    have : ∀ l : List Nt, (∀ p ∈ l, ∃ s, p.2 = .leaf s) → Cf.sum lvs l = l.length := by
      intro l
      induction l with
      | nil => intro _; rfl
      | cons p l ih =>
        intro hl
        show lvs p + Cf.sum lvs l = l.length + 1
        obtain ⟨s, hs⟩ := hl p (by simp)
        rw [ih (fun q hq => hl q (by simp [hq]))]
        unfold lvs
        rw [hs]
        simp [syms]
        omega
    exact this _ (init_leaves zs zs.length)
/-- what the lengths of a tree are -/
structure Whole (zs : List Int) (f : Nat → Nat) : Prop where
  some : ∀ i, i < zs.length → (f i = 0 ↔ ¬ 0 < zs.getD i 0)
  one : come zs ≤ 1 → sg (fun i => Cd.part ((f i : Nat) : Int)) zs.length ≤ 32768
  full : 2 ≤ come zs → sg (fun i => Cd.part ((f i : Nat) : Int)) zs.length = 32768
theorem come_one {zs : List Int} (h : initT zs zs.length = []) (i : Nat) (hi : i < zs.length) : ¬ 0 < zs.getD i 0 := fun hp => by
  have := init_has hp zs.length hi
  rw [h] at this
  simp at this
theorem IsLens.whole {zs : List Int} {f : Nat → Nat} (h : IsLens zs f) (hm : ∀ i, i < zs.length → f i ≤ 15) : Whole zs f := by
  rcases h with ⟨hn, rfl⟩ | ⟨o, t, j, hit, rfl⟩
  · refine ⟨fun i hi => ⟨fun _ => come_one hn i hi, fun _ => rfl⟩, fun _ => ?_, fun q => ?_⟩
    · have e0 : sg (fun i => Cd.part (((fun _ => 0 : Nat → Nat) i : Nat) : Int)) zs.length = 0 := (sg_same (h := fun _ => 0) (fun i _ => rfl)).trans (sg_zero _)
      rw [e0]; omega
    · unfold come at q; rw [hn] at q; simp at q
  · obtain ⟨hc, hs, hl⟩ := tree_syms hit
    match t, hc, hs, hl, hm with
    | .leaf x, hc, hs, hl, hm =>
      refine ⟨fun i hi => ?_, fun _ => ?_, fun q => ?_⟩
      · show (if i = x then 1 else 0) = 0 ↔ _
        have h1 := hs i
        simp only [syms, List.mem_singleton] at h1
        by_cases e : i = x
        · rw [if_pos e]
          exact ⟨fun q => by omega, fun q => absurd (h1.1 e).2 q⟩
        · rw [if_neg e]
          exact ⟨fun _ q => e (h1.2 ⟨hi, q⟩), fun _ => rfl⟩
      · rw [sg_same (h := fun i => if i = x then 16384 else 0) (fun i _ => by
          show Cd.part ((if i = x then 1 else 0 : Nat) : Int) = _
          by_cases e : i = x
          · rw [if_pos e, if_pos e]; rfl
          · rw [if_neg e, if_neg e]; rfl), sg_one]
        split <;> omega
      · simp only [syms, List.length_singleton] at hl; omega
    | .node l r, hc, hs, hl, hm =>
      have ef : ∀ i, topT (.node l r) i = if i ∈ syms (.node l r) then dep (.node l r) i else 0 := fun i => by
        show Go.Proofs.YtejebodgfoihkabGreat.tell (.node l r) 0 (fun _ => 0) i = _
        rw [tell_is (hc i), Nat.zero_add]
      have hk := kraft_node (n := zs.length) hc (fun s hx => ⟨((hs s).1 hx).1, by
        have h1 := hm s ((hs s).1 hx).1
        rw [ef, if_pos hx] at h1
        exact h1⟩)
      have hk2 : sg (fun i => Cd.part ((topT (.node l r) i : Nat) : Int)) zs.length = 32768 := by
        rw [← hk]
        exact sg_same (fun i _ => by rw [ef])
      refine ⟨fun i hi => ?_, fun _ => by rw [hk2]; omega, fun _ => hk2⟩
      rw [ef]
      by_cases hx : i ∈ syms (.node l r)
      · rw [if_pos hx]
        refine ⟨fun q => ?_, fun q => absurd ((hs i).1 hx).2 q⟩
        have := List.one_le_count_iff.2 hx
        simp only [dep] at q
        simp only [syms] at this
        omega
      · rw [if_neg hx]
        exact ⟨fun _ q => hx ((hs i).2 ⟨hi, q⟩), fun _ => rfl⟩
theorem half_pos {z : Int} (h : 0 ≤ z) : 0 < half z ↔ 0 < z := by unfold half; omega
theorem Fits.whole {m : Nat} (h15 : m ≤ 15) {zs : List Int} {f : Nat → Nat} (h : Fits m zs f) : (∀ i, i < zs.length → 0 ≤ zs.getD i 0 ∧ zs.getD i 0 ≤ 9000) → Whole zs f ∧ ∀ i, i < zs.length → f i ≤ m := by
  induction h with
  | stop h1 h2 => exact fun _ => ⟨h1.whole (fun i hi => Nat.le_trans (h2 i hi) h15), h2⟩
  | @more zs F G h1 h2 h3 ih =>
    intro hz
    obtain ⟨w, wm⟩ := ih (fun i hi => by
      rw [hv_len] at hi
      rw [hv_get hi]
      have := hz i hi
      unfold half
      omega)
    have ec : come (hv zs) = come zs := by
      unfold come
      rw [hv_len]
      exact come_hv_k hz _ (Nat.le_refl _)
    refine ⟨⟨fun i hi => ?_, fun q => ?_, fun q => ?_⟩, fun i hi => wm i (by rw [hv_len]; exact hi)⟩
    · have h5 := w.some i (by rw [hv_len]; exact hi)
      rw [hv_get hi, half_pos (hz i hi).1] at h5
      exact h5
    · have h5 := w.one (by rw [ec]; exact q)
      rw [hv_len] at h5
      exact h5
    · have h5 := w.full (by rw [ec]; exact q)
      rw [hv_len] at h5
      exact h5
end Ct
end Go.Proofs.YtejebodgfoihkabGreat

/- The program's fitOk and CodeFit. -/
namespace Go.Proofs.YtejebodgfoihkabGreat
open Go.RowKit

/-- whether there is a code -/
def fitB (l : List Int) (m : Int) : Bool := decide (l.length ≤ 300) && (decide (1 ≤ m) && (decide (m ≤ 15) && (oftenB l && decide (Ct.come l ≤ 2 ^ m.toNat))))
theorem often_all {l : List Int} (h : oftenB l = true) : ∀ i, i < l.length → 0 ≤ l.getD i 0 ∧ l.getD i 0 ≤ 9000 := fun i hi => by
  unfold oftenB oneB at h
  simp only [List.all_eq_true, Bool.and_eq_true, decide_eq_true_eq] at h
  rw [List.getD_eq_getElem?_getD, List.getElem?_eq_getElem hi]
  exact h _ (List.getElem_mem hi)
end Go.Proofs.YtejebodgfoihkabGreat

/- No code is cheaper than the tree's (mathematics). -/
namespace Go.Proofs.YtejebodgfoihkabGreat
namespace Ct
open Cf (lst wo)

theorem sg_upd (g : Nat → Nat) (a v : Nat) : ∀ n, a < n → sg (fun i => if i = a then v else g i) n + g a = sg g n + v
  | 0, h => by omega
  | n + 1, h => by
    show sg (fun i => if i = a then v else g i) n + (if n = a then v else g n) + g a = sg g n + g n + v
    by_cases e : n = a
    · subst e
      rw [if_pos rfl, sg_same (h := g) (fun i hi => if_neg (by omega))]
      omega
    · rw [if_neg e]
      have := sg_upd g a v n (by omega)
      omega
theorem sg_le {g h : Nat → Nat} : ∀ {n : Nat}, (∀ i, i < n → g i ≤ h i) → sg g n ≤ sg h n
  | 0, _ => Nat.le_refl _
  | n + 1, e => Nat.add_le_add (sg_le (n := n) (fun i hi => e i (by omega))) (e n (by omega))
theorem sg_dvd {d : Nat} {g : Nat → Nat} : ∀ {n : Nat}, (∀ i, i < n → d ∣ g i) → d ∣ sg g n
  | 0, _ => Nat.dvd_zero d
  | n + 1, e => Nat.dvd_add (sg_dvd (n := n) (fun i hi => e i (by omega))) (e n (by omega))
theorem sg_map {α : Type} (f : α → Nat) (h : Nat → α) : ∀ n, Cf.sum f ((List.range n).map h) = sg (fun i => f (h i)) n
  | 0 => rfl
  | n + 1 => by
    rw [List.range_succ, List.map_append, Cf.sum_append, sg_map f h n]
    rfl
theorem list_range {α : Type} (d : α) (xs : List α) : (List.range xs.length).map (fun i => xs.getD i d) = xs := by
  apply List.ext_getElem
  · simp
  · intro i h1 h2
    simp only [List.getElem_map, List.getElem_range]
    rw [List.getD_eq_getElem?_getD, List.getElem?_eq_getElem h2]; rfl
theorem sg_list {α : Type} (f : α → Nat) (d : α) (xs : List α) : sg (fun i => f (xs.getD i d)) xs.length = Cf.sum f xs := by
  rw [← sg_map f (fun i => xs.getD i d), list_range]
theorem max_at (D : Nat → Nat) : ∀ n, 0 < n → ∃ p, p < n ∧ ∀ i, i < n → D i ≤ D p
  | 0, h => by omega
  | 1, _ => ⟨0, by omega, fun i hi => by rw [show i = 0 by omega]; exact Nat.le_refl _⟩
  | n + 2, _ => by
    obtain ⟨p, hp, hm⟩ := max_at D (n + 1) (by omega)
    by_cases h : D p ≤ D (n + 1)
    · refine ⟨n + 1, by omega, fun i hi => ?_⟩
      by_cases e : i = n + 1
      · subst e; exact Nat.le_refl _
      · exact Nat.le_trans (hm i (by omega)) h
    · refine ⟨p, by omega, fun i hi => ?_⟩
      by_cases e : i = n + 1
      · subst e; omega
      · exact hm i (by omega)
/-- lengths of a code -/
structure Kr (D : Nat → Nat) (n : Nat) : Prop where
  le : ∀ i, i < n → D i ≤ 15
  sum : sg (fun i => 2 ^ (15 - D i)) n ≤ 2 ^ 15
def swp (D : Nat → Nat) (a p : Nat) : Nat → Nat := fun i => if i = a then D p else if i = p then D a else D i
theorem sg_swp (g : Nat → Nat) {a p n x y : Nat} (ha : a < n) (hp : p < n) (hne : a ≠ p) : sg (fun i => if i = a then x else if i = p then y else g i) n + g a + g p = sg g n + x + y := by
  have h1 := sg_upd (fun i => if i = p then y else g i) a x n ha
  have h2 := sg_upd g p y n hp
  rw [if_neg hne] at h1
  omega
theorem swap {w D : Nat → Nat} {n a p : Nat} (ha : a < n) (hp : p < n) (hne : a ≠ p) (hw : w a ≤ w p) (hd : D a ≤ D p) (hK : Kr D n) :
    Kr (swp D a p) n ∧ sg (fun i => w i * swp D a p i) n ≤ sg (fun i => w i * D i) n := by
  refine ⟨⟨fun i hi => ?_, ?_⟩, ?_⟩
  · unfold swp
    split
    · exact hK.le p hp
    · split
      · exact hK.le a ha
      · exact hK.le i hi
  · have e : sg (fun i => 2 ^ (15 - swp D a p i)) n = sg (fun i => if i = a then 2 ^ (15 - D p) else if i = p then 2 ^ (15 - D a) else 2 ^ (15 - D i)) n := sg_same (fun i _ => by
      unfold swp
      by_cases e1 : i = a
      · rw [if_pos e1, if_pos e1]
      · by_cases e2 : i = p
        · rw [if_neg e1, if_pos e2, if_neg e1, if_pos e2]
        · rw [if_neg e1, if_neg e2, if_neg e1, if_neg e2])
    have h1 := sg_swp (fun i => 2 ^ (15 - D i)) (x := 2 ^ (15 - D p)) (y := 2 ^ (15 - D a)) ha hp hne
    have h2 := hK.sum
    rw [e]
    omega
  · have e : sg (fun i => w i * swp D a p i) n = sg (fun i => if i = a then w a * D p else if i = p then w p * D a else w i * D i) n := sg_same (fun i _ => by
      unfold swp
      by_cases e1 : i = a
      · rw [if_pos e1, if_pos e1, e1]
      · by_cases e2 : i = p
        · rw [if_neg e1, if_pos e2, if_neg e1, if_pos e2, e2]
        · rw [if_neg e1, if_neg e2, if_neg e1, if_neg e2])
    have h1 := sg_swp (fun i => w i * D i) (x := w a * D p) (y := w p * D a) ha hp hne
    rw [e]
    obtain ⟨x, hx⟩ := Nat.exists_eq_add_of_le hw
    obtain ⟨y, hy⟩ := Nat.exists_eq_add_of_le hd
    have h3 : w p * D p = w a * D a + w a * y + x * D a + x * y := by rw [hx, hy, Nat.mul_add, Nat.add_mul, Nat.add_mul]; omega
    have h4 : w a * D p = w a * D a + w a * y := by rw [hy, Nat.mul_add]
    have h5 : w p * D a = w a * D a + x * D a := by rw [hx, Nat.add_mul]
    omega
/-- the two least may stand lowest, side by side -/
theorem level {w : Nat → Nat} {n a b : Nat} (hab : a ≠ b) (ha : a < n) (hb : b < n) (hwa : ∀ k, k < n → w a ≤ w k) (hwb : ∀ k, k < n → k ≠ a → w b ≤ w k) :
    ∀ (N : Nat) (D : Nat → Nat), sg D n ≤ N → Kr D n → ∃ D' L, Kr D' n ∧ D' a = L + 1 ∧ D' b = L + 1 ∧ sg (fun i => w i * D' i) n ≤ sg (fun i => w i * D i) n
  | N, D, hN, hK => by
    obtain ⟨p, hp, hm⟩ := max_at D n (by omega)
    by_cases hq : ∃ q, q < n ∧ q ≠ p ∧ D q = D p
    · obtain ⟨q, hq, hqp, hqd⟩ := hq
      -- the first one
      obtain ⟨D1, K1, m1, a1, c1, q1, hq1, hq1a, hq1d⟩ : ∃ D1, Kr D1 n ∧ (∀ i, i < n → D1 i ≤ D p) ∧ D1 a = D p ∧ sg (fun i => w i * D1 i) n ≤ sg (fun i => w i * D i) n ∧ ∃ q1, q1 < n ∧ q1 ≠ a ∧ D1 q1 = D p := by
        by_cases e : a = p
        · subst e
          exact ⟨D, hK, hm, rfl, Nat.le_refl _, q, hq, hqp, hqd⟩
        · obtain ⟨k1, k2⟩ := swap (w := w) ha hp e (hwa p hp) (hm a ha) hK
          refine ⟨_, k1, fun i hi => ?_, ?_, k2, ?_⟩
          · unfold swp
            split
            · exact Nat.le_refl _
            · split
              · exact hm a ha
              · exact hm i hi
          · unfold swp; rw [if_pos rfl]
          · by_cases e2 : q = a
            · refine ⟨p, hp, fun h => e h.symm, ?_⟩
              unfold swp
              rw [if_neg (fun h => e h.symm), if_pos rfl, ← e2, hqd]
            · refine ⟨q, hq, e2, ?_⟩
              unfold swp
              rw [if_neg e2, if_neg hqp, hqd]
      obtain ⟨D2, K2, a2, b2, c2⟩ : ∃ D2, Kr D2 n ∧ D2 a = D p ∧ D2 b = D p ∧ sg (fun i => w i * D2 i) n ≤ sg (fun i => w i * D1 i) n := by
        by_cases e : b = q1
        · subst e
          exact ⟨D1, K1, a1, hq1d, Nat.le_refl _⟩
        · obtain ⟨k1, k2⟩ := swap (w := w) hb hq1 e (hwb q1 hq1 hq1a) (by rw [hq1d]; exact m1 b hb) K1
          refine ⟨_, k1, ?_, ?_, k2⟩
          · unfold swp; rw [if_neg hab, if_neg (fun h => hq1a h.symm), a1]
          · unfold swp; rw [if_pos rfl, hq1d]
      have hL : D p ≠ 0 := fun h0 => by
        have h1 := sg_swp (fun _ : Nat => 0) (x := 2 ^ 15) (y := 2 ^ 15) ha hb hab
        rw [sg_zero] at h1
        have h2 : sg (fun i => if i = a then 2 ^ 15 else if i = b then 2 ^ 15 else 0) n ≤ sg (fun i => 2 ^ (15 - D2 i)) n := sg_le (fun i _ => by
          split
          · rename_i e; rw [e, a2, h0]; exact Nat.le_refl _
          · split
            · rename_i e; rw [e, b2, h0]; exact Nat.le_refl _
            · exact Nat.zero_le _)
        have h3 := K2.sum
        have h4 : 0 < 2 ^ 15 := by decide
        omega
      exact ⟨D2, D p - 1, K2, by omega, by omega, Nat.le_trans c2 c1⟩
    · -- it stands alone: one higher
      have hlt : ∀ i, i < n → i ≠ p → D i + 1 ≤ D p := fun i hi hne => by
        have h1 := hm i hi
        rcases Nat.lt_or_ge (D i) (D p) with h | h
        · exact h
        · exact absurd ⟨i, hi, hne, by omega⟩ hq
      have hL : 1 ≤ D p := by
        by_cases e : a = p
        · have := hlt b hb (by omega); omega
        · have := hlt a ha e; omega
      have h15 := hK.le p hp
      have hKu : Kr (fun i => if i = p then D p - 1 else D i) n := by
        refine ⟨fun i hi => ?_, ?_⟩
        · split
          · omega
          · exact hK.le i hi
        · have e : sg (fun i => 2 ^ (15 - (if i = p then D p - 1 else D i))) n = sg (fun i => if i = p then 2 ^ (15 - (D p - 1)) else 2 ^ (15 - D i)) n := sg_same (fun i _ => by
            by_cases e1 : i = p
            · rw [if_pos e1, if_pos e1]
            · rw [if_neg e1, if_neg e1])
          have h1 := sg_upd (fun i => 2 ^ (15 - D i)) p (2 ^ (15 - (D p - 1))) n hp
          have h2 := sg_upd (fun i => 2 ^ (15 - D i)) p 0 n hp
          have hd : 2 ^ (15 - (D p - 1)) ∣ sg (fun i => if i = p then 0 else 2 ^ (15 - D i)) n := sg_dvd (fun i hi => by
            split
            · exact Nat.dvd_zero _
            · rename_i e1
              exact Nat.pow_dvd_pow 2 (by have := hlt i hi e1; omega))
          obtain ⟨x, hx⟩ := hd
          obtain ⟨y, hy⟩ : 2 ^ (15 - (D p - 1)) ∣ 2 ^ 15 := Nat.pow_dvd_pow 2 (by omega)
          have hu : 2 ^ (15 - (D p - 1)) = 2 * 2 ^ (15 - D p) := by rw [show 15 - (D p - 1) = (15 - D p) + 1 by omega, Nat.pow_succ]; omega
          have h3 := hK.sum
          have hpos : 0 < 2 ^ (15 - D p) := Nat.two_pow_pos _
          rw [e]
          rw [hy] at h3 ⊢
          generalize 2 ^ (15 - (D p - 1)) = U at *
          generalize 2 ^ (15 - D p) = u at *
          have hxy : x + 1 ≤ y := by
            rcases Nat.lt_or_ge x y with h | h
            · exact h
            · have := Nat.mul_le_mul_left U h
              omega
          have := Nat.mul_le_mul_left U hxy
          rw [Nat.mul_add, Nat.mul_one] at this
          omega
      have hc : sg (fun i => w i * (if i = p then D p - 1 else D i)) n ≤ sg (fun i => w i * D i) n := sg_le (fun i _ => by
        split
        · rename_i e; rw [e]; exact Nat.mul_le_mul_left _ (by omega)
        · exact Nat.le_refl _)
      have hs : sg (fun i => if i = p then D p - 1 else D i) n + D p = sg D n + (D p - 1) := sg_upd D p (D p - 1) n hp
      match N, hN with
      | 0, hN => omega
      | N + 1, hN =>
        obtain ⟨D', L, k1, k2, k3, k4⟩ := level hab ha hb hwa hwb N (fun i => if i = p then D p - 1 else D i) (by omega) hKu
        exact ⟨D', L, k1, k2, k3, Nat.le_trans k4 hc⟩
  termination_by N => N
end Ct
end Go.Proofs.YtejebodgfoihkabGreat

/- No code is cheaper than the tree's (mathematics, the trees). -/
namespace Go.Proofs.YtejebodgfoihkabGreat
namespace Ct
open Cf (lst wo)

/-- how often what stands in a tree comes, and how many bits its symbols take -/
def ws (zs : List Int) : Tr → Nat
  | .leaf s => (zs.getD s 0).toNat
  | .node l r => ws zs l + ws zs r
def wc (zs : List Int) : Tr → Nat
  | .leaf _ => 0
  | .node l r => wc zs l + wc zs r + (ws zs l + ws zs r)
theorem cost_tree (zs : List Int) (n : Nat) : ∀ (t : Tr) (d : Nat), (∀ s, (syms t).count s ≤ 1) → (∀ s ∈ syms t, s < n) → sg (fun i => (zs.getD i 0).toNat * (if i ∈ syms t then d + dep t i else 0)) n = wc zs t + ws zs t * d
  | .leaf x, d, _, hb => by
    have h1 := hb x (by simp [syms])
    rw [sg_same (h := fun i => if i = x then (zs.getD x 0).toNat * d else 0) (fun i _ => by
      by_cases e : i = x
      · rw [if_pos (by simp [syms, e]), if_pos e, e]; rfl
      · rw [if_neg (by simp [syms, e]), if_neg e]; rfl), sg_one, if_pos h1]
    simp [wc, ws]
  | .node l r, d, hc, hb => by
    have hl := cost_tree zs n l (d + 1) (fun s => by have := hc s; simp only [syms, List.count_append] at this; omega) (fun s hs => hb s (by simp [syms, hs]))
    have hr := cost_tree zs n r (d + 1) (fun s => by have := hc s; simp only [syms, List.count_append] at this; omega) (fun s hs => hb s (by simp [syms, hs]))
    rw [sg_same (h := fun i => (zs.getD i 0).toNat * (if i ∈ syms l then d + 1 + dep l i else 0) + (zs.getD i 0).toNat * (if i ∈ syms r then d + 1 + dep r i else 0)) (fun i _ => by
      by_cases h1 : i ∈ syms l
      · obtain ⟨h2, h3⟩ := dep_left (hc i) h1
        rw [if_pos (by simp [syms, h1]), if_pos h1, if_neg h2, h3, ← Nat.add_assoc]; rfl
      · by_cases h2 : i ∈ syms r
        · obtain ⟨_, h3⟩ := dep_right (hc i) h2
          rw [if_pos (by simp [syms, h2]), if_neg h1, if_pos h2, h3, ← Nat.add_assoc, Nat.mul_zero]; exact (Nat.zero_add _).symm
        · rw [if_neg (by simp [syms, h1, h2]), if_neg h1, if_neg h2]; rfl), sg_add, hl, hr]
    simp only [wc, ws]
    rw [Nat.mul_add, Nat.mul_add, Nat.mul_one, Nat.mul_one, Nat.add_mul]
    omega
/-- the weights of the nodes are how often their symbols come -/
def Wts (zs : List Int) (ts : List Nt) : Prop := ∀ p ∈ ts, p.1 = ws zs p.2
theorem Wts.at {zs : List Int} {ts : List Nt} (h : Wts zs ts) {i : Nat} (hi : i < ts.length) : wAt ts i = ws zs (tAt ts i) := by
  unfold wAt tAt
  rw [getD_at hi]
  exact h _ (List.getElem_mem hi)
theorem Wts.step {zs : List Int} {ts : List Nt} (h : Wts zs ts) {a b : Nat} (t : Two ts a b) : Wts zs (Ct.step ts) := fun p hp => by
  rw [t.st] at hp
  rcases List.mem_append.1 hp with hp | hp
  · exact h p ((wo_sub a b ts 0).subset hp)
  · rw [List.mem_singleton.1 hp]
    show wAt ts a + wAt ts b = ws zs (tAt ts a) + ws zs (tAt ts b)
    rw [h.at t.la, h.at t.lb]
theorem init_wts (zs : List Int) : ∀ k, Wts zs (initT zs k)
  | 0 => fun p hp => by simp [initT] at hp
  | k + 1 => fun p hp => by
    unfold initT at hp
    split at hp
    · rcases List.mem_append.1 hp with hp | hp
      · exact init_wts zs k p hp
      · rw [List.mem_singleton.1 hp]; rfl
    · exact init_wts zs k p hp
theorem wts_iter {zs : List Int} {ts : List Nt} (h : Wts zs ts) : ∀ j, Wts zs (iterT ts j)
  | 0 => h
  | j + 1 => by
    have ih := wts_iter h j
    show Wts zs (step (iterT ts j))
    by_cases hl : 1 < (iterT ts j).length
    · obtain ⟨a, b, t⟩ := two_of hl
      exact ih.step t
    · rcases step_cases (iterT ts j) with ⟨e, _⟩ | ⟨a, wa, b, wb, _, _, hab, ha, hb⟩
      · rw [e]; exact ih
      · omega
/-- whatever lengths the nodes are given, it takes C bits at least -/
def Least (zs : List Int) (C : Nat) (ts : List Nt) : Prop := ∀ D : Nat → Nat, Kr D ts.length → C ≤ Cf.sum (fun p : Nt => wc zs p.2) ts + sg (fun i => wAt ts i * D i) ts.length
theorem Least.back {zs : List Int} {C : Nat} {ts : List Nt} (hw : Wts zs ts) {a b : Nat} (t : Two ts a b) (h : Least zs C (step ts)) : Least zs C ts := by
  intro D hK
  obtain ⟨D', L, k1, k2, k3, k4⟩ := level (w := wAt ts) t.ne t.la t.lb (fun k hk => by
      by_cases e1 : k = a
      · rw [e1]; exact Nat.le_refl _
      · by_cases e2 : k = b
        · rw [e2]; exact t.ab
        · exact (t.mn k hk e1 e2).1) (fun k hk e1 => by
      by_cases e2 : k = b
      · rw [e2]; exact Nat.le_refl _
      · exact (t.mn k hk e1 e2).2.1) (sg D ts.length) D (Nat.le_refl _) hK
  -- the nodes with their lengths
  obtain ⟨Ps, hPs⟩ : ∃ Ps : List (Nat × Nat), Ps = (List.range ts.length).map (fun i => (wAt ts i, D' i)) := ⟨_, rfl⟩
  have hlen : Ps.length = ts.length := by rw [hPs]; simp
  have hPa : ∀ (i : Nat) (hi : i < Ps.length), Ps[i] = (wAt ts i, D' i) := fun i hi => by subst hPs; simp
  obtain ⟨Qs, hQs⟩ : ∃ Qs : List (Nat × Nat), Qs = wo a b Ps 0 ++ [(wAt ts a + wAt ts b, L)] := ⟨_, rfl⟩
  have hq1 : Qs.length = (step ts).length := by
    have h1 := Cf.wo_len0 t.ne Ps (by rw [hlen]; exact t.la) (by rw [hlen]; exact t.lb)
    have h2 := (step_last t).1
    rw [hQs, List.length_append]
    simp only [List.length_singleton]
    omega
  have hq2 : Qs.map (fun p => p.1) = (step ts).map (fun p => p.1) := by
    rw [hQs, t.st, List.map_append, List.map_append, Cf.wo_map, Cf.wo_map]
    have e : Ps.map (fun p => p.1) = ts.map (fun p => p.1) := by
      rw [hPs, List.map_map]
      apply List.ext_getElem
      · simp
      · intro i h1 h2
        simp only [List.getElem_map, List.getElem_range, Function.comp]
        unfold wAt
        rw [getD_at (by simpa using h2)]
    rw [e]
    rfl
  have hq3 : ∀ i, i < (step ts).length → wAt (step ts) i = (Qs.getD i (0, 0)).1 := fun i hi => by
    have h1 := congrArg (fun l : List Nat => l[i]?) hq2
    simp only [List.getElem?_map] at h1
    rw [List.getElem?_eq_getElem (by omega), List.getElem?_eq_getElem hi] at h1
    simp only [Option.map_some, Option.some.injEq] at h1
    unfold wAt
    rw [getD_at hi, ← h1, List.getD_eq_getElem?_getD, List.getElem?_eq_getElem (by omega)]
    rfl
  have s1 := Cf.wo_sum0 (fun p : Nat × Nat => 2 ^ (15 - p.2)) t.ne Ps (by rw [hlen]; exact t.la) (by rw [hlen]; exact t.lb)
  have s2 := Cf.wo_sum0 (fun p : Nat × Nat => p.1 * p.2) t.ne Ps (by rw [hlen]; exact t.la) (by rw [hlen]; exact t.lb)
  rw [hPa, hPa] at s1 s2
  simp only [k2, k3] at s1 s2
  have e1 : Cf.sum (fun p : Nat × Nat => 2 ^ (15 - p.2)) Ps = sg (fun i => 2 ^ (15 - D' i)) ts.length := by rw [hPs]; exact sg_map _ _ _
  have e2 : Cf.sum (fun p : Nat × Nat => p.1 * p.2) Ps = sg (fun i => wAt ts i * D' i) ts.length := by rw [hPs]; exact sg_map _ _ _
  have hL : L + 1 ≤ 15 := by have := k1.le a t.la; omega
  have hp2 : 2 ^ (15 - L) = 2 * 2 ^ (15 - (L + 1)) := by rw [show 15 - L = (15 - (L + 1)) + 1 by omega, Nat.pow_succ]; omega
  have q1 : Cf.sum (fun p : Nat × Nat => 2 ^ (15 - p.2)) Qs = Cf.sum (fun p : Nat × Nat => 2 ^ (15 - p.2)) (wo a b Ps 0) + 2 ^ (15 - L) := by
    rw [hQs, Cf.sum_append]; rfl
  have q2 : Cf.sum (fun p : Nat × Nat => p.1 * p.2) Qs = Cf.sum (fun p : Nat × Nat => p.1 * p.2) (wo a b Ps 0) + (wAt ts a + wAt ts b) * L := by
    rw [hQs, Cf.sum_append]; rfl
  have hK2 : Kr (fun i => (Qs.getD i (0, 0)).2) (step ts).length := by
    refine ⟨fun i hi => ?_, ?_⟩
    · have hi2 : i < Qs.length := by omega
      have hm := List.getElem_mem hi2
      rw [List.getD_eq_getElem?_getD, List.getElem?_eq_getElem hi2]
      show Qs[i].2 ≤ 15
      generalize Qs[i] = q at hm
      rw [hQs] at hm
      rcases List.mem_append.1 hm with hm | hm
      · have hm2 := (wo_sub a b Ps 0).subset hm
        rw [hPs] at hm2
        obtain ⟨j, hj, rfl⟩ := List.mem_map.1 hm2
        exact k1.le j (List.mem_range.1 hj)
      · rw [List.mem_singleton.1 hm]; show L ≤ 15; omega
    · have h1 := sg_list (fun p : Nat × Nat => 2 ^ (15 - p.2)) (0, 0) Qs
      rw [hq1] at h1
      have h2 := k1.sum
      show sg (fun i => 2 ^ (15 - (Qs.getD i (0, 0)).2)) (step ts).length ≤ _
      rw [h1]
      omega
  have h9 := h _ hK2
  have h10 : sg (fun i => wAt (step ts) i * (Qs.getD i (0, 0)).2) (step ts).length = Cf.sum (fun p : Nat × Nat => p.1 * p.2) Qs := by
    rw [← sg_list (fun p : Nat × Nat => p.1 * p.2) (0, 0) Qs, hq1]
    exact sg_same (fun i hi => by rw [hq3 i hi])
  rw [h10] at h9
  have h11 : Cf.sum (fun p : Nt => wc zs p.2) (step ts) = Cf.sum (fun p : Nt => wc zs p.2) ts + (wAt ts a + wAt ts b) := by
    have h1 := Cf.wo_sum0 (fun p : Nt => wc zs p.2) t.ne ts t.la t.lb
    rw [t.st, Cf.sum_append]
    have h2 : Cf.sum (fun p : Nt => wc zs p.2) [(wAt ts a + wAt ts b, Tr.node (tAt ts a) (tAt ts b))] = wc zs (tAt ts a) + wc zs (tAt ts b) + (ws zs (tAt ts a) + ws zs (tAt ts b)) := rfl
    rw [h2, hw.at t.la, hw.at t.lb]
    have h3 : wc zs (ts[a]'t.la).2 = wc zs (tAt ts a) := by unfold tAt; rw [getD_at t.la]
    have h4 : wc zs (ts[b]'t.lb).2 = wc zs (tAt ts b) := by unfold tAt; rw [getD_at t.lb]
    rw [h3, h4] at h1
    omega
  rw [h11, q2, Nat.add_mul] at h9
  rw [Nat.mul_add, Nat.mul_add, Nat.mul_one, Nat.mul_one] at s2
  omega
theorem least_iter {zs : List Int} {C : Nat} {ts : List Nt} (hw : Wts zs ts) : ∀ j, Least zs C (iterT ts j) → Least zs C ts
  | 0, h => h
  | j + 1, h => by
    refine least_iter hw j ?_
    have h' : Least zs C (step (iterT ts j)) := h
    by_cases hl : 1 < (iterT ts j).length
    · obtain ⟨a, b, t⟩ := two_of hl
      exact h'.back (wts_iter hw j) t
    · rcases step_cases (iterT ts j) with ⟨e, _⟩ | ⟨a, wa, b, wb, _, _, hab, ha, hb⟩
      · rw [e] at h'; exact h'
      · omega
def sy : Tr → Nat
  | .leaf s => s
  | .node _ _ => 0
theorem init_kraft {zs : List Int} {G : Nat → Nat} : ∀ k, (∀ i, i < k → 0 < zs.getD i 0 → 0 < G i) → Cf.sum (fun p : Nt => 2 ^ (15 - G (sy p.2))) (initT zs k) ≤ sg (fun i => Cd.part ((G i : Nat) : Int)) k
  | 0, _ => Nat.le_refl _
  | k + 1, h => by
    have ih := init_kraft k (fun i hi => h i (by omega))
    unfold initT
    show _ ≤ sg (fun i => Cd.part ((G i : Nat) : Int)) k + Cd.part ((G k : Nat) : Int)
    split
    · rename_i hp
      rw [Cf.sum_append]
      have e : Cf.sum (fun p : Nt => 2 ^ (15 - G (sy p.2))) [((zs.getD k 0).toNat, Tr.leaf k)] = 2 ^ (15 - G k) := by simp [Cf.sum, sy]
      rw [e, part_nat _ (h k (by omega) hp)]
      omega
    · omega
theorem init_cost {zs : List Int} {G : Nat → Nat} : ∀ k, Cf.sum (fun p : Nt => p.1 * G (sy p.2)) (initT zs k) = sg (fun i => (zs.getD i 0).toNat * G i) k
  | 0 => rfl
  | k + 1 => by
    have ih := init_cost (zs := zs) (G := G) k
    unfold initT
    show _ = sg (fun i => (zs.getD i 0).toNat * G i) k + (zs.getD k 0).toNat * G k
    split
    · rw [Cf.sum_append, ih]
      have e : Cf.sum (fun p : Nt => p.1 * G (sy p.2)) [((zs.getD k 0).toNat, Tr.leaf k)] = (zs.getD k 0).toNat * G k := by simp [Cf.sum, sy]
      rw [e]
    · rw [ih, show (zs.getD k 0).toNat = 0 by omega]
      omega
theorem init_wc (zs : List Int) : ∀ k, Cf.sum (fun p : Nt => wc zs p.2) (initT zs k) = 0
  | 0 => rfl
  | k + 1 => by
    unfold initT
    split
    · rw [Cf.sum_append, init_wc zs k]; rfl
    · exact init_wc zs k
theorem sy_lt (zs : List Int) (k : Nat) {p : Nt} (hp : p ∈ initT zs k) : sy p.2 < k := by
  induction k with
  | zero => simp [initT] at hp
  | succ k ih =>
    unfold initT at hp
    split at hp
    · rcases List.mem_append.1 hp with hp | hp
      · exact Nat.lt_succ_of_lt (ih hp)
      · rw [List.mem_singleton.1 hp]; exact Nat.lt_succ_self k
    · exact Nat.lt_succ_of_lt (ih hp)
/-- no code is cheaper -/
theorem best {zs : List Int} {F G : Nat → Nat} (hF : IsLens zs F) (h15 : ∀ i, i < zs.length → G i ≤ 15) (hpos : ∀ i, i < zs.length → 0 < zs.getD i 0 → 0 < G i) (hK : sg (fun i => Cd.part ((G i : Nat) : Int)) zs.length ≤ 32768) :
    sg (fun i => (zs.getD i 0).toNat * F i) zs.length ≤ sg (fun i => (zs.getD i 0).toNat * G i) zs.length := by
  rcases hF with ⟨hn, rfl⟩ | ⟨o, t, j, hit, rfl⟩
  · refine sg_le (fun i _ => ?_)
    rw [Nat.mul_zero]; exact Nat.zero_le _
  · obtain ⟨hc, hs, hl⟩ := tree_syms hit
    match t, hit, hc, hs with
    | .leaf x, hit, hc, hs =>
      refine sg_le (fun i hi => Nat.mul_le_mul_left _ ?_)
      show (if i = x then 1 else 0) ≤ G i
      split
      · rename_i e
        exact hpos i hi ((hs i).1 (by simp [syms, e])).2
      · exact Nat.zero_le _
    | .node l r, hit, hc, hs =>
      have ef : ∀ i, topT (.node l r) i = if i ∈ syms (.node l r) then 0 + dep (.node l r) i else 0 := fun i => by
        show Go.Proofs.YtejebodgfoihkabGreat.tell (.node l r) 0 (fun _ => 0) i = _
        rw [tell_is (hc i)]
      have hC := cost_tree zs zs.length (.node l r) 0 hc (fun s hx => ((hs s).1 hx).1)
      have hC2 : sg (fun i => (zs.getD i 0).toNat * topT (.node l r) i) zs.length = wc zs (.node l r) := by
        rw [Nat.mul_zero, Nat.add_zero] at hC
        rw [← hC]
        exact sg_same (fun i _ => by rw [ef])
      have hL : Least zs (wc zs (.node l r)) (initT zs zs.length) := least_iter (init_wts zs zs.length) j (by
        rw [hit]
        intro D _
        have e : Cf.sum (fun p : Nt => wc zs p.2) [(o, Tr.node l r)] = wc zs (.node l r) := by simp [Cf.sum]
        rw [e]
        exact Nat.le_add_right _ _)
      have k1 := sg_list (fun p : Nt => 2 ^ (15 - G (sy p.2))) (0, .leaf 0) (initT zs zs.length)
      have k2 := sg_list (fun p : Nt => p.1 * G (sy p.2)) (0, .leaf 0) (initT zs zs.length)
      have h9 := hL (fun i => G (sy (tAt (initT zs zs.length) i))) ⟨fun i hi => h15 _ (sy_lt zs zs.length (by rw [getD_at hi]; exact List.getElem_mem hi)), by
        have h1 := init_kraft (zs := zs) (G := G) zs.length hpos
        show sg (fun i => 2 ^ (15 - G (sy ((initT zs zs.length).getD i (0, .leaf 0)).2))) _ ≤ _
        rw [k1]
        exact Nat.le_trans h1 hK⟩
      rw [init_wc, Nat.zero_add] at h9
      rw [hC2]
      refine Nat.le_trans h9 ?_
      show sg (fun i => ((initT zs zs.length).getD i (0, .leaf 0)).1 * G (sy ((initT zs zs.length).getD i (0, .leaf 0)).2)) _ ≤ _
      rw [k2, init_cost]
      exact Nat.le_refl _
end Ct
end Go.Proofs.YtejebodgfoihkabGreat

/- How deep a tree of so much weight can be, and how many bits lengths take that were halved (mathematics). -/
namespace Go.Proofs.YtejebodgfoihkabGreat
namespace Ct

def fb : Nat → Nat
  | 0 => 1
  | 1 => 2
  | n + 2 => fb n + fb (n + 1)
theorem fb_step (h : Nat) (h1 : 1 ≤ h) : fb (1 + h) = fb (h - 1) + fb h := by
  obtain ⟨k, rfl⟩ : ∃ k, h = k + 1 := ⟨h - 1, by omega⟩
  rw [show 1 + (k + 1) = k + 2 by omega]
  rfl
theorem fb_mono : ∀ n, fb n ≤ fb (n + 1)
  | 0 => by decide
  | n + 1 => by show fb (n + 1) ≤ fb n + fb (n + 1); omega
theorem fb_le {m n : Nat} (h : m ≤ n) : fb m ≤ fb n := by
  induction h with
  | refl => exact Nat.le_refl _
  | step _ ih => exact Nat.le_trans ih (fb_mono _)
/-- heights are paid by weights -/
structure Fib (ts : List Nt) : Prop where
  one : ∀ i, i < ts.length → fb (hgt (tAt ts i)) ≤ wAt ts i
  two : ∀ i k, i < ts.length → k < ts.length → made (tAt ts i) → fb (hgt (tAt ts i) - 1) ≤ wAt ts k
theorem made_of {t : Tr} (h : 1 ≤ hgt t) : made t := by
  cases t with
  | leaf s => simp [hgt] at h
  | node l r => trivial
theorem Fib.step {ts : List Nt} (h : Fib ts) {a b : Nat} (t : Two ts a b) : Fib (Ct.step ts) := by
  obtain ⟨_, lw, lt⟩ := step_last t
  have wa := h.one a t.la
  have wb := h.one b t.lb
  have hab := t.ab
  have hh : hgt (Tr.node (tAt ts a) (tAt ts b)) = 1 + Nat.max (hgt (tAt ts a)) (hgt (tAt ts b)) := rfl
  have e2 : ∀ {p q : Nat}, fb (Nat.max p q) ≤ Nat.max (fb p) (fb q) := fun {p q} => by
    rcases Nat.le_total p q with e | e
    · rw [show Nat.max p q = q from Nat.max_eq_right e]; exact Nat.le_max_right _ _
    · rw [show Nat.max p q = p from Nat.max_eq_left e]; exact Nat.le_max_left _ _
  have hm : fb (Nat.max (hgt (tAt ts a)) (hgt (tAt ts b))) ≤ wAt ts b := by
    refine Nat.le_trans e2 (Nat.max_le.2 ⟨Nat.le_trans wa hab, wb⟩)
  refine ⟨fun i hi => ?_, fun i k hi hk hmd => ?_⟩
  · rcases step_from t hi with ei | ⟨i', hi', ia, ib, wi, ti⟩
    · rw [ei, lw, lt, hh]
      by_cases h0 : Nat.max (hgt (tAt ts a)) (hgt (tAt ts b)) = 0
      · rw [h0]
        have : 1 ≤ wAt ts a := Nat.le_trans (fb_le (Nat.zero_le _)) wa
        show 2 ≤ _
        omega
      · rcases Nat.le_total (hgt (tAt ts a)) (hgt (tAt ts b)) with e | e
        · have em : Nat.max (hgt (tAt ts a)) (hgt (tAt ts b)) = hgt (tAt ts b) := Nat.max_eq_right e
          rw [em] at h0 ⊢
          rw [fb_step _ (by omega)]
          have := h.two b a t.lb t.la (made_of (by omega))
          omega
        · have em : Nat.max (hgt (tAt ts a)) (hgt (tAt ts b)) = hgt (tAt ts a) := Nat.max_eq_left e
          rw [em] at h0 ⊢
          rw [fb_step _ (by omega)]
          have := h.two a b t.la t.lb (made_of (by omega))
          omega
    · rw [wi, ti]; exact h.one i' hi'
  · rcases step_from t hi with ei | ⟨i', hi', ia, ib, wi, ti⟩
    · rw [ei, lt, hh, show 1 + Nat.max (hgt (tAt ts a)) (hgt (tAt ts b)) - 1 = Nat.max (hgt (tAt ts a)) (hgt (tAt ts b)) by omega]
      rcases step_from t hk with ek | ⟨k', hk', ka, kb, wk, _⟩
      · rw [ek, lw]; omega
      · rw [wk]
        have := t.mn k' hk' ka kb
        omega
    · rw [ti] at hmd ⊢
      rcases step_from t hk with ek | ⟨k', hk', ka, kb, wk, _⟩
      · rw [ek, lw]
        have := h.two i' a hi' t.la hmd
        omega
      · rw [wk]; exact h.two i' k' hi' hk' hmd
theorem fib_iter {ts : List Nt} (h : Fib ts) : ∀ j, Fib (iterT ts j)
  | 0 => h
  | j + 1 => by
    have ih := fib_iter h j
    show Fib (step (iterT ts j))
    by_cases hl : 1 < (iterT ts j).length
    · obtain ⟨a, b, t⟩ := two_of hl
      exact ih.step t
    · rcases step_cases (iterT ts j) with ⟨e, _⟩ | ⟨a, wa, b, wb, _, _, hab, ha, hb⟩
      · rw [e]; exact ih
      · omega
theorem init_fib_all (zs : List Int) : ∀ k, ∀ p ∈ initT zs k, 1 ≤ p.1 ∧ ∃ s, p.2 = .leaf s
  | 0, p, hp => by simp [initT] at hp
  | k + 1, p, hp => by
    unfold initT at hp
    split at hp
    · rcases List.mem_append.1 hp with hp | hp
      · exact init_fib_all zs k p hp
      · rw [List.mem_singleton.1 hp]; exact ⟨by show 1 ≤ (zs.getD k 0).toNat; omega, k, rfl⟩
    · exact init_fib_all zs k p hp
theorem init_fib (zs : List Int) (k : Nat) : Fib (initT zs k) := by
  have hx : ∀ i, i < (initT zs k).length → 1 ≤ wAt (initT zs k) i ∧ ∃ s, tAt (initT zs k) i = .leaf s := fun i hi => by
    unfold wAt tAt
    rw [getD_at hi]
    exact init_fib_all zs k _ (List.getElem_mem hi)
  refine ⟨fun i hi => ?_, fun i k hi _ hm => ?_⟩
  · obtain ⟨h1, s, h2⟩ := hx i hi
    rw [h2]; exact h1
  · obtain ⟨_, s, h2⟩ := hx i hi
    rw [h2] at hm
    exact absurd hm (fun h => h)
/-- how much comes in all -/
def tot9 (zs : List Int) : Nat := sg (fun i => (zs.getD i 0).toNat) zs.length
theorem init_tot (zs : List Int) : ∀ k, Cf.sum (fun p : Nt => p.1) (initT zs k) = sg (fun i => (zs.getD i 0).toNat) k
  | 0 => rfl
  | k + 1 => by
    have ih := init_tot zs k
    unfold initT
    show _ = sg (fun i => (zs.getD i 0).toNat) k + (zs.getD k 0).toNat
    split
    · rw [Cf.sum_append, ih]; simp [Cf.sum]
    · rw [ih]; omega
theorem step_tot (ts : List Nt) : Cf.sum (fun p : Nt => p.1) (step ts) = Cf.sum (fun p : Nt => p.1) ts := by
  rcases step_cases ts with ⟨h, _⟩ | ⟨a, wa, b, wb, h1, h2, hab, ha, hb⟩
  · rw [h]
  · have := step_sum (fun p : Nt => p.1) h1 h2 hab ha hb
    dsimp only at this
    omega
theorem iter_tot (ts : List Nt) : ∀ j, Cf.sum (fun p : Nt => p.1) (iterT ts j) = Cf.sum (fun p : Nt => p.1) ts
  | 0 => rfl
  | j + 1 => by
    show Cf.sum _ (step (iterT ts j)) = _
    rw [step_tot, iter_tot ts j]
/-- so little weight stands no deeper than 15 -/
theorem IsLens.low {zs : List Int} {F : Nat → Nat} (h : IsLens zs F) (ht : tot9 zs < 2584) : ∀ i, F i ≤ 15 := fun i => by
  rcases h with ⟨_, rfl⟩ | ⟨o, t, j, hit, rfl⟩
  · exact Nat.zero_le _
  · have h1 := (fib_iter (init_fib zs zs.length) j).one 0 (by rw [hit]; exact Nat.zero_lt_one)
    have h2 := iter_tot (initT zs zs.length) j
    rw [hit] at h1 h2
    rw [init_tot] at h2
    have e1 : wAt [(o, t)] 0 = o := rfl
    have e2 : tAt [(o, t)] 0 = t := rfl
    have e3 : Cf.sum (fun p : Nt => p.1) [(o, t)] = o := by simp [Cf.sum]
    rw [e1, e2] at h1
    rw [e3] at h2
    have h3 : hgt t ≤ 15 := by
      rcases Nat.lt_or_ge 15 (hgt t) with q | q
      · have h4 : fb 16 ≤ fb (hgt t) := fb_le q
        have h5 : fb 16 = 2584 := by decide
        unfold tot9 at ht
        omega
      · exact q
    obtain ⟨hc, _, _⟩ := tree_syms hit
    cases t with
    | leaf s =>
      show (if i = s then 1 else 0) ≤ 15
      split <;> omega
    | node l r =>
      show Go.Proofs.YtejebodgfoihkabGreat.tell (.node l r) 0 (fun _ => 0) i ≤ 15
      rw [tell_is (hc i)]
      split
      · have := dep_hgt (hc i); omega
      · omega
theorem half_nat {z : Int} (h : 0 ≤ z) : z.toNat ≤ 2 * (half z).toNat ∧ 2 * (half z).toNat ≤ z.toNat + 1 := by
  unfold half
  omega
theorem sg_mul (c : Nat) (g : Nat → Nat) : ∀ n, sg (fun i => c * g i) n = c * sg g n
  | 0 => rfl
  | n + 1 => by show sg (fun i => c * g i) n + c * g n = c * (sg g n + g n); rw [sg_mul c g n, Nat.mul_add]
theorem sg_const (c : Nat) : ∀ n, sg (fun _ => c) n = n * c
  | 0 => by simp [sg]
  | n + 1 => by show sg (fun _ => c) n + c = (n + 1) * c; rw [sg_const c n, Nat.add_mul, Nat.one_mul]
theorem tot_half {zs : List Int} (h : ∀ i, i < zs.length → 0 ≤ zs.getD i 0) : 2 * tot9 (hv zs) ≤ tot9 zs + zs.length := by
  unfold tot9
  rw [hv_len, ← sg_mul]
  have h1 := sg_add (fun i => (zs.getD i 0).toNat) (fun _ => 1) zs.length
  rw [sg_const, Nat.mul_one] at h1
  rw [← h1]
  exact sg_le (fun i hi => by rw [hv_get hi]; exact (half_nat (h i hi)).2)
def bits (zs : List Int) (F : Nat → Nat) : Nat := sg (fun i => (zs.getD i 0).toNat * F i) zs.length
theorem bits_half {zs : List Int} {F : Nat → Nat} (h : ∀ i, i < zs.length → 0 ≤ zs.getD i 0) : bits zs F ≤ 2 * bits (hv zs) F := by
  unfold bits
  rw [hv_len, ← sg_mul]
  exact sg_le (fun i hi => by
    rw [hv_get hi, ← Nat.mul_assoc]
    exact Nat.mul_le_mul_right _ (half_nat (h i hi)).1)
/-- of so few symbols none takes more than c bits, all in all -/
theorem bits_flat {zs : List Int} {F : Nat → Nat} (hF : IsLens zs F) {c : Nat} (hc : 0 < c) (h15 : c ≤ 15) (hn : zs.length * 2 ^ (15 - c) ≤ 32768) : bits zs F ≤ c * tot9 zs := by
  have h := best (G := fun _ => c) hF (fun _ _ => h15) (fun _ _ _ => hc) (by
    rw [sg_same (h := fun _ => 2 ^ (15 - c)) (fun i _ => part_nat c hc), sg_const]
    exact hn)
  unfold bits tot9
  rw [← sg_mul]
  refine Nat.le_trans h (Nat.le_of_eq (sg_same (fun i _ => Nat.mul_comm _ _)))
theorem hv_pos {zs : List Int} (h : ∀ i, i < zs.length → 0 ≤ zs.getD i 0) : ∀ i, i < (hv zs).length → 0 ≤ (hv zs).getD i 0 := fun i hi => by
  rw [hv_len] at hi
  rw [hv_get hi]
  have := h i hi
  unfold half
  omega
/-- how many bits all symbols take at most: of 286 symbols -/
theorem Fits.bits {zs : List Int} {F : Nat → Nat} (h : Fits 15 zs F) (hp : ∀ i, i < zs.length → 0 ≤ zs.getD i 0) (hn : zs.length ≤ 300) (ht : tot9 zs ≤ 5001) : Ct.bits zs F ≤ 9 * tot9 zs + 27 * zs.length := by
  have h9 : ∀ {ys : List Int}, ys.length ≤ 300 → ys.length * 2 ^ (15 - 9) ≤ 32768 := fun {ys} hy => by
    show ys.length * 64 ≤ _
    omega
  cases h with
  | stop h1 _ =>
    have := bits_flat h1 (c := 9) (by omega) (by omega) (h9 hn)
    omega
  | more h1 h2 h3 =>
    have t1 := tot_half hp
    have b1 := bits_half (F := F) hp
    cases h3 with
    | stop g1 _ =>
      have := bits_flat g1 (c := 9) (by omega) (by omega) (h9 (by rw [hv_len]; exact hn))
      omega
    | more g1 g2 g3 =>
      have t2 := tot_half (hv_pos hp)
      have b2 := bits_half (F := F) (hv_pos hp)
      rw [hv_len] at t2
      cases g3 with
      | stop k1 _ =>
        have := bits_flat k1 (c := 9) (by omega) (by omega) (h9 (by rw [hv_len, hv_len]; exact hn))
        omega
      | more k1 k2 _ =>
        obtain ⟨i, hi, hlt⟩ := k2
        have := k1.low (by omega) i
        omega
/-- so little comes in all: none is halved -/
theorem Fits.few {zs : List Int} {F : Nat → Nat} (h : Fits 15 zs F) (ht : tot9 zs < 2584) : IsLens zs F := by
  cases h with
  | stop h1 _ => exact h1
  | more h1 h2 _ =>
    obtain ⟨i, hi, hlt⟩ := h2
    have := h1.low ht i
    omega
end Ct
end Go.Proofs.YtejebodgfoihkabGreat
