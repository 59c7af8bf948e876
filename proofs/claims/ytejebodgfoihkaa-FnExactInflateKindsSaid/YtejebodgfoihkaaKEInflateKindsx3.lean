/- Texts laid together: NsAll, NfTop, NfKinds, ExInflateKinds. -/
import Derived.Test.YtejebodgfoihkaaVEInflateKindsNsOwn
import Derived.Test.YtejebodgfoihkaaKEInflateKindsx2
import Derived.Deep.QuietTactic
import Derived.RangeFuncBox
import Derived.Shelf.Abstract
import Derived.Test.YtejebodgfoihkaaKEInflateKindsx0
/- All blocks of a text, in the specification. -/
namespace Go.Proofs.Ytejebodgfoihkaa
open Go.RowKit

theorem OwnI.lst {w : World} {B n c R : Nat} {a : Option Addr} {l : List Int} (h : OwnI w B (.slice a n c) n l) (hR : R < B) : Lst w R a l := by
  have hl := h.len
  rcases h.2 with ⟨e, h0⟩ | ⟨g, cap', cur, e, hB, hg, hnc, hx⟩
  · exact .inl (List.eq_nil_of_length_eq_zero (by omega))
  · cases e
    refine .inr ⟨g, 0, cur, _, rfl, by omega, hg, fun i hi => ?_⟩
    have := World.ownsRow.cellAt (show World.ownsRow _ _ _ _ _ _ _ from h) i (by omega)
    simp only [World.cell?, hg] at this
    rw [Nat.zero_add]
    rw [intsV_get l i hi] at this
    exact this
/-- a measure: the bits that are left, 0 behind the last block and once a code is noted -/
def alOf (R M : Nat) (la : Value) (w : World) : Nat :=
  match la with
  | .int _ v => if v = 0 then stOf R M w else 0
  | _ => 0
theorem alOf_go {w : World} {R base p lim M : Nat} {s : ByteArray} {l : List UInt8} {vk : Value} (h : Sx w R base s p l lim 0 vk) : alOf R M (.int .i64 ((0 : Nat) : Int)) w = M - p + 1 := by
  unfold alOf
  exact stOf_go h
theorem alOf_le (R M : Nat) (la : Value) (w : World) : alOf R M la w ≤ stOf R M w := by
  unfold alOf
  split
  · split <;> omega
  · omega
/-- the loop of all -/
def AlInv (wr w : World) (R base : Nat) (s : ByteArray) (lim : Nat) (ANS : Except Nat ((List UInt8 × Nat) × List Int)) (f q d last : Nat) (L : List UInt8) (ks : List Int) (vk : Value) : Prop :=
  Sx wr R base s q L lim d vk ∧ Off R R base w wr ∧ base ≤ wr.heap.size ∧ ((d = 0 ∧ OwnI wr base vk ks.length ks ∧ q ≤ 8 * s.size ∧ L.length ≤ lim ∧ ((last = 0 ∧ ANS = Nf.all s lim f q L ks ∧ 8 * s.size - q < f ∧ ks.length + f ≤ 80000) ∨ (last ≠ 0 ∧ ANS = .ok ((L, q), ks)))) ∨ (d ≠ 0 ∧ ANS = .error d))
/-- how all ends -/
def SAll (w : World) (R base : Nat) (s : ByteArray) (lim : Nat) (ANS : Except Nat ((List UInt8 × Nat) × List Int)) (e : Ending) (w' : World) : Prop :=
  e = .returned (.tuple #[]) ∧ Off R R base w w' ∧ base ≤ w'.heap.size ∧ ((∃ L q ks vk, ANS = .ok ((L, q), ks) ∧ Sx w' R base s q L lim 0 vk ∧ OwnI w' base vk ks.length ks ∧ q ≤ 8 * s.size ∧ L.length ≤ lim) ∨ ∃ c p' l' vk, ANS = .error c ∧ c ≠ 0 ∧ Sx w' R base s p' l' lim c vk)

theorem AlInv.stop {wr w : World} {R base lim f q d last : Nat} {s : ByteArray} {ANS : Except Nat ((List UInt8 × Nat) × List Int)} {L : List UInt8} {ks : List Int} {vk : Value} (h : AlInv wr w R base s lim ANS f q d last L ks vk) (hs : d ≠ 0 ∨ last ≠ 0) : SAll w R base s lim ANS (.returned (.tuple #[])) wr := by
  refine ⟨rfl, h.2.1, h.2.2.1, ?_⟩
  rcases h.2.2.2 with ⟨e1, e2, e3, e4, e5⟩ | ⟨e1, e2⟩
  · subst e1
    rcases e5 with ⟨e5, _⟩ | ⟨e5, e6⟩
    · rcases hs with g | g
      · exact absurd rfl g
      · exact absurd e5 g
    · exact .inl ⟨L, q, ks, vk, e6, h.1, e2, e3, e4⟩
  · exact .inr ⟨d, q, L, vk, e2, e1, h.1⟩
/-- a block was read: what is still to come -/
theorem al_next {w5 w6 w : World} {R base lim f q last k : Nat} {s : ByteArray} {ANS : Except Nat ((List UInt8 × Nat) × List Int)} {L : List UInt8} {ks : List Int} {vk : Value} {e : Ending} (hR : R < base)
    (HA : ANS = Nf.all s lim (f + 1) q L ks ∧ Nf.nxt s 1 q = .ok last ∧ Nf.nxt s 2 (q + 1) = .ok k) (hO : OwnI w5 base vk (ks ++ [(k : Int)]).length (ks ++ [(k : Int)])) (hoff : Off R R base w w5) (hb : base ≤ w5.heap.size) (hL : L.length ≤ lim) (hf : 8 * s.size - q < f + 1) (hq : q + 3 ≤ 8 * s.size) (hn : ks.length + (f + 1) ≤ 80000)
    (h : SEnd (Nf.block s lim k (q + 3) L) w5 R base s lim vk e w6) :
    e = .returned (.tuple #[]) ∧ ∃ q2 d L2, AlInv w6 w R base s lim ANS f q2 d last L2 (ks ++ [(k : Int)]) vk ∧ stOf R (8 * s.size) w6 < 8 * s.size - q + 1 := by
  obtain ⟨he, h⟩ := h
  refine ⟨he, ?_⟩
  rcases h with ⟨L2, q2, h1, h2, h3, h4, h5⟩ | ⟨c, h1, h2, ⟨p', l', h3⟩, h4⟩
  · have hgo := block_go h1 hL
    refine ⟨q2, 0, L2, ⟨h2, hoff.trans (h3.off hb), Nat.le_trans hb h3.size, .inl ⟨rfl, h3.ownI hO hR, h4, h5, ?_⟩⟩, by rw [stOf_go h2]; omega⟩
    by_cases h0 : last = 0
    · refine .inl ⟨h0, ?_, by omega, by rw [List.length_append]; simp; omega⟩
      rw [HA.1]
      exact Nf.all_more (by rw [← h0]; exact HA.2.1) HA.2.2 h1
    · exact .inr ⟨h0, by rw [HA.1]; exact Nf.all_end HA.2.1 h0 HA.2.2 h1⟩
  · exact ⟨p', c, l', ⟨h3, hoff.trans (h4.off hb), Nat.le_trans hb h4.size, .inr ⟨h2, by rw [HA.1]; exact Nf.all_no3 HA.2.1 HA.2.2 h1⟩⟩, by rw [stOf_no h3 h2]; omega⟩

set_option maxHeartbeats 8000000 in
set_option maxRecDepth 20000 in
theorem sxAll_any (R base lim : Nat) (s : ByteArray) (w : World) (h : Sx w R base s 0 [] lim 0 (.slice none 0 0)) (hR : R < base) (hb : base ≤ w.heap.size) (hs : s.size ≤ 9000) (hlim : lim ≤ 5000) :
    Calls Try.prog 30 #[.pointer (some ⟨R, 0, none⟩)] w (SAll w R base s lim (Nf.inflate s lim)) := by
  obtain ⟨ANS, hANS⟩ : ∃ r, r = Nf.inflate s lim := ⟨_, rfl⟩
  rw [← hANS]
  have HX0 : Hid (AlInv w w R base s lim ANS Nf.fuel 0 0 0 [] [] (.slice none 0 0)) := ⟨h, Off.refl _ _ _ _, hb, .inl ⟨rfl, World.ownsRow_nil _ _ _ _, Nat.zero_le _, Nat.zero_le _, .inl ⟨rfl, hANS, by unfold Nf.fuel; omega, by unfold Nf.fuel; decide⟩⟩⟩
  have HR : Hid (R < base) := hR
  clear h hANS hb hR
  go_enter Try.func30, Try.ntmps30
  go_wp2_with fail
  go_loopw [2, 3] (fun la _k wr => ∃ (f q d last : Nat) (L : List UInt8) (ks : List Int) (vk : Value), la = .int .i64 (last : Int) ∧ Hid (AlInv wr w R base s lim ANS f q d last L ks vk)) (fun la _ wr => alOf R (8 * s.size) la wr)
  case atStart => exact ⟨_, 0, 0, 0, [], [], _, rfl, HX0⟩
  case round =>
    obtain ⟨f, q, d, last, L, ks, vk, rfl, HX⟩ := hrel
    clear HX0
    have c4 := HX.out.1.cells.2.2.2.1
    by_cases hl0 : last = 0
    · subst hl0
      by_cases hd : d = 0
      · subst hd
        replace c4 : wr.cell? ⟨R, 4, none⟩ = some (.int .i64 0) := c4
        have HP : Hid (OwnI wr base vk ks.length ks ∧ q ≤ 8 * s.size ∧ L.length ≤ lim ∧ ANS = Nf.all s lim f q L ks ∧ 8 * s.size - q < f ∧ ks.length + f ≤ 80000) := by
          rcases HX.out.2.2.2 with ⟨_, e2, e3, e4, e5⟩ | ⟨e1, _⟩
          · rcases e5 with ⟨_, e5⟩ | ⟨e5, _⟩
            · exact ⟨e2, e3, e4, e5⟩
            · exact absurd rfl e5
          · exact absurd rfl e1
        obtain ⟨f2, hf2⟩ : ∃ f2, f = f2 + 1 := ⟨f - 1, by have := HP.out.2.2.2.2.1; omega⟩
        subst hf2
        have HAL : Hid (alOf R (8 * s.size) (.int .i64 ((0 : Nat) : Int)) wr = 8 * s.size - q + 1) := alOf_go HX.out.1
        have HN1 : Hid (Calls Try.prog 42 #[.pointer (some ⟨R, 0, none⟩), .int .i64 1] wr (SBits wr R base s q 1 L lim vk)) := sxBits_any R base q 1 lim L vk s wr HX.out.1 hs HP.out.2.1 (by omega)
        have HOF : Hid (Off R R base w wr ∧ base ≤ wr.heap.size) := ⟨HX.out.2.1, HX.out.2.2.1⟩
        clear HX
        go_wp2_with fail
        refine HN1.out.mono ?_
        rintro e w1 (⟨last, hv, rfl, h2, h3⟩ | ⟨hv, rfl, h2, h3⟩)
        · have HN2 : Hid (Calls Try.prog 42 #[.pointer (some ⟨R, 0, none⟩), .int .i64 2] w1 (SBits w1 R base s (q + 1) 2 L lim vk)) := sxBits_any R base (q + 1) 2 lim L vk s w1 h2 hs (Nf.nxt_ok hv).1 (by omega)
          have HV : Hid (Nf.nxt s 1 q = .ok last ∧ InF R base wr w1) := ⟨hv, InF.of_only h3⟩
          clear hv h2 h3 HN1 c4
          go_wp2_with fail
          refine HN2.out.mono ?_
          rintro e w2 (⟨k, hv, rfl, h2, h3⟩ | ⟨hv, rfl, h2, h3⟩)
          · have hk4 : k < 4 := (Nf.nxt_ok hv).2.2
            have HQ : Hid (q + 3 ≤ 8 * s.size) := (Nf.nxt_ok hv).1
            have HF2 : Hid (InF R base wr w2) := HV.out.2.trans (InF.of_only h3)
            have HA : Hid (ANS = Nf.all s lim (f2 + 1) q L ks ∧ Nf.nxt s 1 q = .ok last ∧ Nf.nxt s 2 (q + 1) = .ok k) := ⟨HP.out.2.2.2.1, HV.out.1, hv⟩
            have hO2 := HF2.out.ownI HP.out.1 HR.out
            obtain ⟨n, hn⟩ : ∃ n, n = ks.length := ⟨_, rfl⟩
            rw [← hn] at hO2
            have HNK : Hid (n = ks.length) := hn
            obtain ⟨ao, cap, rfl, _⟩ := hO2.owns
            have HI2 : Hid (Sx w2 R base s (q + 3) L lim 0 (.slice ao n cap) ∧ OwnI w2 base (.slice ao n cap) n ks ∧ base ≤ w2.heap.size ∧ Off R R base w w2) := ⟨h2, hO2, Nat.le_trans HOF.out.2 HF2.out.size, HOF.out.1.trans (HF2.out.off HOF.out.2)⟩
            have c4 : w2.cell? ⟨R, 4, none⟩ = some (.int .i64 0) := h2.cells.2.2.2.1
            have c5 := h2.cells.2.2.2.2
            have hb2 := HI2.out.2.2.1
            have hnb : n ≤ 100000 := by have := HP.out.2.2.2.2.2; omega
            have HL : Hid (L.length ≤ lim ∧ 8 * s.size - q < f2 + 1 ∧ ks.length + (f2 + 1) ≤ 80000) := ⟨HP.out.2.2.1, HP.out.2.2.2.2.1, HP.out.2.2.2.2.2⟩
            clear hv h2 h3 HN2 hO2 HF2 HV HP hn HOF
            go_wp2_with (at_builtin; refine wpList_app1 w2 (by rfl) _ _ (by rfl) base _ n ks (k : Int) (by rfl) HI2.out.2.1 (by rfl) (by omega) hb2 ?_)
            intro g4 cap4 w4 hown4 hg4
            have hI4 := HI2.out.1.beside HI2.out.2.1 hg4.block
            have k5 := hI4.cells.2.2.2.2
            have f5 := hI4.froz 5
            obtain ⟨w5, hw5⟩ : ∃ w5, w5 = w4.setCell ⟨R, 5, none⟩ (.slice (some ⟨g4, 0, none⟩) (n + 1) cap4) := ⟨_, rfl⟩
            have HI5 : Hid (Sx w5 R base s (q + 3) L lim 0 (.slice (some ⟨g4, 0, none⟩) (n + 1) cap4) ∧ OwnI w5 base (.slice (some ⟨g4, 0, none⟩) (n + 1) cap4) (ks ++ [(k : Int)]).length (ks ++ [(k : Int)]) ∧ base ≤ w5.heap.size ∧ Off R R base w w5) := by
              have hs5 := hI4.setKinds (.slice (some ⟨g4, 0, none⟩) (n + 1) cap4)
              rw [← hw5] at hs5
              have hF5 : InF R base w4 w5 := InF.of_only hs5.2
              have hbs : base ≤ w4.heap.size := Nat.le_trans hb2 hg4.size
              have hoff4 : Off R R base w2 w4 := ⟨hg4.os, hg4.tape, hg4.output, hg4.size, fun kk hk _ _ => hg4.block kk (by omega) (fun e => by have := (hg4.own kk e.symm).1; omega)⟩
              refine ⟨hs5.1, ?_, Nat.le_trans hbs hF5.size, (HI2.out.2.2.2.trans hoff4).trans (hF5.off hbs)⟩
              rw [List.length_append, ← HNK.out]
              exact hF5.ownI hown4 HR.out
            clear hI4 hown4 hg4 HI2 hb2 c4 c5
            go_upto_region 6 with fail
            rw [← hw5]
            clear hw5 k5 f5
            have hk4' : k = 0 ∨ k = 1 ∨ k = 2 ∨ k = 3 := by omega
            rcases hk4' with rfl | rfl | rfl | rfl
            · have HNX : Hid (∀ e w6, SEnd (Nf.block s lim 0 (q + 3) L) w5 R base s lim (.slice (some ⟨g4, 0, none⟩) (n + 1) cap4) e w6 → e = .returned (.tuple #[]) ∧ ∃ q2 d L2, AlInv w6 w R base s lim ANS f2 q2 d last L2 (ks ++ [((0 : Nat) : Int)]) (.slice (some ⟨g4, 0, none⟩) (n + 1) cap4) ∧ stOf R (8 * s.size) w6 < 8 * s.size - q + 1) := fun e w6 h => al_next HR.out HA.out HI5.out.2.1 HI5.out.2.2.2 HI5.out.2.2.1 HL.out.1 HL.out.2.1 HQ.out HL.out.2.2 h
              have HBK : Hid (Calls Try.prog 43 #[.pointer (some ⟨R, 0, none⟩)] w5 (SEnd (Nf.block s lim 0 (q + 3) L) w5 R base s lim (.slice (some ⟨g4, 0, none⟩) (n + 1) cap4))) := sxStored_any R base (q + 3) lim L _ s w5 HI5.out.1 HI5.out.2.2.1 hs HQ.out HL.out.1 hlim
              clear HL HQ HA
              go_wp2_with fail
              refine HBK.out.mono ?_
              intro e w6 hend
              obtain ⟨he, q2, d, L2, hinv, hst⟩ := HNX.out _ _ hend
              subst he
              have HF : Hid (AlInv w6 w R base s lim ANS f2 q2 d last L2 (ks ++ [((0 : Nat) : Int)]) (.slice (some ⟨g4, 0, none⟩) (n + 1) cap4)) := hinv
              have HST : Hid (stOf R (8 * s.size) w6 < 8 * s.size - q + 1) := hst
              clear hend hinv hst HBK HI5 HNX
              go_wp2_with fail
              go_roundw
              case rel => exact ⟨f2, q2, d, last, L2, _, _, rfl, HF⟩
              case measure => rw [HAL.out]; exact Nat.lt_of_le_of_lt (alOf_le _ _ _ _) HST.out
            · have HNX : Hid (∀ e w6, SEnd (Nf.block s lim 1 (q + 3) L) w5 R base s lim (.slice (some ⟨g4, 0, none⟩) (n + 1) cap4) e w6 → e = .returned (.tuple #[]) ∧ ∃ q2 d L2, AlInv w6 w R base s lim ANS f2 q2 d last L2 (ks ++ [((1 : Nat) : Int)]) (.slice (some ⟨g4, 0, none⟩) (n + 1) cap4) ∧ stOf R (8 * s.size) w6 < 8 * s.size - q + 1) := fun e w6 h => al_next HR.out HA.out HI5.out.2.1 HI5.out.2.2.2 HI5.out.2.2.1 HL.out.1 HL.out.2.1 HQ.out HL.out.2.2 h
              have HFX : Hid (Calls Try.prog 45 #[] w5 fun e w' => (∃ a c, e = .returned (.slice a 288 c) ∧ OwnI w' w5.heap.size (.slice a 288 c) 288 Df.fixS) ∧ Below w5.heap.size w5 w') := l4Fixed_any w5
              have HBK : Hid (∀ (a b : Option Addr) (ca cb : Nat) (w7 : World), Below w5.heap.size w5 w7 → Lst w7 R a Df.fixS → Lst w7 R b Df.fixD → Calls Try.prog 44 #[.pointer (some ⟨R, 0, none⟩), .slice a 288 ca, .slice b 32 cb] w7 (SEnd (Nf.block s lim 1 (q + 3) L) w5 R base s lim (.slice (some ⟨g4, 0, none⟩) (n + 1) cap4))) := fun a b ca cb w7 h7 ha hb => by
                refine (sxBody_any R base (q + 3) lim 288 32 ca cb a b L _ s Df.fixS Df.fixD w7 (HI5.out.1.kept h7) (Nat.le_trans HI5.out.2.2.1 h7.size) hs HQ.out HL.out.1 hlim ha hb Df.fixS_len Df.fixD_len fixS_good fixD_good (by omega) (by omega)).mono ?_
                rintro e w' ⟨rfl, hend⟩
                refine ⟨rfl, ?_⟩
                rcases hend with ⟨L2, q2, g1, g2, g3, g4⟩ | ⟨c2, g1, g2, g3, g4⟩
                · exact .inl ⟨L2, q2, g1, g2, (InF.of_below h7).trans g3, g4⟩
                · exact .inr ⟨c2, g1, g2, g3, (InF.of_below h7).trans g4⟩
              have HRL : Hid (R < w5.heap.size) := HI5.out.1.lt
              clear HL HQ HA
              go_wp2_with fail
              refine HFX.out.mono ?_
              rintro e w7 ⟨⟨a7, c7, rfl, hq7⟩, b7⟩
              have HL7 : Hid (Lst w7 R a7 Df.fixS ∧ Below w5.heap.size w5 w7) := ⟨hq7.lst HRL.out, b7⟩
              have HSA : Hid (Calls Try.prog 46 #[.int .i64 5, .int .i64 32] w7 fun e w' => (∃ a c, e = .returned (.slice a 32 c) ∧ OwnI w' w7.heap.size (.slice a 32 c) 32 Df.fixD) ∧ Below w7.heap.size w7 w') := l4Same_any 5 32 (by omega) w7
              clear hq7 b7 HFX
              go_wp2_with fail
              refine HSA.out.mono ?_
              rintro e w8 ⟨⟨a8, c8, rfl, hq8⟩, b8⟩
              have HB8 : Hid (Calls Try.prog 44 #[.pointer (some ⟨R, 0, none⟩), .slice a7 288 c7, .slice a8 32 c8] w8 (SEnd (Nf.block s lim 1 (q + 3) L) w5 R base s lim (.slice (some ⟨g4, 0, none⟩) (n + 1) cap4))) := HBK.out a7 a8 c7 c8 w8 (HL7.out.2.trans (b8.mono HL7.out.2.size)) (HL7.out.1.kept b8) (hq8.lst (Nat.lt_of_lt_of_le HRL.out HL7.out.2.size))
              clear hq8 b8 HSA HL7
              go_wp2_with fail
              refine HB8.out.mono ?_
              intro e w6 hend
              clear HB8
              obtain ⟨he, q2, d, L2, hinv, hst⟩ := HNX.out _ _ hend
              subst he
              have HF : Hid (AlInv w6 w R base s lim ANS f2 q2 d last L2 (ks ++ [((1 : Nat) : Int)]) (.slice (some ⟨g4, 0, none⟩) (n + 1) cap4)) := hinv
              have HST : Hid (stOf R (8 * s.size) w6 < 8 * s.size - q + 1) := hst
              clear hend hinv hst HBK HI5 HNX
              go_wp2_with fail
              go_roundw
              case rel => exact ⟨f2, q2, d, last, L2, _, _, rfl, HF⟩
              case measure => rw [HAL.out]; exact Nat.lt_of_le_of_lt (alOf_le _ _ _ _) HST.out
            · have HNX : Hid (∀ e w6, SEnd (Nf.block s lim 2 (q + 3) L) w5 R base s lim (.slice (some ⟨g4, 0, none⟩) (n + 1) cap4) e w6 → e = .returned (.tuple #[]) ∧ ∃ q2 d L2, AlInv w6 w R base s lim ANS f2 q2 d last L2 (ks ++ [((2 : Nat) : Int)]) (.slice (some ⟨g4, 0, none⟩) (n + 1) cap4) ∧ stOf R (8 * s.size) w6 < 8 * s.size - q + 1) := fun e w6 h => al_next HR.out HA.out HI5.out.2.1 HI5.out.2.2.2 HI5.out.2.2.1 HL.out.1 HL.out.2.1 HQ.out HL.out.2.2 h
              have HBK : Hid (Calls Try.prog 47 #[.pointer (some ⟨R, 0, none⟩)] w5 (SEnd (Nf.block s lim 2 (q + 3) L) w5 R base s lim (.slice (some ⟨g4, 0, none⟩) (n + 1) cap4))) := sxOwn_any R base (q + 3) lim L _ s w5 HI5.out.1 HI5.out.2.2.1 hs HQ.out HL.out.1 hlim
              clear HL HQ HA
              go_wp2_with fail
              refine HBK.out.mono ?_
              intro e w6 hend
              obtain ⟨he, q2, d, L2, hinv, hst⟩ := HNX.out _ _ hend
              subst he
              have HF : Hid (AlInv w6 w R base s lim ANS f2 q2 d last L2 (ks ++ [((2 : Nat) : Int)]) (.slice (some ⟨g4, 0, none⟩) (n + 1) cap4)) := hinv
              have HST : Hid (stOf R (8 * s.size) w6 < 8 * s.size - q + 1) := hst
              clear hend hinv hst HBK HI5 HNX
              go_wp2_with fail
              go_roundw
              case rel => exact ⟨f2, q2, d, last, L2, _, _, rfl, HF⟩
              case measure => rw [HAL.out]; exact Nat.lt_of_le_of_lt (alOf_le _ _ _ _) HST.out
            · have HNX : Hid (∀ e w6, SEnd (Nf.block s lim 3 (q + 3) L) w5 R base s lim (.slice (some ⟨g4, 0, none⟩) (n + 1) cap4) e w6 → e = .returned (.tuple #[]) ∧ ∃ q2 d L2, AlInv w6 w R base s lim ANS f2 q2 d last L2 (ks ++ [((3 : Nat) : Int)]) (.slice (some ⟨g4, 0, none⟩) (n + 1) cap4) ∧ stOf R (8 * s.size) w6 < 8 * s.size - q + 1) := fun e w6 h => al_next HR.out HA.out HI5.out.2.1 HI5.out.2.2.2 HI5.out.2.2.1 HL.out.1 HL.out.2.1 HQ.out HL.out.2.2 h
              have HBK : Hid (Calls Try.prog 48 #[.pointer (some ⟨R, 0, none⟩), .int .i64 1] w5 (SEnd (Nf.block s lim 3 (q + 3) L) w5 R base s lim (.slice (some ⟨g4, 0, none⟩) (n + 1) cap4))) := by
                refine (sxFail_new R base (q + 3) lim 1 L _ s w5 HI5.out.1).mono ?_
                rintro e w' ⟨rfl, h2, h3⟩
                exact SEnd.no rfl (by decide) h2 (InF.of_only h3)
              clear HL HQ HA
              go_wp2_with fail
              refine HBK.out.mono ?_
              intro e w6 hend
              obtain ⟨he, q2, d, L2, hinv, hst⟩ := HNX.out _ _ hend
              subst he
              have HF : Hid (AlInv w6 w R base s lim ANS f2 q2 d last L2 (ks ++ [((3 : Nat) : Int)]) (.slice (some ⟨g4, 0, none⟩) (n + 1) cap4)) := hinv
              have HST : Hid (stOf R (8 * s.size) w6 < 8 * s.size - q + 1) := hst
              clear hend hinv hst HBK HI5 HNX
              go_wp2_with fail
              go_roundw
              case rel => exact ⟨f2, q2, d, last, L2, _, _, rfl, HF⟩
              case measure => rw [HAL.out]; exact Nat.lt_of_le_of_lt (alOf_le _ _ _ _) HST.out
          · have HE : Hid (SAll w R base s lim ANS (.returned (.tuple #[])) w2) := ⟨rfl, HOF.out.1.trans ((HV.out.2.trans (InF.of_only h3)).off HOF.out.2), Nat.le_trans HOF.out.2 (HV.out.2.trans (InF.of_only h3)).size, .inr ⟨2, _, _, _, by rw [HP.out.2.2.2.1]; exact Nf.all_no2 HV.out.1 hv, by decide, h2⟩⟩
            have c4 : w2.cell? ⟨R, 4, none⟩ = some (.int .i64 2) := h2.cells.2.2.2.1
            clear hv h2 h3 HN2 HV HP HOF
            go_wp2_with fail
            refine bodyPost_ret (v := .tuple #[]) (by simp [results, Try.results30, go_sem]) rfl ?_
            exact HE.out
        · have HE1 : Hid (SAll w R base s lim ANS (.returned (.tuple #[])) w1) := ⟨rfl, HOF.out.1.trans ((InF.of_only h3).off HOF.out.2), Nat.le_trans HOF.out.2 h3.below.size, .inr ⟨2, _, _, _, by rw [HP.out.2.2.2.1]; exact Nf.all_no1 hv, by decide, h2⟩⟩
          have HBO : Hid (Calls Try.prog 42 #[.pointer (some ⟨R, 0, none⟩), .int .i64 2] w1 fun e w' => e = .returned (.int .i64 0) ∧ ∃ m, w' = w1.drewN m) := sxBits_old R base q lim 2 2 L vk s w1 h2 (by decide)
          have c4' : w1.cell? ⟨R, 4, none⟩ = some (.int .i64 2) := h2.cells.2.2.2.1
          clear hv h2 h3 HN1 HP HOF c4
          go_wp2_with fail
          refine HBO.out.mono ?_
          rintro e w2 ⟨rfl, m, rfl⟩
          have c4 : (w1.drewN m).cell? ⟨R, 4, none⟩ = some (.int .i64 2) := c4'
          have HE : Hid (SAll w R base s lim ANS (.returned (.tuple #[])) (w1.drewN m)) := by
            obtain ⟨e1, e2, e3, e4⟩ := HE1.out
            refine ⟨e1, e2.drewN m, e3, ?_⟩
            rcases e4 with ⟨L2, q2, ks2, vk2, g1, g2, g3, g4⟩ | ⟨c, p', l', vk2, g1, g2, g3⟩
            · exact .inl ⟨L2, q2, ks2, vk2, g1, g2.drewN m, g3.drewN m, g4⟩
            · exact .inr ⟨c, p', l', vk2, g1, g2, g3.drewN m⟩
          clear c4' HE1 HBO
          generalize w1.drewN m = w2 at *
          go_wp2_with fail
          refine bodyPost_ret (v := .tuple #[]) (by simp [results, Try.results30, go_sem]) rfl ?_
          exact HE.out
      · have hdi : ¬ (d : Int) = 0 := by omega
        have HE : Hid (SAll w R base s lim ANS (.returned (.tuple #[])) wr) := HX.out.stop (.inl hd)
        clear HX
        go_wp2_with fail
        go_end0
        exact HE.out
    · have hli : ¬ (last : Int) = 0 := by omega
      have hlb : ((last : Int) == 0) = false := by simp; omega
      have HE : Hid (SAll w R base s lim ANS (.returned (.tuple #[])) wr) := HX.out.stop (.inr hl0)
      clear HX c4
      go_wp2_with fail
      go_end0
      exact HE.out

set_option maxHeartbeats 2000000 in
theorem l4Inflate_any (lim : Nat) (s : ByteArray) (w : World) (hs : s.size ≤ 9000) (hlim : lim ≤ 5000) :
    Calls Try.prog 18 #[.string s, .int .i64 (lim : Int)] w fun e w' => e = .returned (.pointer (some ⟨w.heap.size, 0, none⟩)) ∧ Below w.heap.size w w' ∧ ((∃ L q ks vk, Nf.inflate s lim = .ok ((L, q), ks) ∧ Sx w' w.heap.size (w.heap.size + 1) s q L lim 0 vk ∧ OwnI w' (w.heap.size + 1) vk ks.length ks ∧ q ≤ 8 * s.size ∧ L.length ≤ lim) ∨ ∃ c p' l' vk, Nf.inflate s lim = .error c ∧ c ≠ 0 ∧ Sx w' w.heap.size (w.heap.size + 1) s p' l' lim c vk) := by
  obtain ⟨W0, hW0⟩ : ∃ W0, W0 = w.alloc (.cells #[.string s, .int .i64 0, .int .i64 (lim : Int), .slice none 0 0, .int .i64 0, .slice none 0 0] 39) := ⟨_, rfl⟩
  obtain ⟨R, hR⟩ : ∃ R, R = w.heap.size := ⟨_, rfl⟩
  have hz : W0.heap.size = R + 1 := by rw [hW0, World.size_alloc, hR]
  have b0 : Below w.heap.size w W0 := by rw [hW0]; exact (Below.refl _ _).alloc (Nat.le_refl _) _
  have hx : Sx W0 R (R + 1) s 0 [] lim 0 (.slice none 0 0) := ⟨.slice none 0 0, by rw [hW0, hR]; exact heap_alloc_new _ _, World.ownsRow_nil _ _ _ _⟩
  have HAL : Hid (Calls Try.prog 30 #[.pointer (some ⟨R, 0, none⟩)] W0 (SAll W0 R (R + 1) s lim (Nf.inflate s lim))) := sxAll_any R (R + 1) lim s W0 hx (by omega) (by omega) hs hlim
  have HB : Hid (Below R w W0) := by rw [hR]; exact b0
  rw [← hR]
  clear hx hz b0
  go_enter Try.func18, Try.ntmps18
  go_wp2_with fail
  rw [← hW0, ← hR]
  clear hW0 hR
  refine HAL.out.mono ?_
  rintro e w1 ⟨rfl, h2, h3, h4⟩
  have HF : Hid (Below R w w1) := HB.out.trans (h2.below (Nat.le_refl _) (Nat.le_refl _) (by omega))
  have HG : Hid ((∃ L q ks vk, Nf.inflate s lim = .ok ((L, q), ks) ∧ Sx w1 R (R + 1) s q L lim 0 vk ∧ OwnI w1 (R + 1) vk ks.length ks ∧ q ≤ 8 * s.size ∧ L.length ≤ lim) ∨ ∃ c p' l' vk, Nf.inflate s lim = .error c ∧ c ≠ 0 ∧ Sx w1 R (R + 1) s p' l' lim c vk) := h4
  clear h2 h3 h4 HAL
  go_wp2_with fail
  go_ret
  exact ⟨rfl, HF.out, HG.out⟩
end Go.Proofs.Ytejebodgfoihkaa

/- What a packed text makes: both readers, whole. -/
namespace Go.Proofs.Ytejebodgfoihkaa
open Go.RowKit

namespace Nf
/-- what a text makes, if it and the limit are what they may be -/
def res (s : ByteArray) (lim : Int) : Except Nat ((List UInt8 × Nat) × List Int) := if s.size ≤ 9000 ∧ 0 ≤ lim ∧ lim ≤ 5000 then inflate s lim.toNat else .error 1
theorem res_ok {s : ByteArray} {lim : Nat} (h : s.size ≤ 9000) (hl : lim ≤ 5000) : res s (lim : Int) = inflate s lim := by unfold res; rw [if_pos ⟨h, by omega, by omega⟩, Int.toNat_natCast]
theorem res_no {s : ByteArray} {lim : Int} (h : ¬ (s.size ≤ 9000 ∧ 0 ≤ lim ∧ lim ≤ 5000)) : res s lim = .error 1 := if_neg h
def out (r : Except Nat ((List UInt8 × Nat) × List Int)) : List UInt8 := match r with | .ok ((L, _), _) => L | .error _ => []
def code (r : Except Nat ((List UInt8 × Nat) × List Int)) : Nat := match r with | .ok _ => 0 | .error c => c
def kinds (r : Except Nat ((List UInt8 × Nat) × List Int)) : List Int := match r with | .ok (_, ks) => ks | .error _ => []
theorem all_kinds {s : ByteArray} {lim : Nat} : ∀ {f q : Nat} {l : List UInt8} {ks : List Int} {R : (List UInt8 × Nat) × List Int}, all s lim f q l ks = .ok R → R.2.length ≤ ks.length + f
  | 0, _, _, _, _, h => by cases h
  | f + 1, q, l, ks, R, h => by
    cases h1 : nxt s 1 q with
    | error c => rw [all_no1 h1] at h; cases h
    | ok last =>
      cases h2 : nxt s 2 (q + 1) with
      | error c => rw [all_no2 h1 h2] at h; cases h
      | ok k =>
        cases h3 : block s lim k (q + 3) l with
        | error c => rw [all_no3 h1 h2 h3] at h; cases h
        | ok r =>
          obtain ⟨l2, q2⟩ := r
          by_cases h0 : last = 0
          · subst h0
            rw [all_more h1 h2 h3] at h
            have := all_kinds h
            rw [List.length_append] at this
            simp only [List.length_cons, List.length_nil] at this
            omega
          · rw [all_end h1 h0 h2 h3] at h
            cases h
            rw [List.length_append]
            simp only [List.length_cons, List.length_nil]
            omega
theorem kinds_len (s : ByteArray) (lim : Int) : (kinds (res s lim)).length ≤ 72001 := by
  cases h : res s lim with
  | error c => exact Nat.zero_le _
  | ok R =>
    obtain ⟨x, ks⟩ := R
    show ks.length ≤ _
    unfold res at h
    split at h
    · have := all_kinds (R := (x, ks)) h
      unfold fuel at this
      simpa using this
    · cases h
end Nf

set_option maxHeartbeats 1000000 in
theorem newInflater_any (s : ByteArray) (lim : Int) (w : World) :
    Calls Try.prog 31 #[.string s, .int .i64 lim] w fun e w' => e = .returned (.pointer (some ⟨w.heap.size, 0, none⟩)) ∧ w' = w.alloc (.cells #[ordV false, .string s, .int .i64 0, .slice none 0 0, .int .i64 lim, .slice none 0 0, .pointer none] 51) := by
  have HO : Hid (Calls Try.prog 35 #[.bool false] w fun e w' => e = .returned (ordV false) ∧ w' = w) := orderOf_low w
  go_enter Try.func31, Try.ntmps31
  go_wp2_with fail
  refine HO.out.mono ?_
  rintro e w1 ⟨rfl, hw1⟩
  replace hw1 := hw1.symm
  subst hw1
  unfold ordV
  go_wp2_with fail
  go_ret
  exact ⟨rfl, rfl⟩

set_option maxHeartbeats 1000000 in
theorem faultIn_meth (fw : Nat) (p : Value) (eg : ∀ args w, (callFunc fw args).run Try.prog w = .ok (.enter fw args) w) (R : World → Prop) (Rc : Int → World → Prop) (w : World)
    (h : Calls Try.prog fw #[p] (w.alloc (.cells #[.int .i64 0] 3)) fun e w' => Boxed w' w.heap.size 3 (.int .i64 0) ∧ ((∃ v, e = .returned v) ∧ R w' ∨ ∃ c, e = fault c ∧ Rc c w')) :
    Calls Try.prog 32 #[.func (.func fw) #[p] #[]] w (FaultOut w R Rc) := by
  have hmf : ∀ (fn : Fn) (first cap : Array Value) (w : World), (Instr.makeFunc fn first cap).run Try.prog w = .ok (.func fn first cap) w := fun _ _ _ _ => rfl
  have H : Hid (Calls Try.prog fw #[p] (w.alloc (.cells #[.int .i64 0] 3)) fun e w' => Boxed w' w.heap.size 3 (.int .i64 0) ∧ ((∃ v, e = .returned v) ∧ R w' ∨ ∃ c, e = fault c ∧ Rc c w')) := h
  clear h
  go_enter_defers Try.func32, Try.ntmps32
  go_wp2_with fail
  refine H.out.mono ?_
  rintro e w1 ⟨hb, (⟨⟨v, rfl⟩, hR⟩ | ⟨c, rfl, hR⟩)⟩
  · have hc := hb.cell
    have hf := hb.frozen
    have hb2 : Boxed (w1.setCell ⟨w.heap.size, 0, none⟩ (.int .i64 0)) w.heap.size 3 (.int .i64 0) := hb.set _
    have hc2 := hb2.cell
    have hfin : FaultOut w R Rc (.returned (.int .i64 0)) (w1.setCell ⟨w.heap.size, 0, none⟩ (.int .i64 0)) := ⟨w1, hb, .inl ⟨rfl, hR, rfl⟩⟩
    go_wp2_with fail
    refine leaves_cons (f := 49) (args := #[.pointer (some ⟨w.heap.size, 0, none⟩)]) (by simp) (by simp [go_sem]) ?_
    refine (catch_idle ⟨w.heap.size, 0, none⟩ _).mono ?_
    rintro e u' w'' ⟨rfl, rfl, rfl⟩
    simp [Leaves, settle, results, Try.results32, go_sem, hc2, hfin]
  · have hc := hb.cell
    have hf := hb.frozen
    have hb2 : Boxed (w1.setCell ⟨w.heap.size, 0, none⟩ (.int .i64 c)) w.heap.size 3 (.int .i64 c) := hb.set _
    have hc2 := hb2.cell
    have hfin : FaultOut w R Rc (.returned (.int .i64 c)) (w1.setCell ⟨w.heap.size, 0, none⟩ (.int .i64 c)) := ⟨w1, hb, .inr ⟨c, rfl, hR, rfl⟩⟩
    unfold fault
    go_wp2_with fail
    refine leaves_cons (f := 49) (args := #[.pointer (some ⟨w.heap.size, 0, none⟩)]) (by simp) (by simp [go_sem]) ?_
    refine (catch_met ⟨w.heap.size, 0, none⟩ c _ [] _ hc hf).mono ?_
    rintro e u' w'' ⟨rfl, rfl, rfl⟩
    simp [Leaves, settle, results, Try.results32, go_sem, hc2, hfin]

/-- how inflated ends -/
def InfEnd (w : World) (s : ByteArray) (lim : Int) (e : Ending) (w' : World) : Prop :=
  Below w.heap.size w w' ∧ ((∃ L q ks vk fx, Nf.res s lim = .ok ((L, q), ks) ∧ e = .returned (.tuple #[.pointer (some ⟨w.heap.size, 0, none⟩), .int .i64 0]) ∧ In w' w.heap.size (w.heap.size + 2) s q L lim.toNat vk fx ∧ OwnI w' (w.heap.size + 2) vk ks.length ks ∧ q ≤ 8 * s.size ∧ L.length ≤ lim.toNat) ∨ ∃ c v, Nf.res s lim = .error c ∧ c ≠ 0 ∧ e = .returned (.tuple #[v, .int .i64 (c : Int)]))
/-- the blocks were read -/
def BlYes (R base : Nat) (s : ByteArray) (lim : Nat) (w1 : World) (w' : World) : Prop :=
  ∃ L q ks vk fx, Nf.inflate s lim = .ok ((L, q), ks) ∧ In w' R base s q L lim vk fx ∧ OwnI w' base vk ks.length ks ∧ Off R R base w1 w' ∧ q ≤ 8 * s.size ∧ L.length ≤ lim
/-- they were not -/
def BlNo (R base : Nat) (s : ByteArray) (lim : Nat) (w1 : World) (c : Int) (w' : World) : Prop := ∃ d : Nat, c = (d : Int) ∧ d ≠ 0 ∧ Nf.inflate s lim = .error d ∧ Off R R base w1 w'

set_option maxHeartbeats 4000000 in
set_option maxRecDepth 20000 in
theorem inflated_yes (s : ByteArray) (lim : Nat) (w : World) (hs : s.size ≤ 9000) (hlim : lim ≤ 5000) :
    Calls Try.prog 19 #[.string s, .int .i64 (lim : Int)] w (InfEnd w s (lim : Int)) := by
  obtain ⟨W1, hW1⟩ : ∃ W1, W1 = w.alloc (.cells #[ordV false, .string s, .int .i64 0, .slice none 0 0, .int .i64 (lim : Int), .slice none 0 0, .pointer none] 51) := ⟨_, rfl⟩
  have HNI : Hid (Calls Try.prog 31 #[.string s, .int .i64 (lim : Int)] w fun e w' => e = .returned (.pointer (some ⟨w.heap.size, 0, none⟩)) ∧ w' = W1) := by rw [hW1]; exact newInflater_any s (lim : Int) w
  obtain ⟨R, hR⟩ : ∃ R, R = w.heap.size := ⟨_, rfl⟩
  have hz1 : W1.heap.size = R + 1 := by rw [hW1, World.size_alloc, hR]
  have hI1 : In W1 R (R + 2) s 0 [] lim (.slice none 0 0) (.pointer none) := ⟨.slice none 0 0, by rw [hW1, hR]; exact heap_alloc_new _ _, World.ownsRow_nil _ _ _ _⟩
  have b1 : Below R w W1 := by rw [hW1, hR]; exact (Below.refl _ _).alloc (Nat.le_refl _) _
  obtain ⟨W2, hW2⟩ : ∃ W2, W2 = W1.alloc (.cells #[.int .i64 0] 3) := ⟨_, rfl⟩
  have hz2 : W2.heap.size = R + 2 := by rw [hW2, World.size_alloc, hz1]
  have b2 : Below W1.heap.size W1 W2 := by rw [hW2]; exact (Below.refl _ _).alloc (Nat.le_refl _) _
  have hbox : Boxed W2 W1.heap.size 3 (.int .i64 0) := by rw [hW2]; exact Boxed.new W1 3 (.int .i64 0)
  have HBL : Hid (Calls Try.prog 33 #[.pointer (some ⟨R, 0, none⟩)] (W1.alloc (.cells #[.int .i64 0] 3)) fun e w' => Boxed w' W1.heap.size 3 (.int .i64 0) ∧ ((∃ v, e = .returned v) ∧ BlYes R (R + 2) s lim W2 w' ∨ ∃ c, e = fault c ∧ BlNo R (R + 2) s lim W2 c w')) := by
    rw [← hW2]
    refine (nfBlocks_any R (R + 2) lim s W2 (hI1.kept b2) (by omega) (by omega) hs hlim).mono ?_
    rintro e w' (⟨L, q, ks, vk, fx, h1, h2, h3, h4, h5, h6, h7⟩ | ⟨c, h1, h2, h3, h4⟩)
    · exact ⟨(h5.rest _ (by omega) (by omega) (by omega)).trans hbox, .inl ⟨h2, L, q, ks, vk, fx, h1, h3, h4, h5, h6, h7⟩⟩
    · exact ⟨(h4.rest _ (by omega) (by omega) (by omega)).trans hbox, .inr ⟨(c : Int), h3, c, rfl, h2, h1, h4⟩⟩
  have HFI : Hid (Calls Try.prog 32 #[.func (.func 33) #[.pointer (some ⟨R, 0, none⟩)] #[]] W1 (FaultOut W1 (BlYes R (R + 2) s lim W2) (BlNo R (R + 2) s lim W2))) :=
    faultIn_meth 33 (.pointer (some ⟨R, 0, none⟩)) (enters_of Try.func33 (by kernel_rfl) rfl) _ _ W1 HBL.out
  have HB : Hid (Below R w W1 ∧ Below (R + 1) W1 W2 ∧ W1.heap.size = R + 1 ∧ R = w.heap.size) := ⟨b1, b2.mono (by omega), hz1, hR⟩
  have d1 : decide ((s.size : Int) > 9000) = false := decide_eq_false (by omega)
  have d2 : decide ((9000 : Int) < (s.size : Int)) = false := decide_eq_false (by omega)
  have d3 : decide ((lim : Int) < 0) = false := decide_eq_false (by omega)
  have d4 : decide ((lim : Int) > 5000) = false := decide_eq_false (by omega)
  have d5 : decide ((5000 : Int) < (lim : Int)) = false := decide_eq_false (by omega)
  have hmf : ∀ (fn : Fn) (first cap : Array Value) (w : World), (Instr.makeFunc fn first cap).run Try.prog w = .ok (.func fn first cap) w := fun _ _ _ _ => rfl
  rw [← hR] at HNI
  clear hW1 hI1 b1 hW2 hz1 hz2 b2 hbox HBL hR
  go_enter Try.func19, Try.ntmps19
  go_wp2_with fail
  refine HNI.out.mono ?_
  rintro e w1 ⟨rfl, hw1⟩
  replace hw1 := hw1.symm
  subst hw1
  clear HNI
  go_wp2_with fail
  refine HFI.out.mono ?_
  rintro e w7 ⟨w6, hb6, (⟨rfl, ⟨L, q, ks, vk, fx, g1, g2, g3, g4, g5, g6⟩, ht⟩ | ⟨c, rfl, ⟨d, rfl, hd0, hno, g4⟩, ht⟩)⟩
  · have HF : Hid (InfEnd w s (lim : Int) (.returned (.tuple #[.pointer (some ⟨R, 0, none⟩), .int .i64 0])) w7) := by
      obtain ⟨k1, k2, k3, k4⟩ := HB.out
      rw [k3] at hb6
      have ht : w7 = w6.setCell ⟨R + 1, 0, none⟩ (.int .i64 0) := by rw [← k3]; exact ht
      have hcb : w6.heap[R + 1]? = some (.cells #[.int .i64 0] 3 (0, 0)) := hb6
      have g2' : In w7 R (R + 2) s q L lim vk fx := by
        rw [ht]
        obtain ⟨vo, e1, e2⟩ := g2
        exact ⟨vo, (Below.heap_setCell w6 ⟨R + 1, 0, none⟩ _ R (by show R ≠ R + 1; omega)).trans e1, e2.besides (fun k hk => Below.heap_setCell w6 ⟨R + 1, 0, none⟩ _ k (fun e => e2.away hcb (by decide) (by rw [hk, e])))⟩
      have g3' : OwnI w7 (R + 2) vk ks.length ks := by
        rw [ht]
        refine ⟨g3.1, ?_⟩
        rcases g3.2 with g | ⟨g, c1, cur, e1, e2, e3, e4⟩
        · exact .inl g
        · exact .inr ⟨g, c1, cur, e1, e2, (Below.heap_setCell w6 ⟨R + 1, 0, none⟩ _ g (by show g ≠ R + 1; omega)).trans e3, e4⟩
      refine ⟨?_, .inl ⟨L, q, ks, vk, fx, by rw [Nf.res_ok hs hlim]; exact g1, by rw [k4], by rw [← k4, Int.toNat_natCast]; exact g2', by rw [← k4]; exact g3', g5, by rw [Int.toNat_natCast]; exact g6⟩⟩
      rw [← k4, ht]
      exact ((k1.trans (k2.mono (by omega))).trans (g4.below (Nat.le_refl _) (Nat.le_refl _) (by omega))).setCell (p := ⟨R + 1, 0, none⟩) (show R ≤ R + 1 by omega) _
    clear g1 g2 g3 g4 hb6 ht HFI HB
    go_wp2_with fail
    go_ret2
    exact HF.out
  · have HF : Hid (InfEnd w s (lim : Int) (.returned (.tuple #[.pointer (some ⟨R, 0, none⟩), .int .i64 (d : Int)])) w7) := by
      obtain ⟨k1, k2, k3, k4⟩ := HB.out
      have ht : w7 = w6.setCell ⟨R + 1, 0, none⟩ (.int .i64 (d : Int)) := by rw [← k3]; exact ht
      refine ⟨?_, .inr ⟨d, _, by rw [Nf.res_ok hs hlim]; exact hno, hd0, rfl⟩⟩
      rw [← k4, ht]
      exact ((k1.trans (k2.mono (by omega))).trans (g4.below (Nat.le_refl _) (Nat.le_refl _) (by omega))).setCell (p := ⟨R + 1, 0, none⟩) (show R ≤ R + 1 by omega) _
    clear hno g4 hb6 ht HFI HB
    go_wp2_with fail
    go_ret2
    exact HF.out

set_option maxHeartbeats 2000000 in
theorem inflated_no (s : ByteArray) (lim : Int) (w : World) (hs : s.size ≤ 3000000) (h : ¬ (s.size ≤ 9000 ∧ 0 ≤ lim ∧ lim ≤ 5000)) :
    Calls Try.prog 19 #[.string s, .int .i64 lim] w (InfEnd w s lim) := by
  have HR : Hid (Nf.res s lim = .error 1) := Nf.res_no h
  have HNI := newInflater_any s lim w
  obtain ⟨W1, hW1⟩ : ∃ W1, W1 = w.alloc (.cells #[ordV false, .string s, .int .i64 0, .slice none 0 0, .int .i64 lim, .slice none 0 0, .pointer none] 51) := ⟨_, rfl⟩
  rw [← hW1] at HNI
  have HB : Hid (Below w.heap.size w W1) := by rw [hW1]; exact (Below.refl _ _).alloc (Nat.le_refl _) _
  have HN : Hid (Calls Try.prog 31 #[.string s, .int .i64 lim] w fun e w' => e = .returned (.pointer (some ⟨w.heap.size, 0, none⟩)) ∧ w' = W1) := HNI
  have HF : Hid (InfEnd w s lim (.returned (.tuple #[.pointer (some ⟨w.heap.size, 0, none⟩), .int .i64 1])) W1) := ⟨HB.out, .inr ⟨1, _, HR.out, by decide, rfl⟩⟩
  clear HNI hW1 HB HR
  by_cases h1 : s.size ≤ 9000
  · have d1 : decide ((s.size : Int) > 9000) = false := decide_eq_false (by omega)
    have d2 : decide ((9000 : Int) < (s.size : Int)) = false := decide_eq_false (by omega)
    by_cases h2 : lim < 0
    · have d3 : decide (lim < 0) = true := decide_eq_true h2
      clear h
      go_enter Try.func19, Try.ntmps19
      go_wp2_with fail
      refine HN.out.mono ?_
      rintro e w1 ⟨rfl, hw1⟩
      replace hw1 := hw1.symm
      subst hw1
      go_wp2_with fail
      go_ret2
      exact HF.out
    · have d3 : decide (lim < 0) = false := decide_eq_false h2
      have d4 : decide (lim > 5000) = true := decide_eq_true (by omega)
      have d5 : decide ((5000 : Int) < lim) = true := decide_eq_true (by omega)
      clear h
      go_enter Try.func19, Try.ntmps19
      go_wp2_with fail
      refine HN.out.mono ?_
      rintro e w1 ⟨rfl, hw1⟩
      replace hw1 := hw1.symm
      subst hw1
      go_wp2_with fail
      go_ret2
      exact HF.out
  · have d1 : decide ((s.size : Int) > 9000) = true := decide_eq_true (by omega)
    have d2 : decide ((9000 : Int) < (s.size : Int)) = true := decide_eq_true (by omega)
    clear h
    go_enter Try.func19, Try.ntmps19
    go_wp2_with fail
    refine HN.out.mono ?_
    rintro e w1 ⟨rfl, hw1⟩
    replace hw1 := hw1.symm
    subst hw1
    go_wp2_with fail
    go_ret2
    exact HF.out
theorem inflated_any (s : ByteArray) (lim : Int) (w : World) (hs : s.size ≤ 3000000) :
    Calls Try.prog 19 #[.string s, .int .i64 lim] w (InfEnd w s lim) := by
  by_cases h : s.size ≤ 9000 ∧ 0 ≤ lim ∧ lim ≤ 5000
  · obtain ⟨M, rfl⟩ := Int.eq_ofNat_of_zero_le h.2.1
    exact inflated_yes s M w h.1 (by have := h.2.2; omega)
  · exact inflated_no s lim w hs h
end Go.Proofs.Ytejebodgfoihkaa

/- The kinds of the blocks of a text: both sides, and the law. -/
namespace Go.Proofs.Ytejebodgfoihkaa
open Go.RowKit

theorem Owns.low {w : World} {lo lo' : Nat} {a : Option Addr} {l : List Int} (h : Owns w lo a l) (hl : lo' ≤ lo) : Owns w lo' a l := by
  rcases h with e | ⟨b, rfl, h1, h2⟩
  · exact .inl e
  · exact .inr ⟨b, rfl, Nat.le_trans hl h1, h2⟩
/-- how InflateKinds ends -/
def KdEnd (w : World) (L : List Int) (n : Nat) (e : Ending) (w' : World) : Prop := (∃ x c, e = .returned (.slice x n c) ∧ Owns w' w.heap.size x L) ∧ Below w.heap.size w w'
set_option maxHeartbeats 2000000 in
theorem impl_inflateKinds (s : ByteArray) (L : List Int) (n : Nat) (w : World) (hs : s.size ≤ 3000000) (hL : L = Nf.kinds (Nf.res s 5000)) (hn : L.length = n) :
    Calls Try.prog 8 #[.string s] w (KdEnd w L n) := by
  have HI : Hid (Calls Try.prog 19 #[.string s, .int .i64 5000] w (InfEnd w s 5000)) := inflated_any s 5000 w hs
  have HL : Hid (L = Nf.kinds (Nf.res s 5000) ∧ L.length = n) := ⟨hL, hn⟩
  clear hL hn
  go_enter Try.func8, Try.ntmps8
  go_wp2_with fail
  refine HI.out.mono ?_
  rintro e w1 ⟨b1, (⟨M, q, ks, vk, fx, g1, rfl, g2, g3, g4, g5⟩ | ⟨c, v, g1, g2, rfl⟩)⟩
  · have c5 := g2.cells.2.2.2.2.1
    obtain ⟨ao, cap, rfl, ho⟩ := g3.owns
    obtain ⟨R, hR⟩ : ∃ R, R = w.heap.size := ⟨_, rfl⟩
    have HF : Hid (KdEnd w L n (.returned (.slice ao ks.length cap)) w1) := by
      have hk : L = ks := by rw [HL.out.1, g1]; rfl
      refine ⟨⟨ao, cap, by rw [← HL.out.2, hk], ?_⟩, b1⟩
      rw [hk]; exact ho.low (by omega)
    rw [← hR] at c5 ⊢
    clear g1 g2 g3 ho HI hR
    go_wp2_with fail
    go_ret
    exact HF.out
  · have HF : Hid (KdEnd w L n (.returned (.slice none 0 0)) w1) := by
      have hk : L = [] := by rw [HL.out.1, g1]; rfl
      refine ⟨⟨none, 0, by rw [← HL.out.2, hk]; rfl, .inl hk⟩, b1⟩
    have hci : ¬ (c : Int) = 0 := by omega
    have hcn : ((c : Int) != 0) = true := by simp; omega
    clear g1 g2 HI
    go_wp2_with fail
    go_ret
    exact HF.out

set_option maxHeartbeats 2000000 in
theorem spec_inflateKinds (s : ByteArray) (L : List Int) (n : Nat) (w : World) (hs : s.size ≤ 3000000) (hL : L = Nf.kinds (Nf.res s 5000)) (hn : L.length = n) (hnb : n ≤ 100000) :
    Calls Try.prog 7 #[.string s] w (KdEnd w L n) := by
  by_cases h9 : s.size ≤ 9000
  · have hr : Nf.res s 5000 = Nf.inflate s 5000 := Nf.res_ok (lim := 5000) h9 (by omega)
    have d2 : decide ((9000 : Int) < (s.size : Int)) = false := decide_eq_false (by omega)
    have HI := l4Inflate_any 5000 s w h9 (by omega)
    have HH : Hid (Calls Try.prog 18 #[.string s, .int .i64 5000] w fun e w' => e = .returned (.pointer (some ⟨w.heap.size, 0, none⟩)) ∧ Below w.heap.size w w' ∧ ((∃ L q ks vk, Nf.inflate s 5000 = .ok ((L, q), ks) ∧ Sx w' w.heap.size (w.heap.size + 1) s q L 5000 0 vk ∧ OwnI w' (w.heap.size + 1) vk ks.length ks ∧ q ≤ 8 * s.size ∧ L.length ≤ 5000) ∨ ∃ c p' l' vk, Nf.inflate s 5000 = .error c ∧ c ≠ 0 ∧ Sx w' w.heap.size (w.heap.size + 1) s p' l' 5000 c vk)) := HI
    have HL : Hid (L = Nf.kinds (Nf.inflate s 5000) ∧ L.length = n) := ⟨by rw [hL, hr], hn⟩
    obtain ⟨R, hR⟩ : ∃ R, R = w.heap.size := ⟨_, rfl⟩
    have HR : Hid (R = w.heap.size) := hR
    rw [← hR] at HH
    clear hL hn hr HI hR
    go_enter Try.func7, Try.ntmps7
    go_wp2_with fail
    refine HH.out.mono ?_
    rintro e w1 ⟨rfl, b1, (⟨M, q, ks, vk, g1, g2, g3, g4, g5⟩ | ⟨c, p', l', vk, g1, g2, g3⟩)⟩
    · have c4 : w1.cell? ⟨R, 4, none⟩ = some (.int .i64 0) := g2.cells.2.2.2.1
      have c5 := g2.cells.2.2.2.2
      have hk : L = ks := by rw [HL.out.1, g1]; rfl
      obtain ⟨m, hm⟩ : ∃ m, m = ks.length := ⟨_, rfl⟩
      have hmn : m = n := by rw [hm, ← hk, HL.out.2]
      rw [← hm] at g3
      obtain ⟨ao, cap, rfl, ho⟩ := g3.owns
      have c5' : (w1.alloc (.cells #[] 3)).cell? ⟨R, 5, none⟩ = some (.slice ao m cap) := (g2.kept ((Below.refl _ _).alloc (Nat.le_refl _) _)).cells.2.2.2.2
      have HO : Hid (OwnI (w1.alloc (.cells #[] 3)) w1.heap.size (.slice (some ⟨w1.heap.size, 0, none⟩) 0 0) 0 [] ∧ Ints (w1.alloc (.cells #[] 3)) ao ks ∧ ks.length = m ∧ L = ks ∧ m = n ∧ Below R w w1 ∧ R = w.heap.size) := ⟨ownI_none w1, ho.ints.kept ((Below.refl _ _).alloc (Nat.le_refl _) _), hm.symm, hk, hmn, b1, HR.out⟩
      clear g1 g2 g3 ho HH hk hm b1
      have hmb : m ≤ 100000 := by omega
      have hRl : R ≤ w1.heap.size := by have := HO.out.2.2.2.2.2.1.size; have := HR.out; omega
      clear hmn
      go_wp2_with (at_builtin; refine wpList_append_ints (by rfl) _ _ (by rfl) w1.heap.size _ 0 [] (by rfl) HO.out.1 ao m cap ks (by rfl) HO.out.2.1 HO.out.2.2.1 (by omega) (by rw [World.size_alloc]; omega) ?_)
      intro a' cap' w2 hO2 hg2
      have HF : Hid (KdEnd w L n (.returned (.slice a' (0 + m) cap')) w2) := by
        obtain ⟨h1, h2, h3, h4, h5, h6, h7⟩ := HO.out
        obtain ⟨ao2, cap2, e2, ho2⟩ := hO2.owns
        cases e2
        refine ⟨⟨a', cap', by rw [← h5, Nat.zero_add], ?_⟩, ?_⟩
        · rw [h4]; exact ho2.low (by omega)
        · rw [← h7]
          have bA : Below R w (w1.alloc (.cells #[] 3)) := h6.alloc hRl _
          refine bA.trans ⟨hg2.os, hg2.tape, hg2.output, hg2.size, fun k hk => hg2.block k (by rw [World.size_alloc]; omega) (fun e => ?_)⟩
          have : k = w1.heap.size := by simpa [Value.ownBlock] using e
          omega
      clear hO2 hg2 HO
      go_wp2_with fail
      go_ret
      first | exact HF.out | (simpa using HF.out)
    · have c4 := g3.cells.2.2.2.1
      have hci : ¬ (c : Int) = 0 := by omega
      have hcn : ((c : Int) != 0) = true := by simp; omega
      have HF : Hid (KdEnd w L n (.returned (.slice (some ⟨w1.heap.size, 0, none⟩) 0 0)) (w1.alloc (.cells #[] 3))) := by
        have hk : L = [] := by rw [HL.out.1, g1]; rfl
        refine ⟨⟨_, 0, by rw [← HL.out.2, hk]; rfl, .inl hk⟩, ?_⟩
        have := HR.out
        rw [← this]
        exact b1.alloc (by rw [this]; exact b1.size |> fun h => by first | exact h | omega) _
      clear g1 g2 g3 HH
      go_wp2_with fail
      go_ret
      exact HF.out
  · have d2 : decide ((9000 : Int) < (s.size : Int)) = true := decide_eq_true (by omega)
    have HF : Hid (KdEnd w L n (.returned (.slice (some ⟨w.heap.size, 0, none⟩) 0 0)) (w.alloc (.cells #[] 3))) := by
      have hk : L = [] := by rw [hL, Nf.res_no (by omega)]; rfl
      exact ⟨⟨_, 0, by rw [← hn, hk]; rfl, .inl hk⟩, (Below.refl _ _).alloc (Nat.le_refl _) _⟩
    clear hL hn
    go_enter Try.func7, Try.ntmps7
    go_wp2_with fail
    go_ret
    exact HF.out
end Go.Proofs.Ytejebodgfoihkaa

/- The exact law of InflateKinds, walked. -/
namespace Go.Proofs.Ytejebodgfoihkaa
open Go.RowKit

theorem Owns.kept' {w w' : World} {lo : Nat} {a : Option Addr} {l : List Int} (h : Owns w lo a l) (g : Below w.heap.size w w') : Owns w' lo a l := by
  rcases h with e | ⟨b, rfl, h1, h2, h3⟩
  · exact .inl e
  · exact .inr ⟨b, rfl, h1, Nat.lt_of_lt_of_le h2 g.size, fun i hi => ⟨(g.cell (p := ⟨b, i, none⟩) h2).trans (h3 i hi).1, (g.frozen (p := ⟨b, i, none⟩) h2).trans (h3 i hi).2⟩⟩

set_option maxHeartbeats 2000000 in
theorem exInflateKinds (s : ByteArray) (hs : s.size ≤ maxLen) (w : World) :
    Calls Try.prog 3 #[.string s] w fun e w' => e = .returned (.bool true) ∧ Below w.heap.size w w' := by
  by_cases hbig : 1048576 < s.size
  · unfold maxLen at hs
    go_enter Try.func3, Try.ntmps3
    go_wp2_with fail
    go_ret
    exact ⟨rfl, Below.refl _ _⟩
  have hsm : s.size ≤ 1048576 := by omega
  obtain ⟨L, hL⟩ : ∃ L, L = Nf.kinds (Nf.res s 5000) := ⟨_, rfl⟩
  obtain ⟨n, hn⟩ : ∃ n, n = L.length := ⟨_, rfl⟩
  have hlen : L.length = n := hn.symm
  have hn1 : n ≤ 72001 := by rw [hn, hL]; exact Nf.kinds_len s 5000
  have HSP : Hid (∀ w : World, Calls Try.prog 7 #[.string s] w fun e w' => (∃ ao cap, e = .returned (.slice ao n cap) ∧ Ints w' ao L) ∧ Below w.heap.size w w') := fun w => by
    refine (spec_inflateKinds s L n w (by omega) hL hlen (by omega)).mono ?_
    rintro e w' ⟨⟨x, c, h1, h2⟩, h3⟩
    exact ⟨⟨x, c, h1, h2.ints⟩, h3⟩
  have HIM : Hid (∀ w : World, Calls Try.prog 8 #[.string s] w fun e w' => (∃ ao cap, e = .returned (.slice ao n cap) ∧ Owns w' w.heap.size ao L) ∧ Below w.heap.size w w') := fun w => impl_inflateKinds s L n w (by omega) hL hlen
  have HEQ : Hid (∀ (a : Option Addr) (ca : Nat) (b : Option Addr) (cb : Nat) (w : World), Ints w a L → Ints w b L → Calls Try.prog 9 #[.slice a n ca, .slice b n cb] w fun e w' => e = .returned (.bool true) ∧ Below w.heap.size w w') := fun a ca b cb w h1 h2 => by
    refine (eqInts_same a ca b cb n L w h1 h2 hlen (by omega)).mono ?_
    rintro e w' ⟨rfl, m, rfl⟩
    exact ⟨rfl, drewN_below _ _⟩
  obtain ⟨t, ht⟩ : ∃ t : Nat, t = n + 1 := ⟨_, rfl⟩
  have HMK : Hid (∀ (lo c : Nat) (ao : Option Addr) (w : World), Owns w lo ao L → lo ≤ w.heap.size → Calls Try.prog 10 #[.slice ao n c, .int .i64 1] w fun e w' => e = .returned (.int .i64 (t : Int)) ∧ Owns w' lo ao (marks n) ∧ Below lo w w') := fun lo c ao w h hl => by
    rw [ht]; exact mark_g ao n c L lo w h hlen (by omega) hl
  have HHD : Hid (∀ (lo c : Nat) (ao : Option Addr) (w : World), Owns w lo ao (marks n) → Calls Try.prog 11 #[.slice ao n c, .int .i64 1] w fun e w' => e = .returned (.int .i64 (t : Int)) ∧ w' = w) := fun lo c ao w h => by
    rw [ht]; exact held_g ao n c lo w h (by omega)
  have hd : decide ((t : Int) < 0) = false := by simp
  clear hn hL hlen ht
  go_enter Try.func3, Try.ntmps3
  go_wp2_with fail
  refine (HSP.out _).mono ?_
  rintro e w1 ⟨⟨a0, c0, rfl, hI0⟩, b1⟩
  have HI0 : Hid (∀ w', Below w1.heap.size w1 w' → Ints w' a0 L) := fun w' b => hI0.kept b
  clear hI0 HSP
  go_wp2_with fail
  refine (HIM.out _).mono ?_
  rintro e w2 ⟨⟨a1, c1, rfl, hO1⟩, b2⟩
  have HG2 : Hid (Owns w2 w1.heap.size a1 L) := hO1
  have B2 : Hid (Below w1.heap.size w1 w2) := b2
  clear hO1 b2
  go_wp2_with fail
  refine (HEQ.out a1 c1 a0 c0 w2 HG2.out.ints (HI0.out w2 B2.out)).mono ?_
  rintro e w3 ⟨rfl, b3⟩
  have HG3 : Hid (Owns w3 w1.heap.size a1 L) := HG2.out.kept' b3
  have B3 : Hid (Below w1.heap.size w1 w3) := B2.out.trans (b3.mono B2.out.size)
  clear b3 B2 HG2
  go_wp2_with fail
  refine (HMK.out _ c1 a1 w3 HG3.out B3.out.size).mono ?_
  rintro e w4 ⟨rfl, hG4, b4⟩
  have HG4 : Hid (Owns w4 w1.heap.size a1 (marks n)) := hG4
  have B4 : Hid (Below w1.heap.size w1 w4) := B3.out.trans b4
  clear hG4 b4 B3 HG3 HMK
  go_wp2_with fail
  refine (HHD.out _ c1 a1 w4 HG4.out).mono ?_
  rintro e w5 ⟨rfl, hw⟩
  replace hw := hw.symm
  subst hw
  go_wp2_with fail
  refine (HIM.out _).mono ?_
  rintro e w6 ⟨⟨a6, c6, rfl, hO6⟩, b6⟩
  have HI6 : Hid (Ints w6 a6 L) := hO6.ints
  have HG6 : Hid (Owns w6 w1.heap.size a1 (marks n)) := HG4.out.kept' b6
  have B6 : Hid (Below w1.heap.size w1 w6) := B4.out.trans (b6.mono B4.out.size)
  clear hO6 b6 B4 HG4
  go_wp2_with fail
  refine (HEQ.out a6 c6 a0 c0 w6 HI6.out (HI0.out w6 B6.out)).mono ?_
  rintro e w7 ⟨rfl, b7⟩
  have HG7 : Hid (Owns w7 w1.heap.size a1 (marks n)) := HG6.out.kept' b7
  have B7 : Hid (Below w1.heap.size w1 w7) := B6.out.trans (b7.mono B6.out.size)
  clear b7 B6 HG6 HI6
  go_wp2_with fail
  refine (HHD.out _ c1 a1 w7 HG7.out).mono ?_
  rintro e w8 ⟨rfl, hw⟩
  replace hw := hw.symm
  subst hw
  have bel : Below w.heap.size w w7 := b1.trans (B7.out.mono b1.size)
  clear b1 B7 HG7 HHD HEQ HIM HI0
  go_wp2_with fail
  go_ret
  exact ⟨rfl, bel⟩
end Go.Proofs.Ytejebodgfoihkaa
