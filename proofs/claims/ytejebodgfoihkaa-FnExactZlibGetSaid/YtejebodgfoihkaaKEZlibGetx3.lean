/- Texts laid together: NsAll, NfTop, NfInf, NfZhead, NfBnd, NfZlib, NfZlibS. -/
import Derived.Test.YtejebodgfoihkaaVEZlibGetNsOwn
import Derived.Test.YtejebodgfoihkaaKEZlibGetx2
import Derived.Deep.QuietTactic
import Derived.RangeFuncBox
import Derived.Shelf.Abstract
import Derived.Test.YtejebodgfoihkaaKEZlibGetx0
import Derived.Test.YtejebodgfoihkaaKEZlibGetx1
/- All blocks of a text, in the specification. -/
namespace Go.Proofs.Ytejebodgfoihkaa
open Go.RowKit

theorem OwnI.lst {w : World} {B n c R : Nat} {a : Option Addr} {l : List Int} (h : OwnI w B (.slice a n c) n l) (hR : R < B) : Lst w R a l := by
  have hl := h.len
  rcases h.2 with ⟨e, h0⟩ | ⟨g, cap', cur, e, hB, hg, hnc, hx⟩
  · exact .inl (List.eq_nil_of_length_eq_zero (by omega))
  · cases e
    refine .inr ⟨g, 0, cur, _, rfl, by omega, hg, fun i hi => ?_⟩
    have := World.ownsRow.cellAt (show World.ownsRow _ _ _ _ _ _ _ from h) i (by omega)
    simp only [World.cell?, hg] at this
    rw [Nat.zero_add]
    rw [intsV_get l i hi] at this
    exact this
/-- a measure: the bits that are left, 0 behind the last block and once a code is noted -/
def alOf (R M : Nat) (la : Value) (w : World) : Nat :=
  match la with
  | .int _ v => if v = 0 then stOf R M w else 0
  | _ => 0
theorem alOf_go {w : World} {R base p lim M : Nat} {s : ByteArray} {l : List UInt8} {vk : Value} (h : Sx w R base s p l lim 0 vk) : alOf R M (.int .i64 ((0 : Nat) : Int)) w = M - p + 1 := by
  unfold alOf
  exact stOf_go h
theorem alOf_le (R M : Nat) (la : Value) (w : World) : alOf R M la w ≤ stOf R M w := by
  unfold alOf
  split
  · split <;> omega
  · omega
/-- the loop of all -/
def AlInv (wr w : World) (R base : Nat) (s : ByteArray) (lim : Nat) (ANS : Except Nat ((List UInt8 × Nat) × List Int)) (f q d last : Nat) (L : List UInt8) (ks : List Int) (vk : Value) : Prop :=
  Sx wr R base s q L lim d vk ∧ Off R R base w wr ∧ base ≤ wr.heap.size ∧ ((d = 0 ∧ OwnI wr base vk ks.length ks ∧ q ≤ 8 * s.size ∧ L.length ≤ lim ∧ ((last = 0 ∧ ANS = Nf.all s lim f q L ks ∧ 8 * s.size - q < f ∧ ks.length + f ≤ 80000) ∨ (last ≠ 0 ∧ ANS = .ok ((L, q), ks)))) ∨ (d ≠ 0 ∧ ANS = .error d))
/-- how all ends -/
def SAll (w : World) (R base : Nat) (s : ByteArray) (lim : Nat) (ANS : Except Nat ((List UInt8 × Nat) × List Int)) (e : Ending) (w' : World) : Prop :=
  e = .returned (.tuple #[]) ∧ Off R R base w w' ∧ base ≤ w'.heap.size ∧ ((∃ L q ks vk, ANS = .ok ((L, q), ks) ∧ Sx w' R base s q L lim 0 vk ∧ OwnI w' base vk ks.length ks ∧ q ≤ 8 * s.size ∧ L.length ≤ lim) ∨ ∃ c p' l' vk, ANS = .error c ∧ c ≠ 0 ∧ Sx w' R base s p' l' lim c vk)

theorem AlInv.stop {wr w : World} {R base lim f q d last : Nat} {s : ByteArray} {ANS : Except Nat ((List UInt8 × Nat) × List Int)} {L : List UInt8} {ks : List Int} {vk : Value} (h : AlInv wr w R base s lim ANS f q d last L ks vk) (hs : d ≠ 0 ∨ last ≠ 0) : SAll w R base s lim ANS (.returned (.tuple #[])) wr := by
  refine ⟨rfl, h.2.1, h.2.2.1, ?_⟩
  rcases h.2.2.2 with ⟨e1, e2, e3, e4, e5⟩ | ⟨e1, e2⟩
  · subst e1
    rcases e5 with ⟨e5, _⟩ | ⟨e5, e6⟩
    · rcases hs with g | g
      · exact absurd rfl g
      · exact absurd e5 g
    · exact .inl ⟨L, q, ks, vk, e6, h.1, e2, e3, e4⟩
  · exact .inr ⟨d, q, L, vk, e2, e1, h.1⟩
/-- a block was read: what is still to come -/
theorem al_next {w5 w6 w : World} {R base lim f q last k : Nat} {s : ByteArray} {ANS : Except Nat ((List UInt8 × Nat) × List Int)} {L : List UInt8} {ks : List Int} {vk : Value} {e : Ending} (hR : R < base)
    (HA : ANS = Nf.all s lim (f + 1) q L ks ∧ Nf.nxt s 1 q = .ok last ∧ Nf.nxt s 2 (q + 1) = .ok k) (hO : OwnI w5 base vk (ks ++ [(k : Int)]).length (ks ++ [(k : Int)])) (hoff : Off R R base w w5) (hb : base ≤ w5.heap.size) (hL : L.length ≤ lim) (hf : 8 * s.size - q < f + 1) (hq : q + 3 ≤ 8 * s.size) (hn : ks.length + (f + 1) ≤ 80000)
    (h : SEnd (Nf.block s lim k (q + 3) L) w5 R base s lim vk e w6) :
    e = .returned (.tuple #[]) ∧ ∃ q2 d L2, AlInv w6 w R base s lim ANS f q2 d last L2 (ks ++ [(k : Int)]) vk ∧ stOf R (8 * s.size) w6 < 8 * s.size - q + 1 := by
  obtain ⟨he, h⟩ := h
  refine ⟨he, ?_⟩
  rcases h with ⟨L2, q2, h1, h2, h3, h4, h5⟩ | ⟨c, h1, h2, ⟨p', l', h3⟩, h4⟩
  · have hgo := block_go h1 hL
    refine ⟨q2, 0, L2, ⟨h2, hoff.trans (h3.off hb), Nat.le_trans hb h3.size, .inl ⟨rfl, h3.ownI hO hR, h4, h5, ?_⟩⟩, by rw [stOf_go h2]; omega⟩
    by_cases h0 : last = 0
    · refine .inl ⟨h0, ?_, by omega, by rw [List.length_append]; simp; omega⟩
      rw [HA.1]
      exact Nf.all_more (by rw [← h0]; exact HA.2.1) HA.2.2 h1
    · exact .inr ⟨h0, by rw [HA.1]; exact Nf.all_end HA.2.1 h0 HA.2.2 h1⟩
  · exact ⟨p', c, l', ⟨h3, hoff.trans (h4.off hb), Nat.le_trans hb h4.size, .inr ⟨h2, by rw [HA.1]; exact Nf.all_no3 HA.2.1 HA.2.2 h1⟩⟩, by rw [stOf_no h3 h2]; omega⟩

set_option maxHeartbeats 8000000 in
set_option maxRecDepth 20000 in
theorem sxAll_any (R base lim : Nat) (s : ByteArray) (w : World) (h : Sx w R base s 0 [] lim 0 (.slice none 0 0)) (hR : R < base) (hb : base ≤ w.heap.size) (hs : s.size ≤ 9000) (hlim : lim ≤ 5000) :
    Calls Try.prog 30 #[.pointer (some ⟨R, 0, none⟩)] w (SAll w R base s lim (Nf.inflate s lim)) := by
  obtain ⟨ANS, hANS⟩ : ∃ r, r = Nf.inflate s lim := ⟨_, rfl⟩
  rw [← hANS]
  have HX0 : Hid (AlInv w w R base s lim ANS Nf.fuel 0 0 0 [] [] (.slice none 0 0)) := ⟨h, Off.refl _ _ _ _, hb, .inl ⟨rfl, World.ownsRow_nil _ _ _ _, Nat.zero_le _, Nat.zero_le _, .inl ⟨rfl, hANS, by unfold Nf.fuel; omega, by unfold Nf.fuel; decide⟩⟩⟩
  have HR : Hid (R < base) := hR
  clear h hANS hb hR
  go_enter Try.func30, Try.ntmps30
  go_wp2_with fail
  go_loopw [2, 3] (fun la _k wr => ∃ (f q d last : Nat) (L : List UInt8) (ks : List Int) (vk : Value), la = .int .i64 (last : Int) ∧ Hid (AlInv wr w R base s lim ANS f q d last L ks vk)) (fun la _ wr => alOf R (8 * s.size) la wr)
  case atStart => exact ⟨_, 0, 0, 0, [], [], _, rfl, HX0⟩
  case round =>
    obtain ⟨f, q, d, last, L, ks, vk, rfl, HX⟩ := hrel
    clear HX0
    have c4 := HX.out.1.cells.2.2.2.1
    by_cases hl0 : last = 0
    · subst hl0
      by_cases hd : d = 0
      · subst hd
        replace c4 : wr.cell? ⟨R, 4, none⟩ = some (.int .i64 0) := c4
        have HP : Hid (OwnI wr base vk ks.length ks ∧ q ≤ 8 * s.size ∧ L.length ≤ lim ∧ ANS = Nf.all s lim f q L ks ∧ 8 * s.size - q < f ∧ ks.length + f ≤ 80000) := by
          rcases HX.out.2.2.2 with ⟨_, e2, e3, e4, e5⟩ | ⟨e1, _⟩
          · rcases e5 with ⟨_, e5⟩ | ⟨e5, _⟩
            · exact ⟨e2, e3, e4, e5⟩
            · exact absurd rfl e5
          · exact absurd rfl e1
        obtain ⟨f2, hf2⟩ : ∃ f2, f = f2 + 1 := ⟨f - 1, by have := HP.out.2.2.2.2.1; omega⟩
        subst hf2
        have HAL : Hid (alOf R (8 * s.size) (.int .i64 ((0 : Nat) : Int)) wr = 8 * s.size - q + 1) := alOf_go HX.out.1
        have HN1 : Hid (Calls Try.prog 42 #[.pointer (some ⟨R, 0, none⟩), .int .i64 1] wr (SBits wr R base s q 1 L lim vk)) := sxBits_any R base q 1 lim L vk s wr HX.out.1 hs HP.out.2.1 (by omega)
        have HOF : Hid (Off R R base w wr ∧ base ≤ wr.heap.size) := ⟨HX.out.2.1, HX.out.2.2.1⟩
        clear HX
        go_wp2_with fail
        refine HN1.out.mono ?_
        rintro e w1 (⟨last, hv, rfl, h2, h3⟩ | ⟨hv, rfl, h2, h3⟩)
        · have HN2 : Hid (Calls Try.prog 42 #[.pointer (some ⟨R, 0, none⟩), .int .i64 2] w1 (SBits w1 R base s (q + 1) 2 L lim vk)) := sxBits_any R base (q + 1) 2 lim L vk s w1 h2 hs (Nf.nxt_ok hv).1 (by omega)
          have HV : Hid (Nf.nxt s 1 q = .ok last ∧ InF R base wr w1) := ⟨hv, InF.of_only h3⟩
          clear hv h2 h3 HN1 c4
          go_wp2_with fail
          refine HN2.out.mono ?_
          rintro e w2 (⟨k, hv, rfl, h2, h3⟩ | ⟨hv, rfl, h2, h3⟩)
          · have hk4 : k < 4 := (Nf.nxt_ok hv).2.2
            have HQ : Hid (q + 3 ≤ 8 * s.size) := (Nf.nxt_ok hv).1
            have HF2 : Hid (InF R base wr w2) := HV.out.2.trans (InF.of_only h3)
            have HA : Hid (ANS = Nf.all s lim (f2 + 1) q L ks ∧ Nf.nxt s 1 q = .ok last ∧ Nf.nxt s 2 (q + 1) = .ok k) := ⟨HP.out.2.2.2.1, HV.out.1, hv⟩
            have hO2 := HF2.out.ownI HP.out.1 HR.out
            obtain ⟨n, hn⟩ : ∃ n, n = ks.length := ⟨_, rfl⟩
            rw [← hn] at hO2
            have HNK : Hid (n = ks.length) := hn
            obtain ⟨ao, cap, rfl, _⟩ := hO2.owns
            have HI2 : Hid (Sx w2 R base s (q + 3) L lim 0 (.slice ao n cap) ∧ OwnI w2 base (.slice ao n cap) n ks ∧ base ≤ w2.heap.size ∧ Off R R base w w2) := ⟨h2, hO2, Nat.le_trans HOF.out.2 HF2.out.size, HOF.out.1.trans (HF2.out.off HOF.out.2)⟩
            have c4 : w2.cell? ⟨R, 4, none⟩ = some (.int .i64 0) := h2.cells.2.2.2.1
            have c5 := h2.cells.2.2.2.2
            have hb2 := HI2.out.2.2.1
            have hnb : n ≤ 100000 := by have := HP.out.2.2.2.2.2; omega
            have HL : Hid (L.length ≤ lim ∧ 8 * s.size - q < f2 + 1 ∧ ks.length + (f2 + 1) ≤ 80000) := ⟨HP.out.2.2.1, HP.out.2.2.2.2.1, HP.out.2.2.2.2.2⟩
            clear hv h2 h3 HN2 hO2 HF2 HV HP hn HOF
            go_wp2_with (at_builtin; refine wpList_app1 w2 (by rfl) _ _ (by rfl) base _ n ks (k : Int) (by rfl) HI2.out.2.1 (by rfl) (by omega) hb2 ?_)
            intro g4 cap4 w4 hown4 hg4
            have hI4 := HI2.out.1.beside HI2.out.2.1 hg4.block
            have k5 := hI4.cells.2.2.2.2
            have f5 := hI4.froz 5
            obtain ⟨w5, hw5⟩ : ∃ w5, w5 = w4.setCell ⟨R, 5, none⟩ (.slice (some ⟨g4, 0, none⟩) (n + 1) cap4) := ⟨_, rfl⟩
            have HI5 : Hid (Sx w5 R base s (q + 3) L lim 0 (.slice (some ⟨g4, 0, none⟩) (n + 1) cap4) ∧ OwnI w5 base (.slice (some ⟨g4, 0, none⟩) (n + 1) cap4) (ks ++ [(k : Int)]).length (ks ++ [(k : Int)]) ∧ base ≤ w5.heap.size ∧ Off R R base w w5) := by
              have hs5 := hI4.setKinds (.slice (some ⟨g4, 0, none⟩) (n + 1) cap4)
              rw [← hw5] at hs5
              have hF5 : InF R base w4 w5 := InF.of_only hs5.2
              have hbs : base ≤ w4.heap.size := Nat.le_trans hb2 hg4.size
              have hoff4 : Off R R base w2 w4 := ⟨hg4.os, hg4.tape, hg4.output, hg4.size, fun kk hk _ _ => hg4.block kk (by omega) (fun e => by have := (hg4.own kk e.symm).1; omega)⟩
              refine ⟨hs5.1, ?_, Nat.le_trans hbs hF5.size, (HI2.out.2.2.2.trans hoff4).trans (hF5.off hbs)⟩
              rw [List.length_append, ← HNK.out]
              exact hF5.ownI hown4 HR.out
            clear hI4 hown4 hg4 HI2 hb2 c4 c5
            go_upto_region 6 with fail
            rw [← hw5]
            clear hw5 k5 f5
            have hk4' : k = 0 ∨ k = 1 ∨ k = 2 ∨ k = 3 := by omega
            rcases hk4' with rfl | rfl | rfl | rfl
            · have HNX : Hid (∀ e w6, SEnd (Nf.block s lim 0 (q + 3) L) w5 R base s lim (.slice (some ⟨g4, 0, none⟩) (n + 1) cap4) e w6 → e = .returned (.tuple #[]) ∧ ∃ q2 d L2, AlInv w6 w R base s lim ANS f2 q2 d last L2 (ks ++ [((0 : Nat) : Int)]) (.slice (some ⟨g4, 0, none⟩) (n + 1) cap4) ∧ stOf R (8 * s.size) w6 < 8 * s.size - q + 1) := fun e w6 h => al_next HR.out HA.out HI5.out.2.1 HI5.out.2.2.2 HI5.out.2.2.1 HL.out.1 HL.out.2.1 HQ.out HL.out.2.2 h
              have HBK : Hid (Calls Try.prog 43 #[.pointer (some ⟨R, 0, none⟩)] w5 (SEnd (Nf.block s lim 0 (q + 3) L) w5 R base s lim (.slice (some ⟨g4, 0, none⟩) (n + 1) cap4))) := sxStored_any R base (q + 3) lim L _ s w5 HI5.out.1 HI5.out.2.2.1 hs HQ.out HL.out.1 hlim
              clear HL HQ HA
              go_wp2_with fail
              refine HBK.out.mono ?_
              intro e w6 hend
              obtain ⟨he, q2, d, L2, hinv, hst⟩ := HNX.out _ _ hend
              subst he
              have HF : Hid (AlInv w6 w R base s lim ANS f2 q2 d last L2 (ks ++ [((0 : Nat) : Int)]) (.slice (some ⟨g4, 0, none⟩) (n + 1) cap4)) := hinv
              have HST : Hid (stOf R (8 * s.size) w6 < 8 * s.size - q + 1) := hst
              clear hend hinv hst HBK HI5 HNX
              go_wp2_with fail
              go_roundw
              case rel => exact ⟨f2, q2, d, last, L2, _, _, rfl, HF⟩
              case measure => rw [HAL.out]; exact Nat.lt_of_le_of_lt (alOf_le _ _ _ _) HST.out
            · have HNX : Hid (∀ e w6, SEnd (Nf.block s lim 1 (q + 3) L) w5 R base s lim (.slice (some ⟨g4, 0, none⟩) (n + 1) cap4) e w6 → e = .returned (.tuple #[]) ∧ ∃ q2 d L2, AlInv w6 w R base s lim ANS f2 q2 d last L2 (ks ++ [((1 : Nat) : Int)]) (.slice (some ⟨g4, 0, none⟩) (n + 1) cap4) ∧ stOf R (8 * s.size) w6 < 8 * s.size - q + 1) := fun e w6 h => al_next HR.out HA.out HI5.out.2.1 HI5.out.2.2.2 HI5.out.2.2.1 HL.out.1 HL.out.2.1 HQ.out HL.out.2.2 h
              have HFX : Hid (Calls Try.prog 45 #[] w5 fun e w' => (∃ a c, e = .returned (.slice a 288 c) ∧ OwnI w' w5.heap.size (.slice a 288 c) 288 Df.fixS) ∧ Below w5.heap.size w5 w') := l4Fixed_any w5
              have HBK : Hid (∀ (a b : Option Addr) (ca cb : Nat) (w7 : World), Below w5.heap.size w5 w7 → Lst w7 R a Df.fixS → Lst w7 R b Df.fixD → Calls Try.prog 44 #[.pointer (some ⟨R, 0, none⟩), .slice a 288 ca, .slice b 32 cb] w7 (SEnd (Nf.block s lim 1 (q + 3) L) w5 R base s lim (.slice (some ⟨g4, 0, none⟩) (n + 1) cap4))) := fun a b ca cb w7 h7 ha hb => by
                refine (sxBody_any R base (q + 3) lim 288 32 ca cb a b L _ s Df.fixS Df.fixD w7 (HI5.out.1.kept h7) (Nat.le_trans HI5.out.2.2.1 h7.size) hs HQ.out HL.out.1 hlim ha hb Df.fixS_len Df.fixD_len fixS_good fixD_good (by omega) (by omega)).mono ?_
                rintro e w' ⟨rfl, hend⟩
                refine ⟨rfl, ?_⟩
                rcases hend with ⟨L2, q2, g1, g2, g3, g4⟩ | ⟨c2, g1, g2, g3, g4⟩
                · exact .inl ⟨L2, q2, g1, g2, (InF.of_below h7).trans g3, g4⟩
                · exact .inr ⟨c2, g1, g2, g3, (InF.of_below h7).trans g4⟩
              have HRL : Hid (R < w5.heap.size) := HI5.out.1.lt
              clear HL HQ HA
              go_wp2_with fail
              refine HFX.out.mono ?_
              rintro e w7 ⟨⟨a7, c7, rfl, hq7⟩, b7⟩
              have HL7 : Hid (Lst w7 R a7 Df.fixS ∧ Below w5.heap.size w5 w7) := ⟨hq7.lst HRL.out, b7⟩
              have HSA : Hid (Calls Try.prog 46 #[.int .i64 5, .int .i64 32] w7 fun e w' => (∃ a c, e = .returned (.slice a 32 c) ∧ OwnI w' w7.heap.size (.slice a 32 c) 32 Df.fixD) ∧ Below w7.heap.size w7 w') := l4Same_any 5 32 (by omega) w7
              clear hq7 b7 HFX
              go_wp2_with fail
              refine HSA.out.mono ?_
              rintro e w8 ⟨⟨a8, c8, rfl, hq8⟩, b8⟩
              have HB8 : Hid (Calls Try.prog 44 #[.pointer (some ⟨R, 0, none⟩), .slice a7 288 c7, .slice a8 32 c8] w8 (SEnd (Nf.block s lim 1 (q + 3) L) w5 R base s lim (.slice (some ⟨g4, 0, none⟩) (n + 1) cap4))) := HBK.out a7 a8 c7 c8 w8 (HL7.out.2.trans (b8.mono HL7.out.2.size)) (HL7.out.1.kept b8) (hq8.lst (Nat.lt_of_lt_of_le HRL.out HL7.out.2.size))
              clear hq8 b8 HSA HL7
              go_wp2_with fail
              refine HB8.out.mono ?_
              intro e w6 hend
              clear HB8
              obtain ⟨he, q2, d, L2, hinv, hst⟩ := HNX.out _ _ hend
              subst he
              have HF : Hid (AlInv w6 w R base s lim ANS f2 q2 d last L2 (ks ++ [((1 : Nat) : Int)]) (.slice (some ⟨g4, 0, none⟩) (n + 1) cap4)) := hinv
              have HST : Hid (stOf R (8 * s.size) w6 < 8 * s.size - q + 1) := hst
              clear hend hinv hst HBK HI5 HNX
              go_wp2_with fail
              go_roundw
              case rel => exact ⟨f2, q2, d, last, L2, _, _, rfl, HF⟩
              case measure => rw [HAL.out]; exact Nat.lt_of_le_of_lt (alOf_le _ _ _ _) HST.out
            · have HNX : Hid (∀ e w6, SEnd (Nf.block s lim 2 (q + 3) L) w5 R base s lim (.slice (some ⟨g4, 0, none⟩) (n + 1) cap4) e w6 → e = .returned (.tuple #[]) ∧ ∃ q2 d L2, AlInv w6 w R base s lim ANS f2 q2 d last L2 (ks ++ [((2 : Nat) : Int)]) (.slice (some ⟨g4, 0, none⟩) (n + 1) cap4) ∧ stOf R (8 * s.size) w6 < 8 * s.size - q + 1) := fun e w6 h => al_next HR.out HA.out HI5.out.2.1 HI5.out.2.2.2 HI5.out.2.2.1 HL.out.1 HL.out.2.1 HQ.out HL.out.2.2 h
              have HBK : Hid (Calls Try.prog 47 #[.pointer (some ⟨R, 0, none⟩)] w5 (SEnd (Nf.block s lim 2 (q + 3) L) w5 R base s lim (.slice (some ⟨g4, 0, none⟩) (n + 1) cap4))) := sxOwn_any R base (q + 3) lim L _ s w5 HI5.out.1 HI5.out.2.2.1 hs HQ.out HL.out.1 hlim
              clear HL HQ HA
              go_wp2_with fail
              refine HBK.out.mono ?_
              intro e w6 hend
              obtain ⟨he, q2, d, L2, hinv, hst⟩ := HNX.out _ _ hend
              subst he
              have HF : Hid (AlInv w6 w R base s lim ANS f2 q2 d last L2 (ks ++ [((2 : Nat) : Int)]) (.slice (some ⟨g4, 0, none⟩) (n + 1) cap4)) := hinv
              have HST : Hid (stOf R (8 * s.size) w6 < 8 * s.size - q + 1) := hst
              clear hend hinv hst HBK HI5 HNX
              go_wp2_with fail
              go_roundw
              case rel => exact ⟨f2, q2, d, last, L2, _, _, rfl, HF⟩
              case measure => rw [HAL.out]; exact Nat.lt_of_le_of_lt (alOf_le _ _ _ _) HST.out
            · have HNX : Hid (∀ e w6, SEnd (Nf.block s lim 3 (q + 3) L) w5 R base s lim (.slice (some ⟨g4, 0, none⟩) (n + 1) cap4) e w6 → e = .returned (.tuple #[]) ∧ ∃ q2 d L2, AlInv w6 w R base s lim ANS f2 q2 d last L2 (ks ++ [((3 : Nat) : Int)]) (.slice (some ⟨g4, 0, none⟩) (n + 1) cap4) ∧ stOf R (8 * s.size) w6 < 8 * s.size - q + 1) := fun e w6 h => al_next HR.out HA.out HI5.out.2.1 HI5.out.2.2.2 HI5.out.2.2.1 HL.out.1 HL.out.2.1 HQ.out HL.out.2.2 h
              have HBK : Hid (Calls Try.prog 48 #[.pointer (some ⟨R, 0, none⟩), .int .i64 1] w5 (SEnd (Nf.block s lim 3 (q + 3) L) w5 R base s lim (.slice (some ⟨g4, 0, none⟩) (n + 1) cap4))) := by
                refine (sxFail_new R base (q + 3) lim 1 L _ s w5 HI5.out.1).mono ?_
                rintro e w' ⟨rfl, h2, h3⟩
                exact SEnd.no rfl (by decide) h2 (InF.of_only h3)
              clear HL HQ HA
              go_wp2_with fail
              refine HBK.out.mono ?_
              intro e w6 hend
              obtain ⟨he, q2, d, L2, hinv, hst⟩ := HNX.out _ _ hend
              subst he
              have HF : Hid (AlInv w6 w R base s lim ANS f2 q2 d last L2 (ks ++ [((3 : Nat) : Int)]) (.slice (some ⟨g4, 0, none⟩) (n + 1) cap4)) := hinv
              have HST : Hid (stOf R (8 * s.size) w6 < 8 * s.size - q + 1) := hst
              clear hend hinv hst HBK HI5 HNX
              go_wp2_with fail
              go_roundw
              case rel => exact ⟨f2, q2, d, last, L2, _, _, rfl, HF⟩
              case measure => rw [HAL.out]; exact Nat.lt_of_le_of_lt (alOf_le _ _ _ _) HST.out
          · have HE : Hid (SAll w R base s lim ANS (.returned (.tuple #[])) w2) := ⟨rfl, HOF.out.1.trans ((HV.out.2.trans (InF.of_only h3)).off HOF.out.2), Nat.le_trans HOF.out.2 (HV.out.2.trans (InF.of_only h3)).size, .inr ⟨2, _, _, _, by rw [HP.out.2.2.2.1]; exact Nf.all_no2 HV.out.1 hv, by decide, h2⟩⟩
            have c4 : w2.cell? ⟨R, 4, none⟩ = some (.int .i64 2) := h2.cells.2.2.2.1
            clear hv h2 h3 HN2 HV HP HOF
            go_wp2_with fail
            refine bodyPost_ret (v := .tuple #[]) (by simp [results, Try.results30, go_sem]) rfl ?_
            exact HE.out
        · have HE1 : Hid (SAll w R base s lim ANS (.returned (.tuple #[])) w1) := ⟨rfl, HOF.out.1.trans ((InF.of_only h3).off HOF.out.2), Nat.le_trans HOF.out.2 h3.below.size, .inr ⟨2, _, _, _, by rw [HP.out.2.2.2.1]; exact Nf.all_no1 hv, by decide, h2⟩⟩
          have HBO : Hid (Calls Try.prog 42 #[.pointer (some ⟨R, 0, none⟩), .int .i64 2] w1 fun e w' => e = .returned (.int .i64 0) ∧ ∃ m, w' = w1.drewN m) := sxBits_old R base q lim 2 2 L vk s w1 h2 (by decide)
          have c4' : w1.cell? ⟨R, 4, none⟩ = some (.int .i64 2) := h2.cells.2.2.2.1
          clear hv h2 h3 HN1 HP HOF c4
          go_wp2_with fail
          refine HBO.out.mono ?_
          rintro e w2 ⟨rfl, m, rfl⟩
          have c4 : (w1.drewN m).cell? ⟨R, 4, none⟩ = some (.int .i64 2) := c4'
          have HE : Hid (SAll w R base s lim ANS (.returned (.tuple #[])) (w1.drewN m)) := by
            obtain ⟨e1, e2, e3, e4⟩ := HE1.out
            refine ⟨e1, e2.drewN m, e3, ?_⟩
            rcases e4 with ⟨L2, q2, ks2, vk2, g1, g2, g3, g4⟩ | ⟨c, p', l', vk2, g1, g2, g3⟩
            · exact .inl ⟨L2, q2, ks2, vk2, g1, g2.drewN m, g3.drewN m, g4⟩
            · exact .inr ⟨c, p', l', vk2, g1, g2, g3.drewN m⟩
          clear c4' HE1 HBO
          generalize w1.drewN m = w2 at *
          go_wp2_with fail
          refine bodyPost_ret (v := .tuple #[]) (by simp [results, Try.results30, go_sem]) rfl ?_
          exact HE.out
      · have hdi : ¬ (d : Int) = 0 := by omega
        have HE : Hid (SAll w R base s lim ANS (.returned (.tuple #[])) wr) := HX.out.stop (.inl hd)
        clear HX
        go_wp2_with fail
        go_end0
        exact HE.out
    · have hli : ¬ (last : Int) = 0 := by omega
      have hlb : ((last : Int) == 0) = false := by simp; omega
      have HE : Hid (SAll w R base s lim ANS (.returned (.tuple #[])) wr) := HX.out.stop (.inr hl0)
      clear HX c4
      go_wp2_with fail
      go_end0
      exact HE.out

set_option maxHeartbeats 2000000 in
theorem l4Inflate_any (lim : Nat) (s : ByteArray) (w : World) (hs : s.size ≤ 9000) (hlim : lim ≤ 5000) :
    Calls Try.prog 18 #[.string s, .int .i64 (lim : Int)] w fun e w' => e = .returned (.pointer (some ⟨w.heap.size, 0, none⟩)) ∧ Below w.heap.size w w' ∧ ((∃ L q ks vk, Nf.inflate s lim = .ok ((L, q), ks) ∧ Sx w' w.heap.size (w.heap.size + 1) s q L lim 0 vk ∧ OwnI w' (w.heap.size + 1) vk ks.length ks ∧ q ≤ 8 * s.size ∧ L.length ≤ lim) ∨ ∃ c p' l' vk, Nf.inflate s lim = .error c ∧ c ≠ 0 ∧ Sx w' w.heap.size (w.heap.size + 1) s p' l' lim c vk) := by
  obtain ⟨W0, hW0⟩ : ∃ W0, W0 = w.alloc (.cells #[.string s, .int .i64 0, .int .i64 (lim : Int), .slice none 0 0, .int .i64 0, .slice none 0 0] 39) := ⟨_, rfl⟩
  obtain ⟨R, hR⟩ : ∃ R, R = w.heap.size := ⟨_, rfl⟩
  have hz : W0.heap.size = R + 1 := by rw [hW0, World.size_alloc, hR]
  have b0 : Below w.heap.size w W0 := by rw [hW0]; exact (Below.refl _ _).alloc (Nat.le_refl _) _
  have hx : Sx W0 R (R + 1) s 0 [] lim 0 (.slice none 0 0) := ⟨.slice none 0 0, by rw [hW0, hR]; exact heap_alloc_new _ _, World.ownsRow_nil _ _ _ _⟩
  have HAL : Hid (Calls Try.prog 30 #[.pointer (some ⟨R, 0, none⟩)] W0 (SAll W0 R (R + 1) s lim (Nf.inflate s lim))) := sxAll_any R (R + 1) lim s W0 hx (by omega) (by omega) hs hlim
  have HB : Hid (Below R w W0) := by rw [hR]; exact b0
  rw [← hR]
  clear hx hz b0
  go_enter Try.func18, Try.ntmps18
  go_wp2_with fail
  rw [← hW0, ← hR]
  clear hW0 hR
  refine HAL.out.mono ?_
  rintro e w1 ⟨rfl, h2, h3, h4⟩
  have HF : Hid (Below R w w1) := HB.out.trans (h2.below (Nat.le_refl _) (Nat.le_refl _) (by omega))
  have HG : Hid ((∃ L q ks vk, Nf.inflate s lim = .ok ((L, q), ks) ∧ Sx w1 R (R + 1) s q L lim 0 vk ∧ OwnI w1 (R + 1) vk ks.length ks ∧ q ≤ 8 * s.size ∧ L.length ≤ lim) ∨ ∃ c p' l' vk, Nf.inflate s lim = .error c ∧ c ≠ 0 ∧ Sx w1 R (R + 1) s p' l' lim c vk) := h4
  clear h2 h3 h4 HAL
  go_wp2_with fail
  go_ret
  exact ⟨rfl, HF.out, HG.out⟩
end Go.Proofs.Ytejebodgfoihkaa

/- What a packed text makes: both readers, whole. -/
namespace Go.Proofs.Ytejebodgfoihkaa
open Go.RowKit

namespace Nf
/-- what a text makes, if it and the limit are what they may be -/
def res (s : ByteArray) (lim : Int) : Except Nat ((List UInt8 × Nat) × List Int) := if s.size ≤ 9000 ∧ 0 ≤ lim ∧ lim ≤ 5000 then inflate s lim.toNat else .error 1
theorem res_ok {s : ByteArray} {lim : Nat} (h : s.size ≤ 9000) (hl : lim ≤ 5000) : res s (lim : Int) = inflate s lim := by unfold res; rw [if_pos ⟨h, by omega, by omega⟩, Int.toNat_natCast]
theorem res_no {s : ByteArray} {lim : Int} (h : ¬ (s.size ≤ 9000 ∧ 0 ≤ lim ∧ lim ≤ 5000)) : res s lim = .error 1 := if_neg h
def out (r : Except Nat ((List UInt8 × Nat) × List Int)) : List UInt8 := match r with | .ok ((L, _), _) => L | .error _ => []
def used (r : Except Nat ((List UInt8 × Nat) × List Int)) : Nat := match r with | .ok ((_, q), _) => (q + 7) / 8 | .error _ => 0
def code (r : Except Nat ((List UInt8 × Nat) × List Int)) : Nat := match r with | .ok _ => 0 | .error c => c
def kinds (r : Except Nat ((List UInt8 × Nat) × List Int)) : List Int := match r with | .ok (_, ks) => ks | .error _ => []
end Nf

set_option maxHeartbeats 1000000 in
theorem newInflater_any (s : ByteArray) (lim : Int) (w : World) :
    Calls Try.prog 31 #[.string s, .int .i64 lim] w fun e w' => e = .returned (.pointer (some ⟨w.heap.size, 0, none⟩)) ∧ w' = w.alloc (.cells #[ordV false, .string s, .int .i64 0, .slice none 0 0, .int .i64 lim, .slice none 0 0, .pointer none] 51) := by
  have HO : Hid (Calls Try.prog 35 #[.bool false] w fun e w' => e = .returned (ordV false) ∧ w' = w) := orderOf_low w
  go_enter Try.func31, Try.ntmps31
  go_wp2_with fail
  refine HO.out.mono ?_
  rintro e w1 ⟨rfl, hw1⟩
  replace hw1 := hw1.symm
  subst hw1
  unfold ordV
  go_wp2_with fail
  go_ret
  exact ⟨rfl, rfl⟩

set_option maxHeartbeats 1000000 in
theorem faultIn_meth (fw : Nat) (p : Value) (eg : ∀ args w, (callFunc fw args).run Try.prog w = .ok (.enter fw args) w) (R : World → Prop) (Rc : Int → World → Prop) (w : World)
    (h : Calls Try.prog fw #[p] (w.alloc (.cells #[.int .i64 0] 3)) fun e w' => Boxed w' w.heap.size 3 (.int .i64 0) ∧ ((∃ v, e = .returned v) ∧ R w' ∨ ∃ c, e = fault c ∧ Rc c w')) :
    Calls Try.prog 32 #[.func (.func fw) #[p] #[]] w (FaultOut w R Rc) := by
  have hmf : ∀ (fn : Fn) (first cap : Array Value) (w : World), (Instr.makeFunc fn first cap).run Try.prog w = .ok (.func fn first cap) w := fun _ _ _ _ => rfl
  have H : Hid (Calls Try.prog fw #[p] (w.alloc (.cells #[.int .i64 0] 3)) fun e w' => Boxed w' w.heap.size 3 (.int .i64 0) ∧ ((∃ v, e = .returned v) ∧ R w' ∨ ∃ c, e = fault c ∧ Rc c w')) := h
  clear h
  go_enter_defers Try.func32, Try.ntmps32
  go_wp2_with fail
  refine H.out.mono ?_
  rintro e w1 ⟨hb, (⟨⟨v, rfl⟩, hR⟩ | ⟨c, rfl, hR⟩)⟩
  · have hc := hb.cell
    have hf := hb.frozen
    have hb2 : Boxed (w1.setCell ⟨w.heap.size, 0, none⟩ (.int .i64 0)) w.heap.size 3 (.int .i64 0) := hb.set _
    have hc2 := hb2.cell
    have hfin : FaultOut w R Rc (.returned (.int .i64 0)) (w1.setCell ⟨w.heap.size, 0, none⟩ (.int .i64 0)) := ⟨w1, hb, .inl ⟨rfl, hR, rfl⟩⟩
    go_wp2_with fail
    refine leaves_cons (f := 49) (args := #[.pointer (some ⟨w.heap.size, 0, none⟩)]) (by simp) (by simp [go_sem]) ?_
    refine (catch_idle ⟨w.heap.size, 0, none⟩ _).mono ?_
    rintro e u' w'' ⟨rfl, rfl, rfl⟩
    simp [Leaves, settle, results, Try.results32, go_sem, hc2, hfin]
  · have hc := hb.cell
    have hf := hb.frozen
    have hb2 : Boxed (w1.setCell ⟨w.heap.size, 0, none⟩ (.int .i64 c)) w.heap.size 3 (.int .i64 c) := hb.set _
    have hc2 := hb2.cell
    have hfin : FaultOut w R Rc (.returned (.int .i64 c)) (w1.setCell ⟨w.heap.size, 0, none⟩ (.int .i64 c)) := ⟨w1, hb, .inr ⟨c, rfl, hR, rfl⟩⟩
    unfold fault
    go_wp2_with fail
    refine leaves_cons (f := 49) (args := #[.pointer (some ⟨w.heap.size, 0, none⟩)]) (by simp) (by simp [go_sem]) ?_
    refine (catch_met ⟨w.heap.size, 0, none⟩ c _ [] _ hc hf).mono ?_
    rintro e u' w'' ⟨rfl, rfl, rfl⟩
    simp [Leaves, settle, results, Try.results32, go_sem, hc2, hfin]

/-- how inflated ends -/
def InfEnd (w : World) (s : ByteArray) (lim : Int) (e : Ending) (w' : World) : Prop :=
  Below w.heap.size w w' ∧ ((∃ L q ks vk fx, Nf.res s lim = .ok ((L, q), ks) ∧ e = .returned (.tuple #[.pointer (some ⟨w.heap.size, 0, none⟩), .int .i64 0]) ∧ In w' w.heap.size (w.heap.size + 2) s q L lim.toNat vk fx ∧ OwnI w' (w.heap.size + 2) vk ks.length ks ∧ q ≤ 8 * s.size ∧ L.length ≤ lim.toNat) ∨ ∃ c v, Nf.res s lim = .error c ∧ c ≠ 0 ∧ e = .returned (.tuple #[v, .int .i64 (c : Int)]))
/-- the blocks were read -/
def BlYes (R base : Nat) (s : ByteArray) (lim : Nat) (w1 : World) (w' : World) : Prop :=
  ∃ L q ks vk fx, Nf.inflate s lim = .ok ((L, q), ks) ∧ In w' R base s q L lim vk fx ∧ OwnI w' base vk ks.length ks ∧ Off R R base w1 w' ∧ q ≤ 8 * s.size ∧ L.length ≤ lim
/-- they were not -/
def BlNo (R base : Nat) (s : ByteArray) (lim : Nat) (w1 : World) (c : Int) (w' : World) : Prop := ∃ d : Nat, c = (d : Int) ∧ d ≠ 0 ∧ Nf.inflate s lim = .error d ∧ Off R R base w1 w'

set_option maxHeartbeats 4000000 in
set_option maxRecDepth 20000 in
theorem inflated_yes (s : ByteArray) (lim : Nat) (w : World) (hs : s.size ≤ 9000) (hlim : lim ≤ 5000) :
    Calls Try.prog 19 #[.string s, .int .i64 (lim : Int)] w (InfEnd w s (lim : Int)) := by
  obtain ⟨W1, hW1⟩ : ∃ W1, W1 = w.alloc (.cells #[ordV false, .string s, .int .i64 0, .slice none 0 0, .int .i64 (lim : Int), .slice none 0 0, .pointer none] 51) := ⟨_, rfl⟩
  have HNI : Hid (Calls Try.prog 31 #[.string s, .int .i64 (lim : Int)] w fun e w' => e = .returned (.pointer (some ⟨w.heap.size, 0, none⟩)) ∧ w' = W1) := by rw [hW1]; exact newInflater_any s (lim : Int) w
  obtain ⟨R, hR⟩ : ∃ R, R = w.heap.size := ⟨_, rfl⟩
  have hz1 : W1.heap.size = R + 1 := by rw [hW1, World.size_alloc, hR]
  have hI1 : In W1 R (R + 2) s 0 [] lim (.slice none 0 0) (.pointer none) := ⟨.slice none 0 0, by rw [hW1, hR]; exact heap_alloc_new _ _, World.ownsRow_nil _ _ _ _⟩
  have b1 : Below R w W1 := by rw [hW1, hR]; exact (Below.refl _ _).alloc (Nat.le_refl _) _
  obtain ⟨W2, hW2⟩ : ∃ W2, W2 = W1.alloc (.cells #[.int .i64 0] 3) := ⟨_, rfl⟩
  have hz2 : W2.heap.size = R + 2 := by rw [hW2, World.size_alloc, hz1]
  have b2 : Below W1.heap.size W1 W2 := by rw [hW2]; exact (Below.refl _ _).alloc (Nat.le_refl _) _
  have hbox : Boxed W2 W1.heap.size 3 (.int .i64 0) := by rw [hW2]; exact Boxed.new W1 3 (.int .i64 0)
  have HBL : Hid (Calls Try.prog 33 #[.pointer (some ⟨R, 0, none⟩)] (W1.alloc (.cells #[.int .i64 0] 3)) fun e w' => Boxed w' W1.heap.size 3 (.int .i64 0) ∧ ((∃ v, e = .returned v) ∧ BlYes R (R + 2) s lim W2 w' ∨ ∃ c, e = fault c ∧ BlNo R (R + 2) s lim W2 c w')) := by
    rw [← hW2]
    refine (nfBlocks_any R (R + 2) lim s W2 (hI1.kept b2) (by omega) (by omega) hs hlim).mono ?_
    rintro e w' (⟨L, q, ks, vk, fx, h1, h2, h3, h4, h5, h6, h7⟩ | ⟨c, h1, h2, h3, h4⟩)
    · exact ⟨(h5.rest _ (by omega) (by omega) (by omega)).trans hbox, .inl ⟨h2, L, q, ks, vk, fx, h1, h3, h4, h5, h6, h7⟩⟩
    · exact ⟨(h4.rest _ (by omega) (by omega) (by omega)).trans hbox, .inr ⟨(c : Int), h3, c, rfl, h2, h1, h4⟩⟩
  have HFI : Hid (Calls Try.prog 32 #[.func (.func 33) #[.pointer (some ⟨R, 0, none⟩)] #[]] W1 (FaultOut W1 (BlYes R (R + 2) s lim W2) (BlNo R (R + 2) s lim W2))) :=
    faultIn_meth 33 (.pointer (some ⟨R, 0, none⟩)) (enters_of Try.func33 (by kernel_rfl) rfl) _ _ W1 HBL.out
  have HB : Hid (Below R w W1 ∧ Below (R + 1) W1 W2 ∧ W1.heap.size = R + 1 ∧ R = w.heap.size) := ⟨b1, b2.mono (by omega), hz1, hR⟩
  have d1 : decide ((s.size : Int) > 9000) = false := decide_eq_false (by omega)
  have d2 : decide ((9000 : Int) < (s.size : Int)) = false := decide_eq_false (by omega)
  have d3 : decide ((lim : Int) < 0) = false := decide_eq_false (by omega)
  have d4 : decide ((lim : Int) > 5000) = false := decide_eq_false (by omega)
  have d5 : decide ((5000 : Int) < (lim : Int)) = false := decide_eq_false (by omega)
  have hmf : ∀ (fn : Fn) (first cap : Array Value) (w : World), (Instr.makeFunc fn first cap).run Try.prog w = .ok (.func fn first cap) w := fun _ _ _ _ => rfl
  rw [← hR] at HNI
  clear hW1 hI1 b1 hW2 hz1 hz2 b2 hbox HBL hR
  go_enter Try.func19, Try.ntmps19
  go_wp2_with fail
  refine HNI.out.mono ?_
  rintro e w1 ⟨rfl, hw1⟩
  replace hw1 := hw1.symm
  subst hw1
  clear HNI
  go_wp2_with fail
  refine HFI.out.mono ?_
  rintro e w7 ⟨w6, hb6, (⟨rfl, ⟨L, q, ks, vk, fx, g1, g2, g3, g4, g5, g6⟩, ht⟩ | ⟨c, rfl, ⟨d, rfl, hd0, hno, g4⟩, ht⟩)⟩
  · have HF : Hid (InfEnd w s (lim : Int) (.returned (.tuple #[.pointer (some ⟨R, 0, none⟩), .int .i64 0])) w7) := by
      obtain ⟨k1, k2, k3, k4⟩ := HB.out
      rw [k3] at hb6
      have ht : w7 = w6.setCell ⟨R + 1, 0, none⟩ (.int .i64 0) := by rw [← k3]; exact ht
      have hcb : w6.heap[R + 1]? = some (.cells #[.int .i64 0] 3 (0, 0)) := hb6
      have g2' : In w7 R (R + 2) s q L lim vk fx := by
        rw [ht]
        obtain ⟨vo, e1, e2⟩ := g2
        exact ⟨vo, (Below.heap_setCell w6 ⟨R + 1, 0, none⟩ _ R (by show R ≠ R + 1; omega)).trans e1, e2.besides (fun k hk => Below.heap_setCell w6 ⟨R + 1, 0, none⟩ _ k (fun e => e2.away hcb (by decide) (by rw [hk, e])))⟩
      have g3' : OwnI w7 (R + 2) vk ks.length ks := by
        rw [ht]
        refine ⟨g3.1, ?_⟩
        rcases g3.2 with g | ⟨g, c1, cur, e1, e2, e3, e4⟩
        · exact .inl g
        · exact .inr ⟨g, c1, cur, e1, e2, (Below.heap_setCell w6 ⟨R + 1, 0, none⟩ _ g (by show g ≠ R + 1; omega)).trans e3, e4⟩
      refine ⟨?_, .inl ⟨L, q, ks, vk, fx, by rw [Nf.res_ok hs hlim]; exact g1, by rw [k4], by rw [← k4, Int.toNat_natCast]; exact g2', by rw [← k4]; exact g3', g5, by rw [Int.toNat_natCast]; exact g6⟩⟩
      rw [← k4, ht]
      exact ((k1.trans (k2.mono (by omega))).trans (g4.below (Nat.le_refl _) (Nat.le_refl _) (by omega))).setCell (p := ⟨R + 1, 0, none⟩) (show R ≤ R + 1 by omega) _
    clear g1 g2 g3 g4 hb6 ht HFI HB
    go_wp2_with fail
    go_ret2
    exact HF.out
  · have HF : Hid (InfEnd w s (lim : Int) (.returned (.tuple #[.pointer (some ⟨R, 0, none⟩), .int .i64 (d : Int)])) w7) := by
      obtain ⟨k1, k2, k3, k4⟩ := HB.out
      have ht : w7 = w6.setCell ⟨R + 1, 0, none⟩ (.int .i64 (d : Int)) := by rw [← k3]; exact ht
      refine ⟨?_, .inr ⟨d, _, by rw [Nf.res_ok hs hlim]; exact hno, hd0, rfl⟩⟩
      rw [← k4, ht]
      exact ((k1.trans (k2.mono (by omega))).trans (g4.below (Nat.le_refl _) (Nat.le_refl _) (by omega))).setCell (p := ⟨R + 1, 0, none⟩) (show R ≤ R + 1 by omega) _
    clear hno g4 hb6 ht HFI HB
    go_wp2_with fail
    go_ret2
    exact HF.out

set_option maxHeartbeats 2000000 in
theorem inflated_no (s : ByteArray) (lim : Int) (w : World) (hs : s.size ≤ 3000000) (h : ¬ (s.size ≤ 9000 ∧ 0 ≤ lim ∧ lim ≤ 5000)) :
    Calls Try.prog 19 #[.string s, .int .i64 lim] w (InfEnd w s lim) := by
  have HR : Hid (Nf.res s lim = .error 1) := Nf.res_no h
  have HNI := newInflater_any s lim w
  obtain ⟨W1, hW1⟩ : ∃ W1, W1 = w.alloc (.cells #[ordV false, .string s, .int .i64 0, .slice none 0 0, .int .i64 lim, .slice none 0 0, .pointer none] 51) := ⟨_, rfl⟩
  rw [← hW1] at HNI
  have HB : Hid (Below w.heap.size w W1) := by rw [hW1]; exact (Below.refl _ _).alloc (Nat.le_refl _) _
  have HN : Hid (Calls Try.prog 31 #[.string s, .int .i64 lim] w fun e w' => e = .returned (.pointer (some ⟨w.heap.size, 0, none⟩)) ∧ w' = W1) := HNI
  have HF : Hid (InfEnd w s lim (.returned (.tuple #[.pointer (some ⟨w.heap.size, 0, none⟩), .int .i64 1])) W1) := ⟨HB.out, .inr ⟨1, _, HR.out, by decide, rfl⟩⟩
  clear HNI hW1 HB HR
  by_cases h1 : s.size ≤ 9000
  · have d1 : decide ((s.size : Int) > 9000) = false := decide_eq_false (by omega)
    have d2 : decide ((9000 : Int) < (s.size : Int)) = false := decide_eq_false (by omega)
    by_cases h2 : lim < 0
    · have d3 : decide (lim < 0) = true := decide_eq_true h2
      clear h
      go_enter Try.func19, Try.ntmps19
      go_wp2_with fail
      refine HN.out.mono ?_
      rintro e w1 ⟨rfl, hw1⟩
      replace hw1 := hw1.symm
      subst hw1
      go_wp2_with fail
      go_ret2
      exact HF.out
    · have d3 : decide (lim < 0) = false := decide_eq_false h2
      have d4 : decide (lim > 5000) = true := decide_eq_true (by omega)
      have d5 : decide ((5000 : Int) < lim) = true := decide_eq_true (by omega)
      clear h
      go_enter Try.func19, Try.ntmps19
      go_wp2_with fail
      refine HN.out.mono ?_
      rintro e w1 ⟨rfl, hw1⟩
      replace hw1 := hw1.symm
      subst hw1
      go_wp2_with fail
      go_ret2
      exact HF.out
  · have d1 : decide ((s.size : Int) > 9000) = true := decide_eq_true (by omega)
    have d2 : decide ((9000 : Int) < (s.size : Int)) = true := decide_eq_true (by omega)
    clear h
    go_enter Try.func19, Try.ntmps19
    go_wp2_with fail
    refine HN.out.mono ?_
    rintro e w1 ⟨rfl, hw1⟩
    replace hw1 := hw1.symm
    subst hw1
    go_wp2_with fail
    go_ret2
    exact HF.out
theorem inflated_any (s : ByteArray) (lim : Int) (w : World) (hs : s.size ≤ 3000000) :
    Calls Try.prog 19 #[.string s, .int .i64 lim] w (InfEnd w s lim) := by
  by_cases h : s.size ≤ 9000 ∧ 0 ≤ lim ∧ lim ≤ 5000
  · obtain ⟨M, rfl⟩ := Int.eq_ofNat_of_zero_le h.2.1
    exact inflated_yes s M w h.1 (by have := h.2.2; omega)
  · exact inflated_no s lim w hs h
end Go.Proofs.Ytejebodgfoihkaa

/- Inflate: both sides. -/
namespace Go.Proofs.Ytejebodgfoihkaa
open Go.RowKit

/-- what Inflate answers -/
def infV (s : ByteArray) (lim : Int) : Value := .tuple #[.string ⟨(Nf.out (Nf.res s lim)).toArray⟩, .int .i64 ((Nf.used (Nf.res s lim) : Nat) : Int), .int .i64 ((Nf.code (Nf.res s lim) : Nat) : Int)]
theorem infV_ok {s : ByteArray} {lim : Int} {L : List UInt8} {q : Nat} {ks : List Int} (h : Nf.res s lim = .ok ((L, q), ks)) : infV s lim = .tuple #[.string ⟨L.toArray⟩, .int .i64 (((q + 7) / 8 : Nat) : Int), .int .i64 0] := by unfold infV; rw [h]; rfl
theorem infV_no {s : ByteArray} {lim : Int} {c : Nat} (h : Nf.res s lim = .error c) : infV s lim = .tuple #[.string ⟨#[]⟩, .int .i64 0, .int .i64 (c : Int)] := by unfold infV; rw [h]; rfl

theorem drewN_below' {n : Nat} {a b : World} (h : Below n a b) (m : Nat) : Below n a (b.drewN m) := ⟨h.os, h.tape, h.output, h.size, h.block⟩
theorem below_dn {n : Nat} {a b : World} (h : Below n a b) (m : Nat) : Below n a (b.drewN m) := ⟨h.os, h.tape, h.output, h.size, h.block⟩
set_option linter.unusedSimpArgs false in
set_option maxHeartbeats 4000000 in
set_option maxRecDepth 20000 in
theorem impl_inflate (s : ByteArray) (lim : Int) (w : World) (hs : s.size ≤ 3000000) :
    Calls Try.prog 15 #[.string s, .int .i64 lim] w fun e w' => e = .returned (infV s lim) ∧ Below w.heap.size w w' := by
  have HI : Hid (Calls Try.prog 19 #[.string s, .int .i64 lim] w (InfEnd w s lim)) := inflated_any s lim w hs
  go_enter Try.func15, Try.ntmps15
  go_wp2_with fail
  refine HI.out.mono ?_
  rintro e w1 ⟨b1, (⟨L, q, ks, vk, fx, g1, rfl, g2, g3, g4, g5⟩ | ⟨c, v, g1, g2, rfl⟩)⟩
  · have hq9 : q ≤ 100000 := by
      unfold Nf.res at g1
      split at g1
      · rename_i hh; have := hh.1; omega
      · cases g1
    have HF : Hid (infV s lim = .tuple #[.string ⟨L.toArray⟩, .int .i64 (((q + 7) / 8 : Nat) : Int), .int .i64 0] ∧ Below w.heap.size w w1) := ⟨infV_ok g1, b1⟩
    obtain ⟨R, hR⟩ : ∃ R, R = w.heap.size := ⟨_, rfl⟩
    rw [← hR] at g2
    have HUS : Hid (∀ w2, (∃ m, w2 = w1.drewN m) → Calls Try.prog 29 #[.pointer (some ⟨R, 0, none⟩)] w2 fun e w' => e = .returned (.int .i64 (((q + 7) / 8 : Nat) : Int)) ∧ w' = w2) := fun w2 hw => by
      obtain ⟨m, rfl⟩ := hw
      exact nfUsed_any R (R + 2) q lim.toNat L vk fx s _ (by rw [← hR] at *; exact g2.drewN m) hq9
    obtain ⟨vo, hc, hv⟩ := g2
    have c3 : w1.cell? ⟨R, 3, none⟩ = some vo := by simp [World.cell?, hc]
    have HTX : Hid (∀ w2, (∃ m, w2 = w1.drewN m) → Sem.run Try.prog (convert 30 9 vo) w2 = .ok (.string ⟨L.toArray⟩) w2) := fun w2 hw => by
      obtain ⟨m, rfl⟩ := hw
      exact OwnT.text (hv.drewN m)
    obtain ⟨u, hu⟩ : ∃ u, u = (q + 7) / 8 := ⟨_, rfl⟩
    rw [← hu] at HUS HF
    rw [← hR]
    clear g1 g3 hc hv HI hR hu
    go_wp2_with fail
    have htx := fun m => HTX.out (w1.drewN m) ⟨m, rfl⟩
    go_quiet ((go_at_call 29; exact Calls.quiet_of_same (HUS.out _ ⟨_, rfl⟩)))
    go_wp2_with fail
    refine bodyPost_ret (v := .tuple #[.string ⟨L.toArray⟩, .int .i64 (u : Int), .int .i64 0]) (by simp [results, Try.results15, go_sem]) rfl ?_
    exact ⟨by rw [HF.out.1], drewN_below' HF.out.2 _⟩
  · have HF : Hid (infV s lim = .tuple #[.string ⟨#[]⟩, .int .i64 0, .int .i64 (c : Int)] ∧ Below w.heap.size w w1) := ⟨infV_no g1, b1⟩
    have hci : ¬ (c : Int) = 0 := by omega
    have hcn : ((c : Int) != 0) = true := by simp; omega
    clear g1 g2 HI
    go_wp2_with fail
    refine bodyPost_ret (v := .tuple #[.string ⟨#[]⟩, .int .i64 0, .int .i64 (c : Int)]) (by simp [results, Try.results15, go_sem]) rfl ?_
    exact ⟨by rw [HF.out.1], HF.out.2⟩

/-- how l4Inflate ends -/
def L4End (w : World) (s : ByteArray) (lim : Nat) (e : Ending) (w' : World) : Prop := e = .returned (.pointer (some ⟨w.heap.size, 0, none⟩)) ∧ Below w.heap.size w w' ∧ ((∃ L q ks vk, Nf.inflate s lim = .ok ((L, q), ks) ∧ Sx w' w.heap.size (w.heap.size + 1) s q L lim 0 vk ∧ OwnI w' (w.heap.size + 1) vk ks.length ks ∧ q ≤ 8 * s.size ∧ L.length ≤ lim) ∨ ∃ c p' l' vk, Nf.inflate s lim = .error c ∧ c ≠ 0 ∧ Sx w' w.heap.size (w.heap.size + 1) s p' l' lim c vk)

end Go.Proofs.Ytejebodgfoihkaa

/- How a text of RFC 1950 begins. -/
namespace Go.Proofs.Ytejebodgfoihkaa
open Go.RowKit

namespace Nf
/-- whether a text may begin so -/
def hd (a b : Nat) : Bool := decide (a % 16 = 8) && (decide (a / 16 ≤ 7) && (decide ((256 * a + b) % 31 = 0) && decide (b / 32 % 2 = 0)))
theorem and32 : ∀ b, b < 256 → ((b &&& 32 = 0) ↔ (b / 32 % 2 = 0)) := by decide +kernel
end Nf
set_option maxHeartbeats 2000000 in
theorem zlibHead_any (a b : Nat) (w : World) (ha : a < 256) (hb : b < 256) :
    Calls Try.prog 23 #[.int .i64 (a : Int), .int .i64 (b : Int)] w fun e w' => e = .returned (.bool (Nf.hd a b)) ∧ w' = w := by
  have h32 := Nf.and32 b hb
  obtain ⟨k, hk⟩ : ∃ k, k = b &&& 32 := ⟨_, rfl⟩
  have hand : bits .and .i64 (b : Int) 32 = (k : Int) := by rw [hk]; exact i64_and_nat b 32 (by omega) (by omega)
  obtain ⟨m, hm⟩ : ∃ m, m = a % 16 := ⟨_, rfl⟩
  obtain ⟨d, hd⟩ : ∃ d, d = a / 16 := ⟨_, rfl⟩
  obtain ⟨S, hS⟩ : ∃ S, S = 256 * a + b := ⟨_, rfl⟩
  obtain ⟨r, hr⟩ : ∃ r, r = S % 31 := ⟨_, rfl⟩
  have eS : 256 * (a : Int) + (b : Int) = (S : Int) := by omega
  have eSw : IntKind.i64.wrap (256 * (a : Int) + (b : Int)) = (S : Int) := by rw [eS]; exact wrap_i64_nat S (by omega)
  have em : (a : Int).tmod 16 = (m : Int) := by rw [Int.tmod_eq_emod_of_nonneg (by omega)]; omega
  have em2 : (a : Int) % 16 = (m : Int) := by omega
  have ed : (a : Int).tdiv 16 = (d : Int) := by rw [Int.tdiv_eq_ediv_of_nonneg (by omega)]; omega
  have ed2 : (a : Int) / 16 = (d : Int) := by omega
  have er : (S : Int).tmod 31 = (r : Int) := by rw [Int.tmod_eq_emod_of_nonneg (by omega)]; omega
  have er2 : (S : Int) % 31 = (r : Int) := by omega
  have w1 := wrap_i64_nat m (by omega)
  have w2 := wrap_i64_nat d (by omega)
  have w3 := wrap_i64_nat r (by omega)
  have HE : Hid (Nf.hd a b = (decide (m = 8) && (decide (d ≤ 7) && (decide (r = 0) && decide (k = 0))))) := by
    show _ = _
    unfold Nf.hd
    rw [← hm, ← hd, ← hS, ← hr, hk]
    congr 3
    rw [decide_eq_decide]; exact h32.symm
  have hSb : S ≤ 66000 := by omega
  clear hk hm hd hS hr h32 eS
  by_cases c1 : m = 8
  · subst c1
    by_cases c2 : d ≤ 7
    · have c2i : (d : Int) ≤ 7 := by omega
      by_cases c3 : r = 0
      · subst c3
        by_cases c4 : k = 0
        · subst c4
          have HF : Hid (Nf.hd a b = true) := by show _ = _; rw [HE.out]; simp [c2]
          clear HE
          go_enter Try.func23, Try.ntmps23
          go_wp2_with fail
          go_ret
          exact ⟨ret_bool (by rw [HF.out]), rfl⟩
        · have c4i : ((k : Int) == 0) = false := by simp; omega
          have HF : Hid (Nf.hd a b = false) := by show _ = _; rw [HE.out]; simp [c4]
          clear HE
          go_enter Try.func23, Try.ntmps23
          go_wp2_with fail
          go_ret
          exact ⟨ret_bool (by rw [HF.out]), rfl⟩
      · have c3i : ((r : Int) == 0) = false := by simp; omega
        have HF : Hid (Nf.hd a b = false) := by show _ = _; rw [HE.out]; simp [c3]
        clear HE
        go_enter Try.func23, Try.ntmps23
        go_wp2_with fail
        go_ret
        exact ⟨ret_bool (by rw [HF.out]), rfl⟩
    · have c2i : decide ((d : Int) ≤ 7) = false := decide_eq_false (by omega)
      have HF : Hid (Nf.hd a b = false) := by show _ = _; rw [HE.out]; simp [c2]
      clear HE
      go_enter Try.func23, Try.ntmps23
      go_wp2_with fail
      go_ret
      exact ⟨ret_bool (by rw [HF.out]), rfl⟩
  · have c1i : ((m : Int) == 8) = false := by simp; omega
    have HF : Hid (Nf.hd a b = false) := by show _ = _; rw [HE.out]; simp [c1]
    clear HE
    go_enter Try.func23, Try.ntmps23
    go_wp2_with fail
    go_ret
    exact ⟨ret_bool (by rw [HF.out]), rfl⟩
end Go.Proofs.Ytejebodgfoihkaa

/- Bounds of what a packed text makes (mathematics). -/
namespace Go.Proofs.Ytejebodgfoihkaa
open Go.RowKit

theorem below_d {n : Nat} {a b : World} (h : Below n a b) (m : Nat) : Below n a (b.drewN m) := ⟨h.os, h.tape, h.output, h.size, h.block⟩
namespace Nf
theorem nxt_c0 {s : ByteArray} {n p c : Nat} (h : nxt s n p = .error c) : c ≠ 0 := by rw [nxt_err h]; decide
theorem sym_c0 {s : ByteArray} {zs : List Int} {p c : Nat} (h : sym s zs p = .error c) : c ≠ 0 := by
  unfold sym at h
  split at h
  · cases h
  · cases h
    split <;> decide
theorem size_c0 {s : ByteArray} {k p c : Nat} (h : size s k p = .error c) : c ≠ 0 := by
  unfold size at h
  split at h
  · rename_i c' hc
    cases h
    exact nxt_c0 hc
  · cases h
theorem dist_c0 {s : ByteArray} {B : List Int} {p c : Nat} (h : dist s B p = .error c) : c ≠ 0 := by
  unfold dist at h
  split at h
  · rename_i c' hc
    cases h
    exact sym_c0 hc
  · split at h
    · split at h
      · rename_i c' hc
        cases h
        exact nxt_c0 hc
      · cases h
    · cases h; decide
theorem rep_c0 {lim n d c : Nat} {out : List UInt8} (h : rep lim out n d = .error c) : c ≠ 0 := by
  unfold rep at h
  split at h
  · split at h
    · cases h
    · cases h; decide
  · cases h; decide
theorem copy_c0 {s : ByteArray} {lim k q c : Nat} {B : List Int} {out : List UInt8} (h : copy s lim B k q out = .error c) : c ≠ 0 := by
  unfold copy at h
  split at h
  · rename_i c' hc
    cases h
    exact size_c0 hc
  · split at h
    · rename_i c' hc
      cases h
      exact dist_c0 hc
    · split at h
      · rename_i c' hc
        cases h
        exact rep_c0 hc
      · cases h
theorem body_c0 {s : ByteArray} {lim : Nat} {A B : List Int} : ∀ {f p c : Nat} {l : List UInt8}, body s lim A B f p l = .error c → c ≠ 0
  | 0, _, _, _, h => by cases h; decide
  | f + 1, p, c, l, h => by
    cases hy : sym s A p with
    | error c' => rw [body_no hy] at h; cases h; exact sym_c0 hy
    | ok r =>
      obtain ⟨y, q1⟩ := r
      by_cases h1 : y < 256
      · by_cases h2 : l.length < lim
        · rw [body_byte hy h1 h2] at h
          exact body_c0 h
        · rw [body_full hy h1 h2] at h; cases h; decide
      · by_cases h2 : y = 256
        · rw [body_end hy h2] at h; cases h
        · by_cases h3 : 286 ≤ y
          · rw [body_bad hy h3] at h; cases h; decide
          · cases hc : copy s lim B (y - 257) q1 l with
            | error c' => rw [body_stop hy (by omega) (by omega) hc] at h; cases h; exact copy_c0 hc
            | ok r =>
              obtain ⟨l2, q2⟩ := r
              rw [body_copy hy (by omega) (by omega) hc] at h
              exact body_c0 h
theorem take_c0 {s : ByteArray} {lim : Nat} : ∀ {n p c : Nat} {l : List UInt8}, take s lim n p l = .error c → c ≠ 0
  | 0, _, _, _, h => by cases h
  | n + 1, p, c, l, h => by
    cases hn : nxt s 8 p with
    | error c' => rw [take_no hn] at h; cases h; exact nxt_c0 hn
    | ok v =>
      by_cases h2 : l.length < lim
      · rw [take_ok hn h2] at h; exact take_c0 h
      · rw [take_full hn h2] at h; cases h; decide
theorem lol_c0 {s : ByteArray} : ∀ {m i p c : Nat} {row : List Int}, lol s m i p row = .error c → c ≠ 0
  | 0, _, _, _, _, h => by cases h
  | m + 1, i, p, c, row, h => by
    cases hn : nxt s 3 p with
    | error c' => rw [lol_no hn] at h; cases h; exact nxt_c0 hn
    | ok v => rw [lol_ok hn] at h; exact lol_c0 h
theorem run_c0 {s : ByteArray} {zs l : List Int} {p c : Nat} (h : run s zs p l = .error c) : c ≠ 0 := by
  unfold run at h
  split at h
  · rename_i c' hc
    cases h
    exact sym_c0 hc
  · split at h
    · split at h
      · cases h; decide
      · split at h
        · rename_i c' hc
          cases h
          exact nxt_c0 hc
        · cases h
    · split at h
      · split at h
        · rename_i c' hc
          cases h
          exact nxt_c0 hc
        · cases h
      · split at h
        · split at h
          · rename_i c' hc
            cases h
            exact nxt_c0 hc
          · cases h
        · cases h
theorem lens_c0 {s : ByteArray} {zs : List Int} {count : Nat} : ∀ {f p c : Nat} {l : List Int}, lens s zs count f p l = .error c → c ≠ 0
  | 0, _, _, _, h => by cases h; decide
  | f + 1, p, c, l, h => by
    by_cases hlt : l.length < count
    · cases hr : run s zs p l with
      | error c' => rw [lens_no hlt hr] at h; cases h; exact run_c0 hr
      | ok r =>
        obtain ⟨⟨v, t⟩, q1⟩ := r
        by_cases ho : l.length + t ≤ count
        · rw [lens_more hlt hr ho] at h; exact lens_c0 h
        · rw [lens_over hlt hr ho] at h; cases h; decide
    · rw [lens_done hlt] at h; cases h
theorem plain_c0 {s : ByteArray} {lim p c : Nat} {out : List UInt8} (h : plain s lim p out = .error c) : c ≠ 0 := by
  unfold plain at h
  split at h
  · rename_i c' hc
    cases h
    exact nxt_c0 hc
  · split at h
    · rename_i c' hc
      cases h
      exact nxt_c0 hc
    · split at h
      · exact take_c0 h
      · cases h; decide
theorem own_c0 {s : ByteArray} {lim p c : Nat} {out : List UInt8} (h : own s lim p out = .error c) : c ≠ 0 := by
  unfold own at h
  split at h
  · rename_i c' hc
    cases h
    exact nxt_c0 hc
  · split at h
    · rename_i c' hc
      cases h
      exact nxt_c0 hc
    · split at h
      · rename_i c' hc
        cases h
        exact nxt_c0 hc
      · split at h
        · rename_i c' hc
          cases h
          exact lol_c0 hc
        · split at h
          · split at h
            · rename_i c' hc
              cases h
              exact lens_c0 hc
            · split at h
              · exact body_c0 h
              · cases h; decide
          · cases h; decide
theorem block_c0 {s : ByteArray} {lim k p c : Nat} {out : List UInt8} (h : block s lim k p out = .error c) : c ≠ 0 := by
  unfold block at h
  split at h
  · exact plain_c0 h
  · split at h
    · exact body_c0 h
    · split at h
      · exact own_c0 h
      · cases h; decide
theorem all_c0 {s : ByteArray} {lim : Nat} : ∀ {f q c : Nat} {l : List UInt8} {ks : List Int}, all s lim f q l ks = .error c → c ≠ 0
  | 0, _, _, _, _, h => by cases h; decide
  | f + 1, q, c, l, ks, h => by
    cases h1 : nxt s 1 q with
    | error c' => rw [all_no1 h1] at h; cases h; exact nxt_c0 h1
    | ok last =>
      cases h2 : nxt s 2 (q + 1) with
      | error c' => rw [all_no2 h1 h2] at h; cases h; exact nxt_c0 h2
      | ok k =>
        cases h3 : block s lim k (q + 3) l with
        | error c' => rw [all_no3 h1 h2 h3] at h; cases h; exact block_c0 h3
        | ok r =>
          obtain ⟨l2, q2⟩ := r
          by_cases h0 : last = 0
          · subst h0
            rw [all_more h1 h2 h3] at h
            exact all_c0 h
          · rw [all_end h1 h0 h2 h3] at h; cases h
theorem block_le {s : ByteArray} {lim k p q : Nat} {l L : List UInt8} (h : block s lim k p l = .ok (L, q)) (hl : l.length ≤ lim) : q ≤ 8 * s.size ∧ L.length ≤ lim := by
  unfold block at h
  split at h
  · unfold plain at h
    split at h
    · cases h
    · split at h
      · cases h
      · rename_i m hm
        split at h
        · have h2 := (nxt_ok hm).1
          have := take_ok' h (by omega) hl
          omega
        · cases h
  · split at h
    · have := body_ok fixS_good fixD_good h hl; omega
    · split at h
      · unfold own at h
        split at h
        · cases h
        · split at h
          · cases h
          · split at h
            · cases h
            · rename_i c hc
              have hc1 := (nxt_ok hc).1
              split at h
              · cases h
              · rename_i by_ q1 hlol
                have hlk := lol_ok' hlol hc1 (by decide)
                split at h
                · rename_i hck
                  have hby : GoodC by_ := goodC (may_ok (by rw [hlk.2.1]; decide) hlk.1 hck.2.2)
                  split at h
                  · cases h
                  · rename_i L2 q2 hlens
                    have hln := lens_ok hby (by rw [hlk.2.1]; decide) hlens hlk.2.2 rfl (Nat.zero_le _)
                    split at h
                    · rename_i hm
                      have g1 : GoodC (L2.take _) := goodC (may_ok (by rw [List.length_take]; omega) (valid_sub hln.1 (fun z hz => List.mem_of_mem_take hz)) hm.1)
                      have g2 : GoodC (L2.drop _) := goodC (may_ok (by rw [List.length_drop]; omega) (valid_sub hln.1 (fun z hz => List.mem_of_mem_drop hz)) hm.2.1)
                      have := body_ok g1 g2 h hl
                      omega
                    · cases h
                · cases h
      · cases h
theorem all_le {s : ByteArray} {lim : Nat} : ∀ {f q : Nat} {l : List UInt8} {ks : List Int} {R : (List UInt8 × Nat) × List Int}, all s lim f q l ks = .ok R → l.length ≤ lim → R.1.2 ≤ 8 * s.size ∧ R.1.1.length ≤ lim
  | 0, _, _, _, _, h, _ => by cases h
  | f + 1, q, l, ks, R, h, hl => by
    cases h1 : nxt s 1 q with
    | error c => rw [all_no1 h1] at h; cases h
    | ok last =>
      cases h2 : nxt s 2 (q + 1) with
      | error c => rw [all_no2 h1 h2] at h; cases h
      | ok k =>
        cases h3 : block s lim k (q + 3) l with
        | error c => rw [all_no3 h1 h2 h3] at h; cases h
        | ok r =>
          obtain ⟨l2, q2⟩ := r
          have hb := block_le h3 hl
          by_cases h0 : last = 0
          · subst h0
            rw [all_more h1 h2 h3] at h
            exact all_le h hb.2
          · rw [all_end h1 h0 h2 h3] at h
            cases h
            exact hb
end Nf
/-- no answer is the code 0 -/
theorem inf_c0 {s : ByteArray} {M c : Nat} (h : Nf.inflate s M = .error c) : c ≠ 0 := Nf.all_c0 h
theorem inf_le {s : ByteArray} {M q : Nat} {L : List UInt8} {ks : List Int} (h : Nf.inflate s M = .ok ((L, q), ks)) : q ≤ 8 * s.size ∧ L.length ≤ M := Nf.all_le (R := ((L, q), ks)) h (Nat.zero_le _)
end Go.Proofs.Ytejebodgfoihkaa

/- ZlibGet: both sides. -/
namespace Go.Proofs.Ytejebodgfoihkaa
open Go.RowKit

namespace Nf
/-- the sum that stands behind -/
def sumAt (s : ByteArray) (u : Nat) : Nat := Nm.big (fun i => byteAt s (2 + u + i)) 4
/-- what stands behind the packed text -/
def ztail (s : ByteArray) (r : Except Nat ((List UInt8 × Nat) × List Int)) : Except Nat (List UInt8) :=
  match r with
  | .error c => .error c
  | .ok ((L, q), _) => if 2 + (q + 7) / 8 + 4 ≤ s.size then (if s.size = 2 + (q + 7) / 8 + 4 ∧ ((sumAt s ((q + 7) / 8) : Nat) : Int) = Ad.more 1 L then .ok L else .error 1) else .error 2
/-- what a text of RFC 1950 makes -/
def zget (s : ByteArray) (lim : Int) : Except Nat (List UInt8) :=
  if s.size ≤ 9000 ∧ 0 ≤ lim ∧ lim ≤ 5000 then (if s.size < 2 then .error 2 else if hd (byteAt s 0) (byteAt s 1) = true then ztail s (inflate (s.extract 2 s.size) lim.toNat) else .error 1) else .error 1
def zV (r : Except Nat (List UInt8)) : Value := match r with | .ok L => .tuple #[.string ⟨L.toArray⟩, .int .i64 0] | .error c => .tuple #[.string ⟨#[]⟩, .int .i64 (c : Int)]
theorem zget_bad {s : ByteArray} {lim : Int} (h : ¬ (s.size ≤ 9000 ∧ 0 ≤ lim ∧ lim ≤ 5000)) : zget s lim = .error 1 := if_neg h
theorem zget_short {s : ByteArray} {lim : Int} (h : s.size ≤ 9000 ∧ 0 ≤ lim ∧ lim ≤ 5000) (h2 : s.size < 2) : zget s lim = .error 2 := by unfold zget; rw [if_pos h, if_pos h2]
theorem zget_head {s : ByteArray} {lim : Int} (h : s.size ≤ 9000 ∧ 0 ≤ lim ∧ lim ≤ 5000) (h2 : ¬ s.size < 2) (h3 : hd (byteAt s 0) (byteAt s 1) = false) : zget s lim = .error 1 := by unfold zget; rw [if_pos h, if_neg h2, if_neg (by rw [h3]; decide)]
theorem zget_go {s : ByteArray} {lim : Int} (h : s.size ≤ 9000 ∧ 0 ≤ lim ∧ lim ≤ 5000) (h2 : ¬ s.size < 2) (h3 : hd (byteAt s 0) (byteAt s 1) = true) : zget s lim = ztail s (inflate (s.extract 2 s.size) lim.toNat) := by unfold zget; rw [if_pos h, if_neg h2, if_pos h3]
theorem ztail_short {s : ByteArray} {L : List UInt8} {q u : Nat} {ks : List Int} (hu : u = (q + 7) / 8) (h : ¬ 2 + u + 4 ≤ s.size) : ztail s (.ok ((L, q), ks)) = .error 2 := by subst hu; unfold ztail; simp only [if_neg h]
theorem ztail_bad {s : ByteArray} {L : List UInt8} {q u : Nat} {ks : List Int} (hu : u = (q + 7) / 8) (h : 2 + u + 4 ≤ s.size) (h2 : ¬ (s.size = 2 + u + 4 ∧ ((sumAt s u : Nat) : Int) = Ad.more 1 L)) : ztail s (.ok ((L, q), ks)) = .error 1 := by subst hu; unfold ztail; simp only [if_pos h, if_neg h2]
theorem ztail_ok {s : ByteArray} {L : List UInt8} {q u : Nat} {ks : List Int} (hu : u = (q + 7) / 8) (h : 2 + u + 4 ≤ s.size) (h2 : s.size = 2 + u + 4 ∧ ((sumAt s u : Nat) : Int) = Ad.more 1 L) : ztail s (.ok ((L, q), ks)) = .ok L := by subst hu; unfold ztail; simp only [if_pos h, if_pos h2]
theorem sumAt_lt (s : ByteArray) (u : Nat) : sumAt s u < 4294967296 := Nat.lt_of_lt_of_le (Nm.big_lt _ (fun _ => byteAt_lt _ _) 4) (by decide)
end Nf
theorem extract_from (s : ByteArray) (A i : Nat) (h : A + i < s.size) : byteAt (s.extract A s.size) i = byteAt s (A + i) := by
  rw [← byteAt_eq _ i (by rw [ByteArray.size_extract]; omega), ← byteAt_eq _ (A + i) h, ByteArray.getElem_extract]
theorem big_congr {f g : Nat → Nat} : ∀ {n : Nat}, (∀ i, i < n → f i = g i) → Nm.big f n = Nm.big g n
  | 0, _ => rfl
  | n + 1, h => by
    unfold Nm.big
    rw [big_congr (fun i hi => h i (by omega)), h n (by omega)]

set_option linter.unusedSimpArgs false in
set_option maxHeartbeats 4000000 in
set_option maxRecDepth 20000 in
theorem impl_zlibGet (s : ByteArray) (lim : Int) (w : World) (hs : s.size ≤ 1048576) :
    Calls Try.prog 13 #[.string s, .int .i64 lim] w fun e w' => e = .returned (Nf.zV (Nf.zget s lim)) ∧ Below w.heap.size w w' := by
  by_cases hv : s.size ≤ 9000 ∧ 0 ≤ lim ∧ lim ≤ 5000
  · obtain ⟨M, rfl⟩ := Int.eq_ofNat_of_zero_le hv.2.1
    have hM : M ≤ 5000 := by omega
    have h9 := hv.1
    have d1 : decide ((s.size : Int) > 9000) = false := decide_eq_false (by omega)
    have d2 : decide ((9000 : Int) < (s.size : Int)) = false := decide_eq_false (by omega)
    have d3 : decide ((M : Int) < 0) = false := decide_eq_false (by omega)
    have d4 : decide ((M : Int) > 5000) = false := decide_eq_false (by omega)
    have d5 : decide ((5000 : Int) < (M : Int)) = false := decide_eq_false (by omega)
    by_cases h2 : s.size < 2
    · have h2i : (s.size : Int) < 2 := by omega
      have HF : Hid (Nf.zV (Nf.zget s (M : Int)) = .tuple #[.string ⟨#[]⟩, .int .i64 2]) := by show _ = _; rw [Nf.zget_short hv h2]; rfl
      clear hv
      go_enter Try.func13, Try.ntmps13
      go_wp2_with fail
      refine bodyPost_ret (v := .tuple #[.string ⟨#[]⟩, .int .i64 2]) (by simp [results, Try.results13, go_sem]) rfl ?_
      exact ⟨by rw [HF.out], Below.refl _ _⟩
    · have h2i : ¬ (s.size : Int) < 2 := by omega
      have hz0 : 0 < s.size := by omega
      have hz1 : 1 < s.size := by omega
      have hz0i : (0 : Int) < (s.size : Int) := by omega
      have hz1i : (1 : Int) < (s.size : Int) := by omega
      have hb0 := byteAt_eq s 0 hz0
      have hb1 := byteAt_eq s 1 hz1
      have ha := byteAt_lt s 0
      have hb := byteAt_lt s 1
      obtain ⟨a, hA⟩ : ∃ a, a = byteAt s 0 := ⟨_, rfl⟩
      obtain ⟨b, hB⟩ : ∃ b, b = byteAt s 1 := ⟨_, rfl⟩
      rw [← hA] at hb0 ha
      rw [← hB] at hb1 hb
      have hwa := wrap_i64_nat a (by omega)
      have hwb := wrap_i64_nat b (by omega)
      cases hh : Nf.hd a b with
      | false =>
        have HZ : Hid (∀ w : World, Calls Try.prog 23 #[.int .i64 (a : Int), .int .i64 (b : Int)] w fun e w' => e = .returned (.bool false) ∧ w' = w) := fun w => by have := zlibHead_any a b w ha hb; rw [hh] at this; exact this
        have HF : Hid (Nf.zV (Nf.zget s (M : Int)) = .tuple #[.string ⟨#[]⟩, .int .i64 1]) := by show _ = _; rw [Nf.zget_head hv h2 (by rw [← hA, ← hB]; exact hh)]; rfl
        clear hv hA hB hh
        go_enter Try.func13, Try.ntmps13
        go_wp2_with fail
        go_quiet ((go_at_call 23; exact Calls.quiet_of_same (HZ.out _)))
        go_wp2_with fail
        refine bodyPost_ret (v := .tuple #[.string ⟨#[]⟩, .int .i64 1]) (by simp [results, Try.results13, go_sem]) rfl ?_
        exact ⟨by rw [HF.out], below_d (Below.refl _ _) _⟩
      | true =>
        have HZ : Hid (∀ w : World, Calls Try.prog 23 #[.int .i64 (a : Int), .int .i64 (b : Int)] w fun e w' => e = .returned (.bool true) ∧ w' = w) := fun w => by have := zlibHead_any a b w ha hb; rw [hh] at this; exact this
        obtain ⟨t, ht⟩ : ∃ t, t = s.extract 2 s.size := ⟨_, rfl⟩
        have hts : t.size = s.size - 2 := by rw [ht, ByteArray.size_extract]; omega
        have hex : s.extract 2 s.size = t := ht.symm
        have HG : Hid (Nf.zget s (M : Int) = Nf.ztail s (Nf.inflate t M)) := by show _ = _; rw [Nf.zget_go hv h2 (by rw [← hA, ← hB]; exact hh), ht, Int.toNat_natCast]
        have HIN : Hid (∀ w : World, Calls Try.prog 15 #[.string t, .int .i64 (M : Int)] w fun e w' => e = .returned (infV t (M : Int)) ∧ Below w.heap.size w w') := fun w => impl_inflate t (M : Int) w (by omega)
        have HRS : Hid (Nf.res t (M : Int) = Nf.inflate t M) := Nf.res_ok (by omega) hM
        have HTT : Hid (t = s.extract 2 s.size) := ht
        clear hv hA hB hh
        cases hin : Nf.inflate t M with
        | error c =>
          have HF : Hid (Nf.zV (Nf.zget s (M : Int)) = .tuple #[.string ⟨#[]⟩, .int .i64 (c : Int)]) := by show _ = _; rw [HG.out, hin]; rfl
          have HIV : Hid (infV t (M : Int) = .tuple #[.string ⟨#[]⟩, .int .i64 0, .int .i64 (c : Int)]) := infV_no (HRS.out.trans hin)
          have hc0 : c ≠ 0 := inf_c0 hin
          have hci : ¬ (c : Int) = 0 := by omega
          have hcn : ((c : Int) != 0) = true := by simp; omega
          have HI2 : Hid (∀ w : World, Calls Try.prog 15 #[.string t, .int .i64 (M : Int)] w fun e w' => e = .returned (.tuple #[.string ⟨#[]⟩, .int .i64 0, .int .i64 (c : Int)]) ∧ Below w.heap.size w w') := fun w => by rw [← HIV.out]; exact HIN.out w
          clear ht hin HG HRS HIV HIN
          go_enter Try.func13, Try.ntmps13
          go_wp2_with fail
          go_quiet ((go_at_call 23; exact Calls.quiet_of_same (HZ.out _)))
          go_wp2_with fail
          refine (HI2.out _).mono ?_
          rintro e w2 ⟨rfl, b2⟩
          go_wp2_with fail
          refine bodyPost_ret (v := .tuple #[.string ⟨#[]⟩, .int .i64 (c : Int)]) (by simp [results, Try.results13, go_sem]) rfl ?_
          exact ⟨by rw [HF.out], (below_d (Below.refl _ _) _).trans b2⟩
        | ok r =>
          obtain ⟨⟨L, q⟩, ks⟩ := r
          have hq : q ≤ 8 * t.size ∧ L.length ≤ M := inf_le hin
          obtain ⟨u, hu⟩ : ∃ u, u = (q + 7) / 8 := ⟨_, rfl⟩
          have hut : u ≤ t.size := by omega
          have HIV : Hid (infV t (M : Int) = .tuple #[.string ⟨L.toArray⟩, .int .i64 (u : Int), .int .i64 0]) := by show _ = _; rw [hu]; exact infV_ok (HRS.out.trans hin)
          have HI2 : Hid (∀ w : World, Calls Try.prog 15 #[.string t, .int .i64 (M : Int)] w fun e w' => e = .returned (.tuple #[.string ⟨L.toArray⟩, .int .i64 (u : Int), .int .i64 0]) ∧ Below w.heap.size w w') := fun w => by rw [← HIV.out]; exact HIN.out w
          have HG2 : Hid (Nf.zget s (M : Int) = Nf.ztail s (.ok ((L, q), ks)) ∧ u = (q + 7) / 8) := ⟨by rw [HG.out, hin], hu⟩
          obtain ⟨v, hvv⟩ : ∃ v : Nat, v = 2 + u := ⟨_, rfl⟩
          have hvi : (2 : Int) + (u : Int) = (v : Int) := by omega
          have hvw : IntKind.i64.wrap ((2 : Int) + (u : Int)) = (v : Int) := by rw [hvi]; exact wrap_i64_nat v (by omega)
          have hvs : v ≤ s.size := by omega
          have hvsi : (v : Int) ≤ (s.size : Int) := by omega
          obtain ⟨y, hy⟩ : ∃ y, y = s.extract v s.size := ⟨_, rfl⟩
          have hys : y.size = s.size - v := by rw [hy, ByteArray.size_extract]; omega
          have hey : s.extract v s.size = y := hy.symm
          have HLS : Hid ((⟨L.toArray⟩ : ByteArray).size = L.length ∧ (⟨L.toArray⟩ : ByteArray).data.toList = L) := ⟨by simp [ByteArray.size], by simp⟩
          have hLb : L.length ≤ 5000 := by omega
          clear ht hin HG HRS HIV HIN hu hq
          by_cases h4 : v + 4 ≤ s.size
          · have HNG : Hid (∀ w : World, Calls Try.prog 24 #[.string y, .int .i64 0, .int .i64 4, .bool true] w fun e w' => e = .returned (.tuple #[.int .i64 ((Nf.sumAt s u : Nat) : Int), .bool true]) ∧ Below w.heap.size w w') := fun w => by
              have h1 := impl_numGet_high y 0 4 w (by omega) (by omega) (by omega) (by omega)
              have e : Nm.big (fun i => byteAt y (0 + i)) 4 = Nf.sumAt s u := big_congr (fun i hi => by rw [hy, Nat.zero_add, extract_from s v i (by omega), hvv])
              rw [e] at h1
              exact h1
            have hsl := Nf.sumAt_lt s u
            by_cases h5 : y.size > 4
            · have h5i : (y.size : Int) > 4 := by omega
              have h5b : decide ((4 : Int) < (y.size : Int)) = true := decide_eq_true (by omega)
              have HF : Hid (Nf.zV (Nf.zget s (M : Int)) = .tuple #[.string ⟨#[]⟩, .int .i64 1]) := by show _ = _; rw [HG2.out.1, Nf.ztail_bad HG2.out.2 (by omega) (fun g => by have := g.1; omega)]; rfl
              generalize Nf.sumAt s u = sm at *
              clear hy HTT hts hys hut hvv hvs h4 hLb HLS
              go_enter Try.func13, Try.ntmps13
              go_wp2_with fail
              go_quiet ((go_at_call 23; exact Calls.quiet_of_same (HZ.out _)))
              go_wp2_with fail
              refine (HI2.out _).mono ?_
              rintro e w2 ⟨rfl, b2⟩
              go_wp2_with fail
              refine (HNG.out _).mono ?_
              rintro e w3 ⟨rfl, b3⟩
              have HBB : Hid (Below w.heap.size w w3) := ((below_d (Below.refl _ _) _).trans b2).trans (b3.mono b2.size)
              clear b2 b3
              go_wp2_with fail
              refine bodyPost_ret (v := .tuple #[.string ⟨#[]⟩, .int .i64 1]) (by simp [results, Try.results13, go_sem]) rfl ?_
              exact ⟨by rw [HF.out], HBB.out⟩
            · have h5i : ¬ (y.size : Int) > 4 := by omega
              have h5b : decide ((4 : Int) < (y.size : Int)) = false := decide_eq_false (by omega)
              have HAD : Hid (∀ w : World, Calls Try.prog 25 #[.string ⟨L.toArray⟩] w fun e w' => e = .returned (.int .i64 (Ad.more 1 L)) ∧ Below w.heap.size w w') := fun w => by
                have := impl_adler32 ⟨L.toArray⟩ w (by rw [HLS.out.1]; unfold maxLen; omega)
                rw [HLS.out.2] at this
                exact this
              have HSZ : Hid (s.size = 2 + u + 4) := by show _ = _; omega
              obtain ⟨X, hX⟩ : ∃ X, X = Ad.more 1 L := ⟨_, rfl⟩
              rw [← hX] at HAD
              by_cases h6 : ((Nf.sumAt s u : Nat) : Int) = X
              · have HF : Hid (Nf.zV (Nf.zget s (M : Int)) = .tuple #[.string ⟨L.toArray⟩, .int .i64 0]) := by show _ = _; rw [HG2.out.1, Nf.ztail_ok HG2.out.2 (by omega) ⟨HSZ.out, by rw [h6, hX]⟩]; rfl
                generalize Nf.sumAt s u = sm at *
                have h6n : ((sm : Int) != X) = false := by rw [h6]; simp
                clear hy HTT hX hts hys hut hvv hvs h4 hLb HLS HSZ
                subst h6
                go_enter Try.func13, Try.ntmps13
                go_wp2_with fail
                go_quiet ((go_at_call 23; exact Calls.quiet_of_same (HZ.out _)))
                go_wp2_with fail
                refine (HI2.out _).mono ?_
                rintro e w2 ⟨rfl, b2⟩
                go_wp2_with fail
                refine (HNG.out _).mono ?_
                rintro e w3 ⟨rfl, b3⟩
                have HBB : Hid (Below w.heap.size w w3) := ((below_d (Below.refl _ _) _).trans b2).trans (b3.mono b2.size)
                clear b2 b3
                go_wp2_with fail
                refine (HAD.out _).mono ?_
                rintro e w4 ⟨rfl, b4⟩
                have HB4 : Hid (Below w.heap.size w w4) := HBB.out.trans (b4.mono HBB.out.size)
                clear b4
                go_wp2_with fail
                refine bodyPost_ret (v := .tuple #[.string ⟨L.toArray⟩, .int .i64 0]) (by simp [results, Try.results13, go_sem]) rfl ?_
                exact ⟨by rw [HF.out], HB4.out⟩
              · have HF : Hid (Nf.zV (Nf.zget s (M : Int)) = .tuple #[.string ⟨#[]⟩, .int .i64 1]) := by show _ = _; rw [HG2.out.1, Nf.ztail_bad HG2.out.2 (by omega) (fun g => h6 (by rw [hX]; exact g.2))]; rfl
                generalize Nf.sumAt s u = sm at *
                have h6n : ((sm : Int) != X) = true := by simp [h6]
                clear hy HTT hX hts hys hut hvv hvs h4 hLb HLS HSZ
                go_enter Try.func13, Try.ntmps13
                go_wp2_with fail
                go_quiet ((go_at_call 23; exact Calls.quiet_of_same (HZ.out _)))
                go_wp2_with fail
                refine (HI2.out _).mono ?_
                rintro e w2 ⟨rfl, b2⟩
                go_wp2_with fail
                refine (HNG.out _).mono ?_
                rintro e w3 ⟨rfl, b3⟩
                have HBB : Hid (Below w.heap.size w w3) := ((below_d (Below.refl _ _) _).trans b2).trans (b3.mono b2.size)
                clear b2 b3
                go_wp2_with fail
                refine (HAD.out _).mono ?_
                rintro e w4 ⟨rfl, b4⟩
                have HB4 : Hid (Below w.heap.size w w4) := HBB.out.trans (b4.mono HBB.out.size)
                clear b4
                go_wp2_with fail
                refine bodyPost_ret (v := .tuple #[.string ⟨#[]⟩, .int .i64 1]) (by simp [results, Try.results13, go_sem]) rfl ?_
                exact ⟨by rw [HF.out], HB4.out⟩
          · have HNG : Hid (∀ w : World, Calls Try.prog 24 #[.string y, .int .i64 0, .int .i64 4, .bool true] w fun e w' => e = .returned (.tuple #[.int .i64 0, .bool false]) ∧ w' = w) := fun w => impl_numGet_no y 0 4 true w (by omega) (fun g => by obtain ⟨_, _, _, _, g5⟩ := g; omega)
            have HF : Hid (Nf.zV (Nf.zget s (M : Int)) = .tuple #[.string ⟨#[]⟩, .int .i64 2]) := by show _ = _; rw [HG2.out.1, Nf.ztail_short HG2.out.2 (by omega)]; rfl
            clear hy HTT hts hys hut hvv hvs h4 hLb HLS
            go_enter Try.func13, Try.ntmps13
            go_wp2_with fail
            go_quiet ((go_at_call 23; exact Calls.quiet_of_same (HZ.out _)))
            go_wp2_with fail
            refine (HI2.out _).mono ?_
            rintro e w2 ⟨rfl, b2⟩
            go_wp2_with fail
            refine (HNG.out _).mono ?_
            rintro e w3 ⟨rfl, hw3⟩
            subst hw3
            have HBB : Hid (Below w.heap.size w w3) := (below_d (Below.refl _ _) _).trans b2
            clear b2
            go_wp2_with fail
            refine bodyPost_ret (v := .tuple #[.string ⟨#[]⟩, .int .i64 2]) (by simp [results, Try.results13, go_sem]) rfl ?_
            exact ⟨by rw [HF.out], HBB.out⟩
  · have HF : Hid (Nf.zV (Nf.zget s lim) = .tuple #[.string ⟨#[]⟩, .int .i64 1]) := by show _ = _; rw [Nf.zget_bad hv]; rfl
    by_cases h9 : s.size ≤ 9000
    · have d1 : decide ((s.size : Int) > 9000) = false := decide_eq_false (by omega)
      have d2 : decide ((9000 : Int) < (s.size : Int)) = false := decide_eq_false (by omega)
      by_cases hl : lim < 0
      · have d3 : decide (lim < 0) = true := decide_eq_true hl
        clear hv
        go_enter Try.func13, Try.ntmps13
        go_wp2_with fail
        refine bodyPost_ret (v := .tuple #[.string ⟨#[]⟩, .int .i64 1]) (by simp [results, Try.results13, go_sem]) rfl ?_
        exact ⟨by rw [HF.out], Below.refl _ _⟩
      · have d3 : decide (lim < 0) = false := decide_eq_false hl
        have d4 : decide (lim > 5000) = true := decide_eq_true (by omega)
        have d5 : decide ((5000 : Int) < lim) = true := decide_eq_true (by omega)
        clear hv
        go_enter Try.func13, Try.ntmps13
        go_wp2_with fail
        refine bodyPost_ret (v := .tuple #[.string ⟨#[]⟩, .int .i64 1]) (by simp [results, Try.results13, go_sem]) rfl ?_
        exact ⟨by rw [HF.out], Below.refl _ _⟩
    · have d1 : decide ((s.size : Int) > 9000) = true := decide_eq_true (by omega)
      have d2 : decide ((9000 : Int) < (s.size : Int)) = true := decide_eq_true (by omega)
      clear hv
      go_enter Try.func13, Try.ntmps13
      go_wp2_with fail
      refine bodyPost_ret (v := .tuple #[.string ⟨#[]⟩, .int .i64 1]) (by simp [results, Try.results13, go_sem]) rfl ?_
      exact ⟨by rw [HF.out], Below.refl _ _⟩
end Go.Proofs.Ytejebodgfoihkaa

/- ZlibGet of the specification, and the exact law. -/
namespace Go.Proofs.Ytejebodgfoihkaa
open Go.RowKit

set_option linter.unusedSimpArgs false in
set_option maxHeartbeats 4000000 in
set_option maxRecDepth 20000 in
theorem spec_zlibGet (s : ByteArray) (lim : Int) (w : World) (hs : s.size ≤ 1048576) :
    Calls Try.prog 12 #[.string s, .int .i64 lim] w fun e w' => e = .returned (Nf.zV (Nf.zget s lim)) ∧ Below w.heap.size w w' := by
  by_cases h9 : s.size ≤ 9000
  rotate_left
  · have d1 : decide ((s.size : Int) > 9000) = true := decide_eq_true (by omega)
    have d2 : decide ((9000 : Int) < (s.size : Int)) = true := decide_eq_true (by omega)
    have HF : Hid (Nf.zV (Nf.zget s lim) = .tuple #[.string ⟨#[]⟩, .int .i64 1]) := by show _ = _; rw [Nf.zget_bad (fun g => h9 g.1)]; rfl
    go_enter Try.func12, Try.ntmps12
    go_wp2_with fail
    refine bodyPost_ret (v := .tuple #[.string ⟨#[]⟩, .int .i64 1]) (by simp [results, Try.results12, go_sem]) rfl ?_
    exact ⟨by rw [HF.out], Below.refl _ _⟩
  have d1 : decide ((s.size : Int) > 9000) = false := decide_eq_false (by omega)
  have d2 : decide ((9000 : Int) < (s.size : Int)) = false := decide_eq_false (by omega)
  by_cases hl : 0 ≤ lim ∧ lim ≤ 5000
  rotate_left
  · have HIN : Hid (Calls Try.prog 20 #[.int .i64 lim, .int .i64 0, .int .i64 5000] w fun e w' => e = .returned (.bool false) ∧ w' = w) := l1In_no _ _ _ w hl
    have HF : Hid (Nf.zV (Nf.zget s lim) = .tuple #[.string ⟨#[]⟩, .int .i64 1]) := by show _ = _; rw [Nf.zget_bad (fun g => hl g.2)]; rfl
    clear hl
    go_enter Try.func12, Try.ntmps12
    go_wp2_with fail
    refine HIN.out.mono ?_
    rintro e w1 ⟨rfl, hw1⟩
    replace hw1 := hw1.symm
    subst hw1
    go_wp2_with fail
    refine bodyPost_ret (v := .tuple #[.string ⟨#[]⟩, .int .i64 1]) (by simp [results, Try.results12, go_sem]) rfl ?_
    exact ⟨by rw [HF.out], Below.refl _ _⟩
  have hv : s.size ≤ 9000 ∧ 0 ≤ lim ∧ lim ≤ 5000 := ⟨h9, hl⟩
  obtain ⟨M, rfl⟩ := Int.eq_ofNat_of_zero_le hl.1
  have hM : M ≤ 5000 := by omega
  have HIN : Hid (Calls Try.prog 20 #[.int .i64 (M : Int), .int .i64 0, .int .i64 5000] w fun e w' => e = .returned (.bool true) ∧ w' = w) := l1In_yes _ _ _ w (by omega) (by omega)
  clear hl
  by_cases h2 : s.size < 2
  · have h2i : (s.size : Int) < 2 := by omega
    have HF : Hid (Nf.zV (Nf.zget s (M : Int)) = .tuple #[.string ⟨#[]⟩, .int .i64 2]) := by show _ = _; rw [Nf.zget_short hv h2]; rfl
    clear hv
    go_enter Try.func12, Try.ntmps12
    go_wp2_with fail
    refine HIN.out.mono ?_
    rintro e w1 ⟨rfl, hw1⟩
    replace hw1 := hw1.symm
    subst hw1
    go_wp2_with fail
    refine bodyPost_ret (v := .tuple #[.string ⟨#[]⟩, .int .i64 2]) (by simp [results, Try.results12, go_sem]) rfl ?_
    exact ⟨by rw [HF.out], Below.refl _ _⟩
  have h2i : ¬ (s.size : Int) < 2 := by omega
  have hz0 : 0 < s.size := by omega
  have hz1 : 1 < s.size := by omega
  have hz0i : (0 : Int) < (s.size : Int) := by omega
  have hz1i : (1 : Int) < (s.size : Int) := by omega
  have hb0 := byteAt_eq s 0 hz0
  have hb1 := byteAt_eq s 1 hz1
  have ha := byteAt_lt s 0
  have hb := byteAt_lt s 1
  obtain ⟨a, hA⟩ : ∃ a, a = byteAt s 0 := ⟨_, rfl⟩
  obtain ⟨b, hB⟩ : ∃ b, b = byteAt s 1 := ⟨_, rfl⟩
  rw [← hA] at hb0 ha
  rw [← hB] at hb1 hb
  have hwa := wrap_i64_nat a (by omega)
  have hwb := wrap_i64_nat b (by omega)
  obtain ⟨m, hm⟩ : ∃ m, m = a % 16 := ⟨_, rfl⟩
  obtain ⟨d, hd⟩ : ∃ d, d = a / 16 := ⟨_, rfl⟩
  obtain ⟨S, hS⟩ : ∃ S, S = 256 * a + b := ⟨_, rfl⟩
  obtain ⟨r, hr⟩ : ∃ r, r = S % 31 := ⟨_, rfl⟩
  obtain ⟨k0, hk0⟩ : ∃ k0, k0 = b / 32 := ⟨_, rfl⟩
  obtain ⟨k, hk⟩ : ∃ k, k = k0 % 2 := ⟨_, rfl⟩
  have eS : (a : Int) * 256 + (b : Int) = (S : Int) := by omega
  have eSw : IntKind.i64.wrap ((a : Int) * 256 + (b : Int)) = (S : Int) := by rw [eS]; exact wrap_i64_nat S (by omega)
  have em : (a : Int).tmod 16 = (m : Int) := by rw [Int.tmod_eq_emod_of_nonneg (by omega)]; omega
  have em2 : (a : Int) % 16 = (m : Int) := by omega
  have ed : (a : Int).tdiv 16 = (d : Int) := by rw [Int.tdiv_eq_ediv_of_nonneg (by omega)]; omega
  have ed2 : (a : Int) / 16 = (d : Int) := by omega
  have er : (S : Int).tmod 31 = (r : Int) := by rw [Int.tmod_eq_emod_of_nonneg (by omega)]; omega
  have er2 : (S : Int) % 31 = (r : Int) := by omega
  have ek : (b : Int).tdiv 32 = (k0 : Int) := by rw [Int.tdiv_eq_ediv_of_nonneg (by omega)]; omega
  have ek2 : (b : Int) / 32 = (k0 : Int) := by omega
  have el : (k0 : Int).tmod 2 = (k : Int) := by rw [Int.tmod_eq_emod_of_nonneg (by omega)]; omega
  have el2 : (k0 : Int) % 2 = (k : Int) := by omega
  have hw1 := wrap_i64_nat m (by omega)
  have hw2 := wrap_i64_nat d (by omega)
  have hw3 := wrap_i64_nat r (by omega)
  have hw4 := wrap_i64_nat k0 (by omega)
  have hw5 := wrap_i64_nat k (by omega)
  have hk2 : k < 2 := by omega
  have HE : Hid (Nf.hd a b = (decide (m = 8) && (decide (d ≤ 7) && (decide (r = 0) && decide (k = 0))))) := by
    show _ = _
    unfold Nf.hd
    rw [← hm, ← hd, ← hS, ← hr, ← hk0, ← hk]
  have HAB : Hid (a = byteAt s 0 ∧ b = byteAt s 1) := ⟨hA, hB⟩
  have hSb : S ≤ 66000 := by omega
  clear hA hB hm hd hS hr hk0 hk eS
  by_cases hbad : Nf.hd a b = false
  · have HF : Hid (Nf.zV (Nf.zget s (M : Int)) = .tuple #[.string ⟨#[]⟩, .int .i64 1]) := by show _ = _; rw [Nf.zget_head hv h2 (by rw [← HAB.out.1, ← HAB.out.2]; exact hbad)]; rfl
    rw [HE.out] at hbad
    clear hv HE HAB
    by_cases c1 : m = 8
    · subst c1
      by_cases c2 : d ≤ 7
      · have c2i : decide ((d : Int) > 7) = false := decide_eq_false (by omega)
        have c2j : decide ((7 : Int) < (d : Int)) = false := decide_eq_false (by omega)
        by_cases c3 : r = 0
        · subst c3
          have c4 : k = 1 := by simp [c2] at hbad; omega
          subst c4
          clear hbad
          go_enter Try.func12, Try.ntmps12
          go_wp2_with fail
          refine HIN.out.mono ?_
          rintro e w1 ⟨rfl, hw1⟩
          replace hw1 := hw1.symm
          subst hw1
          go_wp2_with fail
          refine bodyPost_ret (v := .tuple #[.string ⟨#[]⟩, .int .i64 1]) (by simp [results, Try.results12, go_sem]) rfl ?_
          exact ⟨by rw [HF.out], Below.refl _ _⟩
        · have c3i : ((r : Int) != 0) = true := by simp; omega
          clear hbad
          go_enter Try.func12, Try.ntmps12
          go_wp2_with fail
          refine HIN.out.mono ?_
          rintro e w1 ⟨rfl, hw1⟩
          replace hw1 := hw1.symm
          subst hw1
          go_wp2_with fail
          refine bodyPost_ret (v := .tuple #[.string ⟨#[]⟩, .int .i64 1]) (by simp [results, Try.results12, go_sem]) rfl ?_
          exact ⟨by rw [HF.out], Below.refl _ _⟩
      · have c2i : decide ((d : Int) > 7) = true := decide_eq_true (by omega)
        have c2j : decide ((7 : Int) < (d : Int)) = true := decide_eq_true (by omega)
        clear hbad
        go_enter Try.func12, Try.ntmps12
        go_wp2_with fail
        refine HIN.out.mono ?_
        rintro e w1 ⟨rfl, hw1⟩
        replace hw1 := hw1.symm
        subst hw1
        go_wp2_with fail
        refine bodyPost_ret (v := .tuple #[.string ⟨#[]⟩, .int .i64 1]) (by simp [results, Try.results12, go_sem]) rfl ?_
        exact ⟨by rw [HF.out], Below.refl _ _⟩
    · have c1i : ((m : Int) != 8) = true := by simp; omega
      clear hbad
      go_enter Try.func12, Try.ntmps12
      go_wp2_with fail
      refine HIN.out.mono ?_
      rintro e w1 ⟨rfl, hw1⟩
      replace hw1 := hw1.symm
      subst hw1
      go_wp2_with fail
      refine bodyPost_ret (v := .tuple #[.string ⟨#[]⟩, .int .i64 1]) (by simp [results, Try.results12, go_sem]) rfl ?_
      exact ⟨by rw [HF.out], Below.refl _ _⟩
  have hgood : Nf.hd a b = true := by cases h : Nf.hd a b; exact absurd h hbad; rfl
  have hc : m = 8 ∧ d ≤ 7 ∧ r = 0 ∧ k = 0 := by
    have := HE.out
    rw [hgood] at this
    simpa using this.symm
  obtain ⟨c1, c2, c3, c4⟩ := hc
  subst c1 c3 c4
  have c2i : decide ((d : Int) > 7) = false := decide_eq_false (by omega)
  have c2j : decide ((7 : Int) < (d : Int)) = false := decide_eq_false (by omega)
  obtain ⟨t, ht⟩ : ∃ t, t = s.extract 2 s.size := ⟨_, rfl⟩
  have hts : t.size = s.size - 2 := by rw [ht, ByteArray.size_extract]; omega
  have hex : s.extract 2 s.size = t := ht.symm
  have HG : Hid (Nf.zget s (M : Int) = Nf.ztail s (Nf.inflate t M)) := by show _ = _; rw [Nf.zget_go hv h2 (by rw [← HAB.out.1, ← HAB.out.2]; exact hgood), ht, Int.toNat_natCast]
  have HL4 : Hid (Calls Try.prog 18 #[.string t, .int .i64 (M : Int)] w (L4End w t M)) := l4Inflate_any M t w (by omega) hM
  have HTS : Hid (t.size = s.size - 2) := hts
  clear hv hgood hbad HE HAB ht hts
  go_enter Try.func12, Try.ntmps12
  go_wp2_with fail
  refine HIN.out.mono ?_
  rintro e w0 ⟨rfl, hw0⟩
  replace hw0 := hw0.symm
  subst hw0
  clear HIN
  go_wp2_with fail
  refine HL4.out.mono ?_
  rintro e w1 ⟨rfl, b1, (⟨L, q, ks, vk, g1, g2, g3, g4, g5⟩ | ⟨c, p', l', vk, g1, g2, g3⟩)⟩
  · obtain ⟨u, hu⟩ : ∃ u, u = (q + 7) / 8 := ⟨_, rfl⟩
    have HG2 : Hid (Nf.zget s (M : Int) = Nf.ztail s (.ok ((L, q), ks)) ∧ u = (q + 7) / 8 ∧ Below w.heap.size w w1) := ⟨by rw [HG.out, g1], hu, b1⟩
    obtain ⟨R, hR⟩ : ∃ R, R = w.heap.size := ⟨_, rfl⟩
    rw [← hR] at g2
    have k4 : w1.cell? ⟨R, 4, none⟩ = some (.int .i64 0) := g2.cells.2.2.2.1
    have k1 := g2.cells.2.1
    obtain ⟨vo, hcc, hvo⟩ := g2
    have k3 : w1.cell? ⟨R, 3, none⟩ = some vo := by simp [World.cell?, hcc]
    have HTX : Hid (∀ m, Sem.run Try.prog (convert 30 9 vo) (w1.drewN m) = .ok (.string ⟨L.toArray⟩) (w1.drewN m)) := fun m => OwnT.text (hvo.drewN m)
    have e1 : ((q : Int) + 7) / 8 = (u : Int) := by omega
    have e2 : ((q : Int) + 7).tdiv 8 = (u : Int) := by rw [Int.tdiv_eq_ediv_of_nonneg (by omega)]; exact e1
    have hts := HTS.out
    have e3 := wrap_i64_nat u (by omega)
    have e4 : IntKind.i64.wrap ((q : Int) + 7) = (q : Int) + 7 := by have := wrap_i64_nat (q + 7) (by omega); rw [show ((q + 7 : Nat) : Int) = (q : Int) + 7 by omega] at this; exact this
    obtain ⟨v, hvv⟩ : ∃ v : Nat, v = 2 + u := ⟨_, rfl⟩
    have hvi : (2 : Int) + (u : Int) = (v : Int) := by omega
    have hvw : IntKind.i64.wrap ((2 : Int) + (u : Int)) = (v : Int) := by rw [hvi]; exact wrap_i64_nat v (by omega)
    obtain ⟨y, hy⟩ : ∃ y : Nat, y = v + 4 := ⟨_, rfl⟩
    have hyi : (v : Int) + 4 = (y : Int) := by omega
    have hyw : IntKind.i64.wrap ((v : Int) + 4) = (y : Int) := by rw [hyi]; exact wrap_i64_nat y (by omega)
    have hLb : L.length ≤ 5000 := by omega
    have hvb : v ≤ 20000 := by omega
    have hyb : y ≤ 20000 := by omega
    rw [← hR]
    clear g1 g3 hcc hvo HL4 hR hu HG b1 g4 g5 hts
    by_cases h4 : y ≤ s.size
    · have h4i : ¬ (y : Int) > (s.size : Int) := by omega
      have h4b : decide ((s.size : Int) < (y : Int)) = false := decide_eq_false (by omega)
      by_cases h5 : y < s.size
      · have h5b : decide ((y : Int) < (s.size : Int)) = true := decide_eq_true (by omega)
        have h5i : (y : Int) < (s.size : Int) := by omega
        have HF : Hid (Nf.zV (Nf.zget s (M : Int)) = .tuple #[.string ⟨#[]⟩, .int .i64 1]) := by show _ = _; rw [HG2.out.1, Nf.ztail_bad HG2.out.2.1 (by omega) (fun g => by have := g.1; omega)]; rfl
        clear hvv hy h4 h5 hLb
        go_wp2_with fail
        go_quiet (fail)
        go_wp2_with fail
        refine bodyPost_ret (v := .tuple #[.string ⟨#[]⟩, .int .i64 1]) (by simp [results, Try.results12, go_sem]) rfl ?_
        exact ⟨by rw [HF.out], below_d HG2.out.2.2 _⟩
      · have h5b : decide ((y : Int) < (s.size : Int)) = false := decide_eq_false (by omega)
        have h5n : decide (y < s.size) = false := decide_eq_false (by omega)
        have h5i : ¬ (y : Int) < (s.size : Int) := by omega
        have HLS : Hid ((⟨L.toArray⟩ : ByteArray).size = L.length ∧ (⟨L.toArray⟩ : ByteArray).data.toList = L) := ⟨by simp [ByteArray.size], by simp⟩
        have HAD : Hid (∀ w : World, Calls Try.prog 22 #[.string ⟨L.toArray⟩] w fun e w' => e = .returned (.int .i64 (Ad.more 1 L)) ∧ w' = w) := fun w => by
          have := spec_adler32 ⟨L.toArray⟩ w (by rw [HLS.out.1]; unfold maxLen; omega)
          rw [HLS.out.2] at this
          exact this
        have HFD : Hid (∀ w : World, Calls Try.prog 21 #[.string s, .int .i64 (v : Int), .int .i64 4, .bool true] w fun e w' => e = .returned (.int .i64 ((Nf.sumAt s u : Nat) : Int)) ∧ w' = w) := fun w => by
          have h1 := l1Field_big s v 4 w (by omega) (by omega) (by omega)
          have e : Nm.big (fun i => byteAt s (v + i)) 4 = Nf.sumAt s u := by rw [hvv]; rfl
          rw [e] at h1
          exact h1
        have HSZ : Hid (s.size = 2 + u + 4) := by show _ = _; omega
        obtain ⟨X, hX⟩ : ∃ X, X = Ad.more 1 L := ⟨_, rfl⟩
        rw [← hX] at HAD
        by_cases h6 : ((Nf.sumAt s u : Nat) : Int) = X
        · have HF : Hid (Nf.zV (Nf.zget s (M : Int)) = .tuple #[.string ⟨L.toArray⟩, .int .i64 0]) := by show _ = _; rw [HG2.out.1, Nf.ztail_ok HG2.out.2.1 (by omega) ⟨HSZ.out, by rw [h6, hX]⟩]; rfl
          generalize Nf.sumAt s u = sm at *
          have h6n : ((sm : Int) != X) = false := by rw [h6]; simp
          clear hvv hy h4 h5 hLb HSZ HLS hX
          subst h6
          have h6m : ((sm : Int) != (sm : Int)) = false := by simp
          go_wp2_with fail
          have htx := fun m => HTX.out m
          go_quiet (first | (go_at_call 21; exact Calls.quiet_of_same (HFD.out _)) | (go_at_call 22; exact Calls.quiet_of_same (HAD.out _)))
          generalize hwr : w1.drewN nq = w2
          have j3 : w2.cell? ⟨R, 3, none⟩ = some vo := by rw [← hwr]; exact k3
          have htx2 : Sem.run Try.prog (convert 30 9 vo) w2 = .ok (.string ⟨L.toArray⟩) w2 := by rw [← hwr]; exact HTX.out nq
          have HB2 : Hid (Below w.heap.size w w2) := by show Below _ _ _; rw [← hwr]; exact below_d HG2.out.2.2 _
          clear hwr htx k3 k4 k1
          go_wp2_with fail
          refine bodyPost_ret (v := .tuple #[.string ⟨L.toArray⟩, .int .i64 0]) (by simp [results, Try.results12, go_sem]) rfl ?_
          exact ⟨by rw [HF.out], HB2.out⟩
        · have HF : Hid (Nf.zV (Nf.zget s (M : Int)) = .tuple #[.string ⟨#[]⟩, .int .i64 1]) := by show _ = _; rw [HG2.out.1, Nf.ztail_bad HG2.out.2.1 (by omega) (fun g => h6 (by rw [hX]; exact g.2))]; rfl
          generalize Nf.sumAt s u = sm at *
          have h6n : ((sm : Int) != X) = true := by simp [h6]
          clear hvv hy h4 h5 hLb HSZ HLS hX
          go_wp2_with fail
          have htx := fun m => HTX.out m
          go_quiet (first | (go_at_call 21; exact Calls.quiet_of_same (HFD.out _)) | (go_at_call 22; exact Calls.quiet_of_same (HAD.out _)))
          go_wp2_with fail
          refine bodyPost_ret (v := .tuple #[.string ⟨#[]⟩, .int .i64 1]) (by simp [results, Try.results12, go_sem]) rfl ?_
          exact ⟨by rw [HF.out], below_d HG2.out.2.2 _⟩
    · have h4i : (y : Int) > (s.size : Int) := by omega
      have h4b : decide ((s.size : Int) < (y : Int)) = true := decide_eq_true (by omega)
      have HF : Hid (Nf.zV (Nf.zget s (M : Int)) = .tuple #[.string ⟨#[]⟩, .int .i64 2]) := by show _ = _; rw [HG2.out.1, Nf.ztail_short HG2.out.2.1 (by omega)]; rfl
      clear hvv hy h4 hLb
      go_wp2_with fail
      refine bodyPost_ret (v := .tuple #[.string ⟨#[]⟩, .int .i64 2]) (by simp [results, Try.results12, go_sem]) rfl ?_
      exact ⟨by rw [HF.out], HG2.out.2.2⟩
  · have HF : Hid (Nf.zV (Nf.zget s (M : Int)) = .tuple #[.string ⟨#[]⟩, .int .i64 (c : Int)] ∧ Below w.heap.size w w1) := ⟨by rw [HG.out, g1]; rfl, b1⟩
    obtain ⟨R, hR⟩ : ∃ R, R = w.heap.size := ⟨_, rfl⟩
    rw [← hR] at g3
    have k4 := g3.cells.2.2.2.1
    have hci : ¬ (c : Int) = 0 := by omega
    have hcn : ((c : Int) != 0) = true := by simp; omega
    rw [← hR]
    clear g1 g2 g3 HL4 hR b1
    go_wp2_with fail
    go_quiet (fail)
    go_wp2_with fail
    refine bodyPost_ret (v := .tuple #[.string ⟨#[]⟩, .int .i64 (c : Int)]) (by simp [results, Try.results12, go_sem]) rfl ?_
    exact ⟨by rw [HF.out.1], below_d HF.out.2 _⟩

theorem zV_parts (r : Except Nat (List UInt8)) : ∃ (o : ByteArray) (c : Int), Nf.zV r = .tuple #[.string o, .int .i64 c] := by
  cases r with
  | ok L => exact ⟨_, _, rfl⟩
  | error c => exact ⟨_, _, rfl⟩
set_option maxHeartbeats 2000000 in
theorem exZlibGet (s : ByteArray) (lim : Int) (hs : s.size ≤ maxLen) (_hw : (Lit.int .i64 lim).wf = true) (w : World) :
    Calls Try.prog 4 #[.string s, .int .i64 lim] w fun e w' => e = .returned (.bool true) ∧ Below w.heap.size w w' := by
  by_cases hbig : 1048576 < s.size
  · unfold maxLen at hs
    go_enter Try.func4, Try.ntmps4
    go_wp2_with fail
    go_ret
    exact ⟨rfl, Below.refl _ _⟩
  have hsm : s.size ≤ 1048576 := by omega
  obtain ⟨o, c, ho⟩ := zV_parts (Nf.zget s lim)
  have HSP : Hid (∀ w : World, Calls Try.prog 12 #[.string s, .int .i64 lim] w fun e w' => e = .returned (.tuple #[.string o, .int .i64 c]) ∧ Below w.heap.size w w') := fun w => by rw [← ho]; exact spec_zlibGet s lim w hsm
  have HIM : Hid (∀ w : World, Calls Try.prog 13 #[.string s, .int .i64 lim] w fun e w' => e = .returned (.tuple #[.string o, .int .i64 c]) ∧ Below w.heap.size w w') := fun w => by rw [← ho]; exact impl_zlibGet s lim w hsm
  clear ho
  go_enter Try.func4, Try.ntmps4
  go_wp2_with fail
  refine (HSP.out _).mono ?_
  rintro e w1 ⟨rfl, b1⟩
  go_wp2_with fail
  refine (HIM.out _).mono ?_
  rintro e w2 ⟨rfl, b2⟩
  go_wp2_with fail
  go_ret
  exact ⟨rfl, b1.trans (b2.mono b1.size)⟩
end Go.Proofs.Ytejebodgfoihkaa
