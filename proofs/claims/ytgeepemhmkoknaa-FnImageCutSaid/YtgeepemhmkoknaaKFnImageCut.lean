/- Texts laid together: PicOk, WiImage, AtTop, PicMath, CutMath, RowCode, KxBox, DrawCut, LawImageCut. -/
import Derived.Test.YtgeepemhmkoknaaImgDef
import Derived.Below
import Derived.Test.YtgeepemhmkoknaaWiInts
import Derived.Test.YtgeepemhmkoknaaBoxWalks
import Derived.Deep.DeepCutAuto
import Derived.Test.YtgeepemhmkoknaaAtWalks
import Derived.Test.YtgeepemhmkoknaaPtsWalks
import Derived.Test.YtgeepemhmkoknaaImplCut
import Derived.Test.YtgeepemhmkoknaaSpecCut
import Derived.Test.YtgeepemhmkoknaaImgOk3
import Derived.Test.YtgeepemhmkoknaaImgSpec3
import Derived.Test.YtgeepemhmkoknaaPicLaw
import Derived.Test.YtgeepemhmkoknaaDrawWalks
import Derived.Test.YtgeepemhmkoknaaAnyDraw
/- Small facts on pictures. -/
namespace Go.Proofs.Ytgeepemhmkoknaa
open Go.RowKit

theorem below_two (w : World) (o o' : Obj) : Below w.heap.size w ((w.alloc o).alloc o') := ((Below.refl _ _).alloc (Nat.le_refl _) _).alloc (by simp) _
theorem ok_open {k d wd hi : Int} {cs ps : List Int} (h : Im.okB k d wd hi cs ps = true) : Im.Ok k d wd hi cs ps := @of_decide_eq_true _ (Classical.propDecidable _) h
end Go.Proofs.Ytgeepemhmkoknaa

/- Two pictures that are the same, held against each other; pictures in boxes. -/
namespace Go.Proofs.Ytgeepemhmkoknaa
open Go.RowKit

theorem drewN_low (w : World) (m : Nat) : Below w.heap.size w (w.drewN m) := ⟨rfl, rfl, rfl, Nat.le_refl _, fun _ _ => rfl⟩

set_option maxHeartbeats 1000000 in
set_option maxRecDepth 20000 in
theorem wiImage_same (k d wd hi : Int) (n m : Nat) (cs ps : List Int) (hn : cs.length = n) (hm : ps.length = m) (hnl : n ≤ 1048576) (hml : m ≤ 1048576) (a : Option Addr) (c : Nat) (b : Option Addr) (cc : Nat) (a' : Option Addr) (c' : Nat) (b' : Option Addr) (cc' : Nat) (w : World) (h1 : Ints w a cs) (h2 : Ints w b ps) (h3 : Ints w a' cs) (h4 : Ints w b' ps) :
    Calls Try.prog 11 #[.agg #[.int .i64 k, .int .i64 d, .int .i64 wd, .int .i64 hi, .slice a n c, .slice b m cc], .agg #[.int .i64 k, .int .i64 d, .int .i64 wd, .int .i64 hi, .slice a' n c', .slice b' m cc']] w fun e w' => e = .returned (.bool true) ∧ Below w.heap.size w w' := by
  obtain ⟨W0, hW0⟩ : ∃ W0, W0 = (w.alloc (.cells #[.int .i64 k, .int .i64 d, .int .i64 wd, .int .i64 hi, .slice a n c, .slice b m cc] 25)).alloc (.cells #[.int .i64 k, .int .i64 d, .int .i64 wd, .int .i64 hi, .slice a' n c', .slice b' m cc'] 25) := ⟨_, rfl⟩
  have hB0 : Below w.heap.size w W0 := by rw [hW0]; exact ((Below.refl _ _).alloc (Nat.le_refl _) _).alloc (by simp) _
  have HC : Hid (∀ w', Ints w' a cs → Ints w' a' cs → Calls Try.prog 39 #[.slice a n c, .slice a' n c'] w' fun e w'' => e = .returned (.bool true) ∧ ∃ m, w'' = w'.drewN m) := fun w' g1 g2 => wiInts_same a c a' c' n cs w' g1 g2 hn (by omega)
  have HP : Hid (∀ w', Ints w' b ps → Ints w' b' ps → Calls Try.prog 39 #[.slice b m cc, .slice b' m cc'] w' fun e w'' => e = .returned (.bool true) ∧ ∃ m, w'' = w'.drewN m) := fun w' g1 g2 => wiInts_same b cc b' cc' m ps w' g1 g2 hm (by omega)
  have HI : Hid (∀ w', Below W0.heap.size W0 w' → Ints w' a cs ∧ Ints w' b ps ∧ Ints w' a' cs ∧ Ints w' b' ps) := fun w' b => ⟨(h1.kept hB0).kept b, (h2.kept hB0).kept b, (h3.kept hB0).kept b, (h4.kept hB0).kept b⟩
  have b0 : W0.cell? ⟨w.heap.size, 0, none⟩ = some (.int .i64 k) ∧ W0.cell? ⟨w.heap.size, 1, none⟩ = some (.int .i64 d) ∧ W0.cell? ⟨w.heap.size, 2, none⟩ = some (.int .i64 wd) ∧ W0.cell? ⟨w.heap.size, 3, none⟩ = some (.int .i64 hi) ∧ W0.cell? ⟨w.heap.size, 4, none⟩ = some (.slice a n c) ∧ W0.cell? ⟨w.heap.size, 5, none⟩ = some (.slice b m cc) := by
    rw [hW0]; exact box_kept (box_new w _ _ _ _ _ _ _) ((Below.refl _ _).alloc (Nat.le_refl _) _) (by simp)
  have b1 : W0.cell? ⟨w.heap.size + 1, 0, none⟩ = some (.int .i64 k) ∧ W0.cell? ⟨w.heap.size + 1, 1, none⟩ = some (.int .i64 d) ∧ W0.cell? ⟨w.heap.size + 1, 2, none⟩ = some (.int .i64 wd) ∧ W0.cell? ⟨w.heap.size + 1, 3, none⟩ = some (.int .i64 hi) ∧ W0.cell? ⟨w.heap.size + 1, 4, none⟩ = some (.slice a' n c') ∧ W0.cell? ⟨w.heap.size + 1, 5, none⟩ = some (.slice b' m cc') := by
    rw [hW0]
    have := box_new (w.alloc (.cells #[.int .i64 k, .int .i64 d, .int .i64 wd, .int .i64 hi, .slice a n c, .slice b m cc] 25)) (.int .i64 k) (.int .i64 d) (.int .i64 wd) (.int .i64 hi) (.slice a' n c') (.slice b' m cc') 25
    rw [World.size_alloc] at this; exact this
  obtain ⟨p0, p1, p2, p3, p4, p5⟩ := b0
  obtain ⟨q0, q1, q2, q3, q4, q5⟩ := b1
  have HB : Hid (Below w.heap.size w W0) := hB0
  clear h1 h2 h3 h4 hn hm hB0
  go_enter Try.func11, Try.ntmps11
  go_upto_region 1 with fail
  rw [← hW0]
  clear hW0
  go_wp2_with fail
  refine (HC.out _ (HI.out _ (Below.refl _ _)).1 (HI.out _ (Below.refl _ _)).2.2.1).mono ?_
  rintro e w1 ⟨rfl, m1, hw1⟩
  subst hw1
  go_wp2_with fail
  refine (HP.out _ (HI.out _ (drewN_low _ _)).2.1 (HI.out _ (drewN_low _ _)).2.2.2).mono ?_
  rintro e w2 ⟨rfl, m2, hw2⟩
  subst hw2
  go_wp2_with fail
  go_ret
  exact ⟨rfl, HB.out.trans ((drewN_low _ _).mono HB.out.size)⟩

/-- a picture in a box, its lists in memory -/
structure PB (w : World) (B : Nat) (k d wd hi : Int) (a : Option Addr) (n c : Nat) (cs : List Int) (b : Option Addr) (m cc : Nat) (ps : List Int) : Prop where
  lt : B < w.heap.size
  box : w.cell? ⟨B, 0, none⟩ = some (.int .i64 k) ∧ w.cell? ⟨B, 1, none⟩ = some (.int .i64 d) ∧ w.cell? ⟨B, 2, none⟩ = some (.int .i64 wd) ∧ w.cell? ⟨B, 3, none⟩ = some (.int .i64 hi) ∧ w.cell? ⟨B, 4, none⟩ = some (.slice a n c) ∧ w.cell? ⟨B, 5, none⟩ = some (.slice b m cc)
  i4 : Ints w a cs
  i5 : Ints w b ps
theorem PB.kept {w w' : World} {B n c m cc : Nat} {k d wd hi : Int} {a b : Option Addr} {cs ps : List Int} (h : PB w B k d wd hi a n c cs b m cc ps) (g : Below w.heap.size w w') : PB w' B k d wd hi a n c cs b m cc ps :=
  ⟨Nat.lt_of_lt_of_le h.lt g.size, box_kept h.box g h.lt, h.i4.kept g, h.i5.kept g⟩
theorem pb_new {w : World} {n c m cc : Nat} {k d wd hi : Int} {a b : Option Addr} {cs ps : List Int} (h4 : Ints w a cs) (h5 : Ints w b ps) : PB (w.alloc (.cells #[.int .i64 k, .int .i64 d, .int .i64 wd, .int .i64 hi, .slice a n c, .slice b m cc] 25)) w.heap.size k d wd hi a n c cs b m cc ps :=
  ⟨by simp, box_new w _ _ _ _ _ _ _, h4.kept ((Below.refl _ _).alloc (Nat.le_refl _) _), h5.kept ((Below.refl _ _).alloc (Nat.le_refl _) _)⟩
end Go.Proofs.Ytgeepemhmkoknaa

/- ImageAt of both sides, for every picture and place. -/
namespace Go.Proofs.Ytgeepemhmkoknaa
open Go.RowKit
namespace Im
/-- whether a point is there -/
noncomputable def atB (k d wd hi x y : Int) (cs ps : List Int) : Bool := okB k d wd hi cs ps && inB x y wd hi
/-- which it is -/
noncomputable def atV (k d wd hi x y : Int) (cs ps : List Int) : Int := if atB k d wd hi x y cs ps = true then ps.getD (y * wd + x).toNat 0 else 0
theorem at_no {k d wd hi x y : Int} {cs ps : List Int} (h : atB k d wd hi x y cs ps = false) : atV k d wd hi x y cs ps = 0 := by unfold atV; rw [h]; rfl
theorem at_yes {k d wd hi x y : Int} {cs ps : List Int} (h : atB k d wd hi x y cs ps = true) {pn I X Y Wd : Nat} (g : Spot wd hi x y pn I X Y Wd) : atV k d wd hi x y cs ps = ps.getD I 0 := by
  unfold atV; rw [if_pos h, g.x, g.y, g.wd, g.i]
  congr 1
theorem ok_of {k d wd hi : Int} {cs ps : List Int} (h : okB k d wd hi cs ps = true) : Ok k d wd hi cs ps := @of_decide_eq_true _ (Classical.propDecidable _) h
end Im

set_option maxHeartbeats 1000000 in
set_option maxRecDepth 20000 in
theorem impl_imageAt (k d wd hi x y : Int) (ca : Option Addr) (cn cc : Nat) (pa : Option Addr) (pn pc : Nat) (w : World) (cs ps : List Int) (hc : Ints w ca cs) (hcn : cs.length = cn) (hcl : cn ≤ 1048576) (hp : Ints w pa ps) (hpn : ps.length = pn) (hpl : pn ≤ 1048576) :
    Calls Try.prog 15 #[.agg #[.int .i64 k, .int .i64 d, .int .i64 wd, .int .i64 hi, .slice ca cn cc, .slice pa pn pc], .int .i64 x, .int .i64 y] w fun e w' => e = .returned (.tuple #[.int .i64 (Im.atV k d wd hi x y cs ps), .bool (Im.atB k d wd hi x y cs ps)]) ∧ Below w.heap.size w w' := by
  have hB0 : Below w.heap.size w (w.alloc (.cells #[.int .i64 k, .int .i64 d, .int .i64 wd, .int .i64 hi, .slice ca cn cc, .slice pa pn pc] 25)) := (Below.refl _ _).alloc (Nat.le_refl _) _
  have HOK := impl_imageOk k d wd hi ca cn cc pa pn pc _ cs ps (hc.kept hB0) hcn hcl (hp.kept hB0) hpn hpl
  have HIN : Hid (∀ w' : World, Calls Try.prog 50 #[.iface 52 (.agg #[.int .i64 k, .int .i64 d, .int .i64 wd, .int .i64 hi, .slice ca cn cc, .slice pa pn pc]), .int .i64 x, .int .i64 y] w' fun e w'' => e = .returned (.bool (inB x y wd hi)) ∧ Below w'.heap.size w' w'') := fun w' => inView_any k d wd hi x y ca cn cc pa pn pc w'
  cases hok : Im.okB k d wd hi cs ps
  · rw [hok] at HOK
    have HO : Hid (Calls Try.prog 13 #[.agg #[.int .i64 k, .int .i64 d, .int .i64 wd, .int .i64 hi, .slice ca cn cc, .slice pa pn pc]] (w.alloc (.cells #[.int .i64 k, .int .i64 d, .int .i64 wd, .int .i64 hi, .slice ca cn cc, .slice pa pn pc] 25)) fun e w' => e = .returned (.bool false) ∧ Below (w.alloc (.cells #[.int .i64 k, .int .i64 d, .int .i64 wd, .int .i64 hi, .slice ca cn cc, .slice pa pn pc] 25)).heap.size (w.alloc (.cells #[.int .i64 k, .int .i64 d, .int .i64 wd, .int .i64 hi, .slice ca cn cc, .slice pa pn pc] 25)) w') := HOK
    have hat : Im.atB k d wd hi x y cs ps = false := by unfold Im.atB; rw [hok]; rfl
    have HA : Hid (Im.atB k d wd hi x y cs ps = false ∧ Im.atV k d wd hi x y cs ps = 0) := ⟨hat, Im.at_no hat⟩
    clear HOK hat hok hc hp hcn hpn
    go_enter Try.func15, Try.ntmps15
    go_wp2_with fail
    refine HO.out.mono ?_
    rintro e w1 ⟨rfl, b1⟩
    have bel1 := hB0.trans (b1.mono (by simp))
    clear b1 HO hB0
    go_wp2_with fail
    go_ret2
    rw [HA.out.1, HA.out.2]
    exact ⟨rfl, bel1⟩
  · rw [hok] at HOK
    have HO : Hid (Calls Try.prog 13 #[.agg #[.int .i64 k, .int .i64 d, .int .i64 wd, .int .i64 hi, .slice ca cn cc, .slice pa pn pc]] (w.alloc (.cells #[.int .i64 k, .int .i64 d, .int .i64 wd, .int .i64 hi, .slice ca cn cc, .slice pa pn pc] 25)) fun e w' => e = .returned (.bool true) ∧ Below (w.alloc (.cells #[.int .i64 k, .int .i64 d, .int .i64 wd, .int .i64 hi, .slice ca cn cc, .slice pa pn pc] 25)).heap.size (w.alloc (.cells #[.int .i64 k, .int .i64 d, .int .i64 wd, .int .i64 hi, .slice ca cn cc, .slice pa pn pc] 25)) w') := HOK
    have hOk := Im.ok_of hok
    have HIP : Hid (∀ w', Below w.heap.size w w' → Ints w' pa ps) := fun w' b => hp.kept b
    by_cases hin : 0 ≤ x ∧ x < wd ∧ 0 ≤ y ∧ y < hi
    · obtain ⟨I, X, Y, Wd, hsp⟩ := spot_of (pn := pn) hOk.2.1 hOk.2.2.1 (by rw [← hpn]; exact hOk.2.2.2.2.1) hin
      have hat : Im.atB k d wd hi x y cs ps = true := by unfold Im.atB; rw [hok, inB_yes hin]; rfl
      have HA : Hid (Im.atB k d wd hi x y cs ps = true ∧ Im.atV k d wd hi x y cs ps = ps.getD I 0) := ⟨hat, Im.at_yes hat hsp⟩
      have HAT : Hid (∀ w', Ints w' pa ps → Calls Try.prog 51 #[.agg #[.int .i64 k, .int .i64 d, .int .i64 wd, .int .i64 hi, .slice ca cn cc, .slice pa pn pc], .int .i64 x, .int .i64 y] w' fun e w'' => e = .returned (.int .i64 (ps.getD I 0)) ∧ Below w'.heap.size w' w'') := fun w' h => at_any k d wd hi x y ca cn cc pa pn pc ps w' I X Y Wd hsp h hpn
      rw [inB_yes hin] at HIN
      clear HOK hat hok hc hp hcn hpn hOk hsp hin
      generalize ps.getD I 0 = v at *
      go_enter Try.func15, Try.ntmps15
      go_wp2_with fail
      refine HO.out.mono ?_
      rintro e w1 ⟨rfl, b1⟩
      obtain ⟨k0, k1, k2, k3, k4, k5⟩ := box_kept (box_new w _ _ _ _ _ _ 25) b1 (by simp)
      have bel1 := hB0.trans (b1.mono (by simp))
      have hlt1 : w.heap.size < w1.heap.size := Nat.lt_of_lt_of_le (by simp) b1.size
      clear b1 HO hB0
      go_wp2_with fail
      refine (HIN.out _).mono ?_
      rintro e w2 ⟨rfl, b2⟩
      obtain ⟨j0, j1, j2, j3, j4, j5⟩ := box_kept ⟨k0, k1, k2, k3, k4, k5⟩ b2 hlt1
      have bel2 := bel1.trans (b2.mono bel1.size)
      clear b2 bel1 k0 k1 k2 k3 k4 k5 hlt1
      go_wp2_with fail
      refine (HAT.out _ (HIP.out _ bel2)).mono ?_
      rintro e w3 ⟨rfl, b3⟩
      have bel3 := bel2.trans (b3.mono bel2.size)
      clear b3 bel2 j0 j1 j2 j3 j4 j5
      go_wp2_with fail
      go_ret2
      rw [HA.out.1, HA.out.2]
      exact ⟨rfl, bel3⟩
    · have hat : Im.atB k d wd hi x y cs ps = false := by unfold Im.atB; rw [inB_no hin]; simp
      have HA : Hid (Im.atB k d wd hi x y cs ps = false ∧ Im.atV k d wd hi x y cs ps = 0) := ⟨hat, Im.at_no hat⟩
      rw [inB_no hin] at HIN
      clear HOK hat hok hc hp hcn hpn hOk hin HIP
      go_enter Try.func15, Try.ntmps15
      go_wp2_with fail
      refine HO.out.mono ?_
      rintro e w1 ⟨rfl, b1⟩
      obtain ⟨k0, k1, k2, k3, k4, k5⟩ := box_kept (box_new w _ _ _ _ _ _ 25) b1 (by simp)
      have bel1 := hB0.trans (b1.mono (by simp))
      clear b1 HO hB0
      go_wp2_with fail
      refine (HIN.out _).mono ?_
      rintro e w2 ⟨rfl, b2⟩
      have bel2 := bel1.trans (b2.mono bel1.size)
      clear b2 bel1 k0 k1 k2 k3 k4 k5
      go_wp2_with fail
      go_ret2
      rw [HA.out.1, HA.out.2]
      exact ⟨rfl, bel2⟩

end Go.Proofs.Ytgeepemhmkoknaa

/- Lists of points (mathematics), and a point of a picture. -/
namespace Go.Proofs.Ytgeepemhmkoknaa
open Go.RowKit

theorem upto_getD (F : Nat → Int) {n j : Nat} (h : j < n) : (upto F n).getD j 0 = F j := by simp [upto, h]
theorem spot_lt {Wd Hi x y : Nat} (hx : x < Wd) (hy : y < Hi) : y * Wd + x < Wd * Hi := by
  have := Nat.mul_le_mul_right Wd (show y + 1 ≤ Hi by omega)
  rw [Nat.add_mul, Nat.one_mul, Nat.mul_comm Hi Wd] at this; omega
theorem split_at {Wd Hi j : Nat} (h : j < Wd * Hi) : ∃ x y, x < Wd ∧ y < Hi ∧ j = y * Wd + x := by
  have hW : 0 < Wd := by
    rcases Nat.eq_zero_or_pos Wd with e | e
    · subst e; omega
    · exact e
  refine ⟨j % Wd, j / Wd, Nat.mod_lt _ hW, ?_, ?_⟩
  · exact Nat.div_lt_of_lt_mul h
  · have := Nat.div_add_mod j Wd; rw [Nat.mul_comm] at this; omega
theorem getD_of {l : List Int} {j : Nat} (h : j < l.length) : l[j] = l.getD j 0 := by
  rw [List.getD_eq_getElem?_getD, List.getElem?_eq_getElem h]; rfl
theorem mem_getD {l : List Int} {j : Nat} (h : j < l.length) : l.getD j 0 ∈ l := by rw [← getD_of h]; exact List.getElem_mem h

/-- a point of a picture that is ok -/
theorem implAt_ok (k d : Int) (Wd Hi X Y : Nat) (ca : Option Addr) (cn cc : Nat) (pa : Option Addr) (pn pc : Nat) (cs ps : List Int) (w : World) (hc : Ints w ca cs) (hcn : cs.length = cn) (hcl : cn ≤ 1000) (hp : Ints w pa ps) (hpn : ps.length = pn) (hpl : pn ≤ 1000) (hok : Im.okB k d Wd Hi cs ps = true) (hX : X < Wd) (hY : Y < Hi) :
    Calls Try.prog 15 #[.agg #[.int .i64 k, .int .i64 d, .int .i64 (Wd : Int), .int .i64 (Hi : Int), .slice ca cn cc, .slice pa pn pc], .int .i64 (X : Int), .int .i64 (Y : Int)] w fun e w' => e = .returned (.tuple #[.int .i64 (ps.getD (Y * Wd + X) 0), .bool true]) ∧ Below w.heap.size w w' := by
  have hB : Im.atB k d Wd Hi X Y cs ps = true := by unfold Im.atB; rw [hok, inB_yes (by omega)]; rfl
  have hV : Im.atV k d Wd Hi X Y cs ps = ps.getD (Y * Wd + X) 0 := by
    unfold Im.atV; rw [if_pos hB]
    congr 1
  have := impl_imageAt k d Wd Hi X Y ca cn cc pa pn pc w cs ps hc hcn (by omega) hp hpn (by omega)
  rw [hB, hV] at this
  exact this

theorem ints_cells {w : World} {a : Option Addr} {l : List Int} (h : Ints w a l) (hl : 0 < l.length) : ∃ b off, a = some ⟨b, off, none⟩ ∧ ∀ k, k < l.length → w.cell? ⟨b, off + k, none⟩ = some (.int .i64 (l.getD k 0)) := by
  rcases h with e | ⟨b, off, rfl, _, hc⟩
  · rw [e] at hl; simp at hl
  · exact ⟨b, off, rfl, fun k hk => by rw [hc k hk, List.getD_eq_getElem?_getD, List.getElem?_eq_getElem hk]; rfl⟩
end Go.Proofs.Ytgeepemhmkoknaa

/- A part of a picture: what the law on it wants. -/
namespace Go.Proofs.Ytgeepemhmkoknaa
open Go.RowKit

def cutL (Wd X Y W H : Nat) (ps : List Int) : List Int := upto (ptF W (cutF Wd X Y ps)) (W * H)
theorem cutL_len (Wd X Y W H : Nat) (ps : List Int) : (cutL Wd X Y W H ps).length = W * H := upto_length _ _
theorem cutL_at {Wd X Y W H x y : Nat} (ps : List Int) (hx : x < W) (hy : y < H) : (cutL Wd X Y W H ps).getD (y * W + x) 0 = ps.getD ((Y + y) * Wd + (X + x)) 0 := by
  unfold cutL; rw [upto_getD _ (spot_lt hx hy), ptF_at _ hx]; rfl
theorem cutL_all {Wd Hi : Nat} {ps : List Int} (h : ps.length = Wd * Hi) : cutL Wd 0 0 Wd Hi ps = ps := by
  apply List.ext_getElem (by rw [cutL_len, h])
  intro j h1 h2
  rw [cutL_len] at h1
  obtain ⟨x, y, hx, hy, rfl⟩ := split_at h1
  rw [getD_of, getD_of, cutL_at _ hx hy, Nat.zero_add, Nat.zero_add]
theorem cutL_mem {Wd Hi X Y W H : Nat} {ps : List Int} (h : ps.length = Wd * Hi) (hX : X + W ≤ Wd) (hY : Y + H ≤ Hi) {z : Int} (hz : z ∈ cutL Wd X Y W H ps) : z ∈ ps := by
  obtain ⟨j, hj, rfl⟩ := List.getElem_of_mem hz
  have hj' := hj
  rw [cutL_len] at hj'
  obtain ⟨x, y, hx, hy, rfl⟩ := split_at hj'
  rw [getD_of, cutL_at _ hx hy]
  exact mem_getD (by rw [h]; exact spot_lt (by omega) (by omega))
theorem ok_cut {k d : Int} {Wd Hi X Y W H : Nat} {cs ps : List Int} (h : Im.okB k d Wd Hi cs ps = true) (hX : X + W ≤ Wd) (hY : Y + H ≤ Hi) (hW : 1 ≤ W) (hH : 1 ≤ H) : Im.okB k d W H cs (cutL Wd X Y W H ps) = true := by
  obtain ⟨h1, h2, h3, h4, h5, h6⟩ := ok_open h
  have e : ((Wd * Hi : Nat) : Int) = (Wd : Int) * (Hi : Int) := by simp
  have e' : ((W * H : Nat) : Int) = (W : Int) * (H : Int) := by simp
  exact Im.okB_yes ⟨h1, by omega, by omega, h4, by rw [cutL_len]; exact e', fun z hz => h6 z (cutL_mem (by omega) hX hY hz)⟩

theorem implCut_ok (k d : Int) (Wd Hi X Y W H : Nat) (ca : Option Addr) (cn cc : Nat) (pa : Option Addr) (pn pc : Nat) (cs ps : List Int) (w : World) (hc : Ints w ca cs) (hcn : cs.length = cn) (hcl : cn ≤ 1000) (hp : Ints w pa ps) (hpn : ps.length = pn) (hok : Im.okB k d Wd Hi cs ps = true) (hX : X + W ≤ Wd) (hY : Y + H ≤ Hi) (hW : 1 ≤ W) (hH : 1 ≤ H) :
    Calls Try.prog 20 #[.agg #[.int .i64 k, .int .i64 d, .int .i64 (Wd : Int), .int .i64 (Hi : Int), .slice ca cn cc, .slice pa pn pc], .int .i64 (X : Int), .int .i64 (Y : Int), .int .i64 (W : Int), .int .i64 (H : Int)] w fun e w' => (∃ x cx y cy, e = .returned (.tuple #[.agg #[.int .i64 k, .int .i64 d, .int .i64 (W : Int), .int .i64 (H : Int), .slice x cn cx, .slice y (W * H) cy], .bool true]) ∧ Ints w' x cs ∧ Ints w' y (cutL Wd X Y W H ps)) ∧ Below w.heap.size w w' := by
  obtain ⟨_, hw, hh, _, hm, _⟩ := ok_open hok
  have e : ((Wd * Hi : Nat) : Int) = (Wd : Int) * (Hi : Int) := by simp
  have hmm : pn = Wd * Hi := by omega
  have hmul : Wd * Hi ≤ 20 * 20 := Nat.mul_le_mul (by omega) (by omega)
  have hO := impl_imageOk k d Wd Hi ca cn cc pa pn pc ((w.alloc (.cells #[.int .i64 k, .int .i64 d, .int .i64 (Wd : Int), .int .i64 (Hi : Int), .slice ca cn cc, .slice pa pn pc] 25)).alloc (.cells #[.int .i64 0, .int .i64 0, .int .i64 0, .int .i64 0, .slice none 0 0, .slice none 0 0] 25)) cs ps (hc.kept (below_two _ _ _)) hcn (by omega) (hp.kept (below_two _ _ _)) hpn (by omega)
  rw [hok] at hO
  refine (impl_cut_yes k d Wd Hi ca cn cc pa pn pc X Y W H cs ps w hc hcn (by omega) hp hpn (by omega) (by omega) hmm hX hY hW hH hO).mono ?_
  rintro e w' ⟨⟨x, cx, y, cy, rfl, hT⟩, b⟩
  exact ⟨⟨x, cx, y, cy, rfl, (hT.two b.size).ints.1, (hT.two b.size).ints.2⟩, b⟩
theorem specCut_ok (k d : Int) (Wd Hi X Y W H : Nat) (ca : Option Addr) (cn cc : Nat) (pa : Option Addr) (pn pc : Nat) (cs ps : List Int) (w : World) (hc : Ints w ca cs) (hcn : cs.length = cn) (hcl : cn ≤ 1000) (hp : Ints w pa ps) (hpn : ps.length = pn) (hpc : pn ≤ pc) (hok : Im.okB k d Wd Hi cs ps = true) (hX : X + W ≤ Wd) (hY : Y + H ≤ Hi) (hW : 1 ≤ W) (hH : 1 ≤ H) :
    Calls Try.prog 21 #[.agg #[.int .i64 k, .int .i64 d, .int .i64 (Wd : Int), .int .i64 (Hi : Int), .slice ca cn cc, .slice pa pn pc], .int .i64 (X : Int), .int .i64 (Y : Int), .int .i64 (W : Int), .int .i64 (H : Int)] w fun e w' => (∃ x cx y cy, e = .returned (.tuple #[.agg #[.int .i64 k, .int .i64 d, .int .i64 (W : Int), .int .i64 (H : Int), .slice x cn cx, .slice y (W * H) cy], .bool true]) ∧ Ints w' x cs ∧ Ints w' y (cutL Wd X Y W H ps)) ∧ Below w.heap.size w w' := by
  obtain ⟨_, hw, hh, _, hm, _⟩ := ok_open hok
  have e : ((Wd * Hi : Nat) : Int) = (Wd : Int) * (Hi : Int) := by simp
  have hmm : pn = Wd * Hi := by omega
  have hO := spec_imageOk k d Wd Hi ca cn cc pa pn pc ((w.alloc (.cells #[.int .i64 k, .int .i64 d, .int .i64 (Wd : Int), .int .i64 (Hi : Int), .slice ca cn cc, .slice pa pn pc] 25)).alloc (.cells #[.int .i64 0, .int .i64 0, .int .i64 0, .int .i64 0, .slice none 0 0, .slice none 0 0] 25)) cs ps (hc.kept (below_two _ _ _)) hcn (by omega) (hp.kept (below_two _ _ _)) hpn
  rw [hok] at hO
  refine (spec_cut_yes k d Wd Hi ca cn cc pa pn pc X Y W H cs ps w hc hcn (by omega) hp hpn (by omega) (by omega) hmm hpc hX hY hW hH hO).mono ?_
  rintro e w' ⟨⟨x, cx, y, cy, rfl, h1, h2⟩, b⟩
  exact ⟨⟨x, cx, y, cy, rfl, h1, h2⟩, b⟩
theorem implCut_no (k d wd hi x y u v : Int) (ca : Option Addr) (cn cc : Nat) (pa : Option Addr) (pn pc : Nat) (cs ps : List Int) (w : World) (hc : Ints w ca cs) (hcn : cs.length = cn) (hcl : cn ≤ 1000) (hp : Ints w pa ps) (hpn : ps.length = pn) (hpl : pn ≤ 1000) (hno : Im.okB k d wd hi cs ps = true → ¬ CutOk wd hi x y u v) :
    Calls Try.prog 20 #[.agg #[.int .i64 k, .int .i64 d, .int .i64 wd, .int .i64 hi, .slice ca cn cc, .slice pa pn pc], .int .i64 x, .int .i64 y, .int .i64 u, .int .i64 v] w fun e w' => e = .returned (.tuple #[.agg #[.int .i64 0, .int .i64 0, .int .i64 0, .int .i64 0, .slice none 0 0, .slice none 0 0], .bool false]) ∧ Below w.heap.size w w' := by
  have hO := impl_imageOk k d wd hi ca cn cc pa pn pc ((w.alloc (.cells #[.int .i64 k, .int .i64 d, .int .i64 wd, .int .i64 hi, .slice ca cn cc, .slice pa pn pc] 25)).alloc (.cells #[.int .i64 0, .int .i64 0, .int .i64 0, .int .i64 0, .slice none 0 0, .slice none 0 0] 25)) cs ps (hc.kept (below_two _ _ _)) hcn (by omega) (hp.kept (below_two _ _ _)) hpn (by omega)
  rcases hok : Im.okB k d wd hi cs ps with _ | _
  · rw [hok] at hO; exact impl_cut_bad k d wd hi x y u v ca cn cc pa pn pc w hO
  · rw [hok] at hO
    obtain ⟨_, hw, hh, _, _, _⟩ := ok_open hok
    exact impl_cut_out k d wd hi x y u v ca cn cc pa pn pc w (by omega) (by omega) (hno hok) hO
theorem specCut_no (k d wd hi x y u v : Int) (ca : Option Addr) (cn cc : Nat) (pa : Option Addr) (pn pc : Nat) (cs ps : List Int) (w : World) (hc : Ints w ca cs) (hcn : cs.length = cn) (hcl : cn ≤ 1000) (hp : Ints w pa ps) (hpn : ps.length = pn) (hno : Im.okB k d wd hi cs ps = true → ¬ CutOk wd hi x y u v) :
    Calls Try.prog 21 #[.agg #[.int .i64 k, .int .i64 d, .int .i64 wd, .int .i64 hi, .slice ca cn cc, .slice pa pn pc], .int .i64 x, .int .i64 y, .int .i64 u, .int .i64 v] w fun e w' => e = .returned (.tuple #[.agg #[.int .i64 0, .int .i64 0, .int .i64 0, .int .i64 0, .slice none 0 0, .slice none 0 0], .bool false]) ∧ Below w.heap.size w w' := by
  have hO := spec_imageOk k d wd hi ca cn cc pa pn pc ((w.alloc (.cells #[.int .i64 k, .int .i64 d, .int .i64 wd, .int .i64 hi, .slice ca cn cc, .slice pa pn pc] 25)).alloc (.cells #[.int .i64 0, .int .i64 0, .int .i64 0, .int .i64 0, .slice none 0 0, .slice none 0 0] 25)) cs ps (hc.kept (below_two _ _ _)) hcn (by omega) (hp.kept (below_two _ _ _)) hpn
  rcases hok : Im.okB k d wd hi cs ps with _ | _
  · rw [hok] at hO; exact spec_cut_bad k d wd hi x y u v ca cn cc pa pn pc w hO
  · rw [hok] at hO
    obtain ⟨_, hw, hh, _, _, _⟩ := ok_open hok
    exact spec_cut_out k d wd hi x y u v ca cn cc pa pn pc w (by omega) (by omega) (hno hok) hO
end Go.Proofs.Ytgeepemhmkoknaa

/- A slice of bytes that came in is a code that can be read. -/
namespace Go.Proofs.Ytgeepemhmkoknaa
open Go.RowKit

theorem addr_add (b off i : Nat) : (⟨b, off, none⟩ : Addr).add i = ⟨b, off + i, none⟩ := by
  simp [Addr.add]; try omega

theorem code8_of {w : World} {a : Option Addr} {len cap : Nat} {zs : List Int}
    (h : (a = none ∧ len = 0 ∧ cap = 0 ∧ zs = []) ∨ ∃ x, a = some x ∧ len ≤ cap ∧ cap ≤ maxLen ∧ zs.length = cap ∧ (∀ i, i < zs.length → w.cell? (x.add i) = some (.int .u8 (zs.getD i 0))) ∧ ∀ n ∈ zs, (Lit.int .u8 n).wf = true) :
    Code8 w a len cap := by
  rcases h with ⟨rfl, rfl, rfl, rfl⟩ | ⟨x, rfl, hl, hm, hz, hcell, hwz⟩
  · exact ⟨Nat.le_refl _, Nat.zero_le _, .inl rfl⟩
  · refine ⟨hl, hm, ?_⟩
    by_cases h0 : len = 0
    · exact .inl h0
    · obtain ⟨b, off, spot⟩ := x
      have hc := hcell 0 (by omega)
      have hspot : spot = none := by simpa [Addr.add] using World.cell?_spot hc
      subst hspot
      rw [addr_add] at hc
      refine .inr ⟨b, off, rfl, World.block_lt_of_cell? _ _ hc, fun i hi => ?_⟩
      have h1 := hcell i (by omega)
      rw [addr_add] at h1
      have hmem : zs.getD i 0 ∈ zs := by
        rw [List.getD_eq_getElem?_getD, List.getElem?_eq_getElem (by omega)]
        exact List.getElem_mem _
      have hw := bounds_u8 (hwz _ hmem)
      exact ⟨(zs.getD i 0).toNat, by omega, by rw [h1, Int.toNat_of_nonneg hw.1]⟩
end Go.Proofs.Ytgeepemhmkoknaa

/- For pictures drawn with places: the box of a picture beside the reader. -/
namespace Go.Proofs.Ytgeepemhmkoknaa
open Go.RowKit

theorem setRow_setRow (w : World) (g : Nat) (a b : Array Value) : (w.setRow g a).setRow g b = w.setRow g b := by
  unfold World.setRow
  simp only
  congr 1
  apply Array.ext_getElem?
  intro i
  rw [Array.getElem?_modify, Array.getElem?_modify, Array.getElem?_modify]
  by_cases e : g = i
  · subst e
    simp only [if_true]
    cases w.heap[g]? with
    | none => rfl
    | some o => cases o <;> rfl
  · simp [e]
theorem setRow_setCell {w : World} {g : Nat} {cur : Array Value} {t : TypeId} (h : w.heap[g]? = some (.cells cur t (0, 0))) (a : Array Value) (i : Nat) (v : Value) : (w.setRow g a).setCell ⟨g, i, none⟩ v = w.setRow g (a.setIfInBounds i v) := by
  rw [setCell_eq_setRow (w.setRow g a) g i a t (0, 0) v (setRow_heap w g cur a t (0, 0) h), setRow_setRow]
theorem six_row {w : World} {g : Nat} {t : TypeId} {a0 a1 a2 a3 a4 a5 : Value} (h : w.heap[g]? = some (.cells #[a0, a1, a2, a3, a4, a5] t (0, 0))) (v0 v1 v2 v3 v4 v5 : Value) :
    (((((w.setCell ⟨g, 0, none⟩ v0).setCell ⟨g, 1, none⟩ v1).setCell ⟨g, 2, none⟩ v2).setCell ⟨g, 3, none⟩ v3).setCell ⟨g, 4, none⟩ v4).setCell ⟨g, 5, none⟩ v5 = w.setRow g #[v0, v1, v2, v3, v4, v5] := by
  rw [setCell_eq_setRow w g 0 _ t (0, 0) v0 h, setRow_setCell h, setRow_setCell h, setRow_setCell h, setRow_setCell h, setRow_setCell h]
  rfl

/-- a number from 0 to 40 -/
def least40 (z : Int) : Nat := if z < 0 then 0 else if 40 < z then 40 else z.toNat
theorem least40_le (z : Int) : least40 z ≤ 40 := by unfold least40; split <;> (try split) <;> omega

set_option maxHeartbeats 400000 in
theorem l1Least_any (z : Int) (w : World) :
    Calls Try.prog 53 #[.int .i64 z] w fun e w' => e = .returned (.int .i64 (least40 z : Int)) ∧ w' = w := by
  by_cases h1 : z < 0
  · rw [show least40 z = 0 from if_pos h1]
    go_enter Try.func53, Try.ntmps53
    go_wp2_with fail
    go_ret
    exact ⟨rfl, rfl⟩
  · by_cases h2 : 40 < z
    · rw [show least40 z = 40 by unfold least40; rw [if_neg h1, if_pos h2]]
      go_enter Try.func53, Try.ntmps53
      go_wp2_with fail
      go_ret
      exact ⟨rfl, rfl⟩
    · rw [show ((least40 z : Nat) : Int) = z by unfold least40; rw [if_neg h1, if_neg h2]; omega]
      go_enter Try.func53, Try.ntmps53
      go_wp2_with fail
      go_ret
      exact ⟨rfl, rfl⟩

/-- the box of a picture, a result's box, beside the reader -/
structure KX (w wc : World) (B R X lo q : Nat) (k d wd hi : Int) (a : Option Addr) (n c : Nat) (cs : List Int) (b : Option Addr) (m cc : Nat) (ps : List Int) : Prop where
  rd : RdAt wc B q
  res : wc.heap[R]? = some (.cells #[.int .i64 0, .int .i64 0, .int .i64 0, .int .i64 0, .slice none 0 0, .slice none 0 0] 25 (0, 0))
  box : wc.heap[X]? = some (.cells #[.int .i64 k, .int .i64 d, .int .i64 wd, .int .i64 hi, .slice a n c, .slice b m cc] 25 (0, 0))
  i4 : IntsFrom wc lo a cs
  i5 : IntsFrom wc lo b ps
  bel : Below w.heap.size w wc
  hR : R ≠ B
  hX : X ≠ B
  hlo : B < lo
  hRlo : R < lo
  hB : w.heap.size ≤ B
theorem KX.pick {w wc w' : World} {B R X lo q n c m cc : Nat} {k d wd hi : Int} {a b : Option Addr} {cs ps : List Int} (h : KX w wc B R X lo q k d wd hi a n c cs b m cc ps) (hr : RdAt w' B (q + 1)) (ho : Only B wc w') : KX w w' B R X lo (q + 1) k d wd hi a n c cs b m cc ps :=
  { h with rd := hr, res := (ho.rest _ (lt_of_block h.res) h.hR).trans h.res, box := (ho.rest _ (lt_of_block h.box) h.hX).trans h.box, i4 := h.i4.only ho h.hlo, i5 := h.i5.only ho h.hlo, bel := h.bel.trans (ho.below.mono h.hB) }
theorem KX.drew {w wc : World} {B R X lo q n c m cc : Nat} {k d wd hi : Int} {a b : Option Addr} {cs ps : List Int} (h : KX w wc B R X lo q k d wd hi a n c cs b m cc ps) : KX w wc.drew B R X lo q k d wd hi a n c cs b m cc ps :=
  { h with rd := h.rd.drew, res := h.res, box := h.box, i4 := h.i4, i5 := h.i5, bel := h.bel.drew }

theorem wrap_small (s : Int) (h1 : -1000 ≤ s) (h2 : s ≤ 1000) : IntKind.i64.wrap s = s := by
  simp [IntKind.wrap, IntKind.bits, IntKind.signed]; omega
theorem IntsFrom.old {w : World} {lo : Nat} {a : Option Addr} {zs : List Int} (h : IntsFrom w lo a zs) (o : Obj) : IntsFrom (w.alloc o) lo a zs := by
  rcases h with e | ⟨b, off, rfl, h1, h2, h3⟩
  · exact .inl e
  · exact .inr ⟨b, off, rfl, h1, by simp; omega, fun i hi => by rw [World.cell?_alloc_past _ _ _ h2]; exact h3 i hi⟩
/-- the picture's box behind the store into the result's -/
theorem row_keeps {w wc : World} {B R X lo q n c m cc : Nat} {k d wd hi : Int} {a b : Option Addr} {cs ps : List Int} (h : KX w wc B R X lo q k d wd hi a n c cs b m cc ps) (hRX : R ≠ X) (new : Array Value) :
    (wc.setRow R new).cell? ⟨X, 0, none⟩ = some (.int .i64 k) ∧ (wc.setRow R new).cell? ⟨X, 1, none⟩ = some (.int .i64 d) ∧ (wc.setRow R new).cell? ⟨X, 2, none⟩ = some (.int .i64 wd) ∧ (wc.setRow R new).cell? ⟨X, 3, none⟩ = some (.int .i64 hi) ∧ (wc.setRow R new).cell? ⟨X, 4, none⟩ = some (.slice a n c) ∧ (wc.setRow R new).cell? ⟨X, 5, none⟩ = some (.slice b m cc) :=
  (box6 ((setRow_other wc R X new (fun e => hRX e.symm)).trans h.box)).1

end Go.Proofs.Ytgeepemhmkoknaa

/- A picture and a part of it, drawn. -/
namespace Go.Proofs.Ytgeepemhmkoknaa
open Go.RowKit

/-- some picture, a place and a size -/
def CutOut (lo : Nat) (e : Ending) (w' : World) : Prop := ∃ (k d wd hi : Int) (a : Option Addr) (n c : Nat) (cs : List Int) (b : Option Addr) (m cc : Nat) (ps : List Int) (x y u v : Nat),
  e = .returned (.tuple #[.agg #[.int .i64 k, .int .i64 d, .int .i64 wd, .int .i64 hi, .slice a n c, .slice b m cc], .int .i64 (x : Int), .int .i64 (y : Int), .int .i64 (u : Int), .int .i64 (v : Int)]) ∧ IntsFrom w' lo a cs ∧ cs.length = n ∧ n ≤ 1000 ∧ n ≤ c ∧ IntsFrom w' lo b ps ∧ ps.length = m ∧ m ≤ 1000 ∧ m ≤ cc ∧
  (0 ≤ k ∧ k ≤ 100 ∧ 0 ≤ d ∧ d ≤ 100 ∧ 0 ≤ wd ∧ wd ≤ 100 ∧ 0 ≤ hi ∧ hi ≤ 100) ∧ x ≤ 100 ∧ y ≤ 100 ∧ u ≤ 100 ∧ v ≤ 100

set_option maxHeartbeats 4000000 in
set_option maxRecDepth 20000 in
theorem drawImageCut_any (a0 : Option Addr) (len cap : Nat) (w : World) (h : Code8 w a0 len cap) :
    Calls Try.prog 19 #[.slice a0 len cap] w fun e w' => CutOut w.heap.size e w' ∧ Below w.heap.size w w' := by
  obtain ⟨W0, hW0⟩ : ∃ W0, W0 = w.alloc (.cells #[.int .i64 0, .int .i64 0, .int .i64 0, .int .i64 0, .slice none 0 0, .slice none 0 0] 25) := ⟨_, rfl⟩
  have hs0 : w.heap.size < W0.heap.size := by rw [hW0]; simp
  have hB0 : Below w.heap.size w W0 := by rw [hW0]; exact (Below.refl _ _).alloc (Nat.le_refl _) _
  have HZ0 : Hid (W0.heap[w.heap.size]? = some (.cells #[.int .i64 0, .int .i64 0, .int .i64 0, .int .i64 0, .slice none 0 0, .slice none 0 0] 25 (0, 0))) := by rw [hW0]; exact heap_alloc_new _ _
  have HOP : Hid (Calls Try.prog 37 #[.slice a0 len cap] W0 fun e w' => e = .returned (.pointer (some ⟨W0.heap.size, 0, none⟩)) ∧ RdAt w' W0.heap.size 0 ∧ Below W0.heap.size W0 w') := open_any a0 len cap W0 (h.kept hB0)
  have HB0 : Hid (Below w.heap.size w W0) := hB0
  clear h hB0
  go_enter Try.func19, Try.ntmps19
  go_upto_region 1 with fail
  rw [← hW0]
  clear hW0
  go_wp2_with fail
  refine HOP.out.mono ?_
  rintro e w1 ⟨rfl, hR, b1⟩
  have hR1 := hR.lt
  have HAN : Hid (Calls Try.prog 36 #[.pointer (some ⟨W0.heap.size, 0, none⟩)] w1 fun e w' => AnyOut w1.heap.size e w' ∧ (∃ q, q ≤ 0 + 6000 ∧ RdAt w' W0.heap.size q) ∧ Only W0.heap.size w1 w') := l14Any_any W0.heap.size 0 w1 hR (by omega)
  have HB1 : Hid (Below W0.heap.size W0 w1) := b1
  have hsz1 := b1.size
  clear HOP hR b1
  go_wp2_with fail
  refine HAN.out.mono ?_
  rintro e w3 ⟨⟨k, d, wd, hi, a, n, c, cs, b, m, cc, ps, rfl, i4, l4, l4', k4, i5, l5, l5', k5, bd⟩, ⟨q, hq, hR3⟩, hO3⟩
  have hsz3 : w1.heap.size ≤ w3.heap.size := hO3.below.size
  have HK : Hid (KX w (w3.alloc (.cells #[.int .i64 k, .int .i64 d, .int .i64 wd, .int .i64 hi, .slice a n c, .slice b m cc] 25)) W0.heap.size w.heap.size w3.heap.size w1.heap.size q k d wd hi a n c cs b m cc ps) :=
    ⟨hR3.alloc _, (heap_alloc_old _ _ (by omega)).trans ((hO3.rest _ (by omega) (by omega)).trans ((HB1.out.block _ (by omega)).trans HZ0.out)), heap_alloc_new _ _, i4.old _, i5.old _, (HB0.out.trans ((HB1.out.mono (by omega)).trans (hO3.below.mono (by omega)))).alloc (by omega) _, by omega, by omega, by omega, by omega, by omega⟩
  have hRX : w.heap.size ≠ w3.heap.size := by omega
  have HL : Hid (cs.length = n ∧ n ≤ 1000 ∧ n ≤ c ∧ ps.length = m ∧ m ≤ 1000 ∧ m ≤ cc ∧ 0 ≤ k ∧ k ≤ 100 ∧ 0 ≤ d ∧ d ≤ 100 ∧ 0 ≤ wd ∧ wd ≤ 100 ∧ 0 ≤ hi ∧ hi ≤ 100) := ⟨l4, l4', k4, l5, l5', k5, bd⟩
  clear HAN i4 i5 hR3 hO3 l4 l4' k4 l5 l5' k5 bd HB0 HB1 HZ0 hsz3 hR1
  obtain ⟨lw, hlw⟩ : ∃ lw, lw = least40 wd := ⟨_, rfl⟩
  obtain ⟨lh, hlh⟩ : ∃ lh, lh = least40 hi := ⟨_, rfl⟩
  have HLW : Hid (∀ w : World, Calls Try.prog 53 #[.int .i64 wd] w fun e w' => e = .returned (.int .i64 (lw : Int)) ∧ w' = w) := fun w => by rw [hlw]; exact l1Least_any wd w
  have HLH : Hid (∀ w : World, Calls Try.prog 53 #[.int .i64 hi] w fun e w' => e = .returned (.int .i64 (lh : Int)) ∧ w' = w) := fun w => by rw [hlh]; exact l1Least_any hi w
  have hlwb : lw ≤ 40 := by rw [hlw]; exact least40_le _
  have hlhb : lh ≤ 40 := by rw [hlh]; exact least40_le _
  clear hlw hlh
  go_upto_region 3 with fail
  generalize w3.alloc (.cells #[.int .i64 k, .int .i64 d, .int .i64 wd, .int .i64 hi, .slice a n c, .slice b m cc] 25) = W4 at *
  generalize w3.heap.size = X at *
  generalize w1.heap.size = lo at *
  generalize W0.heap.size = B at *
  obtain ⟨⟨z0, z1, z2, z3, z4, z5⟩, y0, y1, y2, y3, y4, y5⟩ := box6 HK.out.box
  clear y0 y1 y2 y3 y4 y5
  go_wp2_with fail
  refine (HLW.out _).mono ?_
  rintro e w7 ⟨rfl, hw7⟩
  replace hw7 := hw7.symm
  subst hw7
  go_wp2_with fail
  refine (pick_named B q _ _ HK.out.rd (by omega) (by omega) (by omega)).mono ?_
  rintro e w8 ⟨vx, rfl, hvx, hR8, hO8, hs8⟩
  have HK8 : Hid (KX w w8 B w.heap.size X lo (q + 1) k d wd hi a n c cs b m cc ps) := HK.out.pick hR8 hO8
  clear HK hR8 hO8 hs8 z0 z1 z2 z3 z4 z5
  obtain ⟨⟨z0, z1, z2, z3, z4, z5⟩, y0, y1, y2, y3, y4, y5⟩ := box6 HK8.out.box
  clear y0 y1 y2 y3 y4 y5
  go_wp2_with fail
  refine (HLH.out _).mono ?_
  rintro e w7 ⟨rfl, hw7⟩
  replace hw7 := hw7.symm
  subst hw7
  go_wp2_with fail
  refine (pick_named B (q + 1) _ _ HK8.out.rd (by omega) (by omega) (by omega)).mono ?_
  rintro e w9 ⟨vy, rfl, hvy, hR9, hO9, hs9⟩
  have HK9 : Hid (KX w w9 B w.heap.size X lo (q + 1 + 1) k d wd hi a n c cs b m cc ps) := HK8.out.pick hR9 hO9
  clear HK8 hR9 hO9 hs9 z0 z1 z2 z3 z4 z5
  obtain ⟨aw, haw⟩ : ∃ aw : Nat, aw = lw - vx := ⟨_, rfl⟩
  obtain ⟨ah, hah⟩ : ∃ ah : Nat, ah = lh - vy := ⟨_, rfl⟩
  obtain ⟨nw, hnw⟩ : ∃ nw : Nat, nw = aw + 2 := ⟨_, rfl⟩
  obtain ⟨nh, hnh⟩ : ∃ nh : Nat, nh = ah + 2 := ⟨_, rfl⟩
  have e1 : (lw : Int) - (vx : Int) = (aw : Int) := by omega
  have e2 : (lh : Int) - (vy : Int) = (ah : Int) := by omega
  have e3 : (aw : Int) + 2 = (nw : Int) := by omega
  have e4 : (ah : Int) + 2 = (nh : Int) := by omega
  have f1 := wrap_i64_nat nw (by omega)
  have f2 := wrap_i64_nat nh (by omega)
  have f3 := wrap_i64_nat aw (by omega)
  have f4 := wrap_i64_nat ah (by omega)
  have hnwb : 1 ≤ nw ∧ nw ≤ 42 := by omega
  have hnhb : 1 ≤ nh ∧ nh ≤ 42 := by omega
  have hvb : vx ≤ 100 ∧ vy ≤ 100 := by omega
  clear hnw hnh haw hah hvx hvy
  go_wp2_with fail
  have HD : Hid (KX w w9.drew B w.heap.size X lo (q + 1 + 1) k d wd hi a n c cs b m cc ps) := HK9.out.drew
  obtain ⟨⟨z0, z1, z2, z3, z4, z5⟩, y0, y1, y2, y3, y4, y5⟩ := box6 HK9.out.box
  clear y0 y1 y2 y3 y4 y5
  go_region_held3 (fun w' => w'.cell? ⟨X, 0, none⟩ = some (.int .i64 k) ∧ w'.cell? ⟨X, 1, none⟩ = some (.int .i64 d) ∧ w'.cell? ⟨X, 2, none⟩ = some (.int .i64 wd) ∧ w'.cell? ⟨X, 3, none⟩ = some (.int .i64 hi) ∧ w'.cell? ⟨X, 4, none⟩ = some (.slice a n c) ∧ w'.cell? ⟨X, 5, none⟩ = some (.slice b m cc)) (first | go_keep | (rw [six_row HK6.out.res]; exact row_keeps HK6.out hRX _)) (first | (go_at_call 53; refine (HLW.out _).mono ?_; rintro e w' ⟨rfl, rfl⟩) | (go_at_call 53; refine (HLH.out _).mono ?_; rintro e w' ⟨rfl, rfl⟩) | (go_at_call 52; refine (pick_named B (q + 1 + 1 + 1) _ _ HK5.out.rd (by omega) (by omega) (by omega)).mono ?_; rintro e w6 ⟨v6, rfl, hv6, hR6, hO6, hs6⟩; have HK6 : Hid (KX w w6 B w.heap.size X lo (q + 1 + 1 + 1 + 1) k d wd hi a n c cs b m cc ps) := HK5.out.pick hR6 hO6; obtain ⟨⟨b0, b1, b2, b3, b4, b5⟩, _⟩ := box6 HK6.out.box; obtain ⟨⟨r0, r1, r2, r3, r4, r5⟩, g0, g1, g2, g3, g4, g5⟩ := box6 HK6.out.res; have hv6b : v6 ≤ 100 := (by omega); clear hR6 hO6 hs6 hv6) | (go_at_call 52; refine (pick_named B (q + 1 + 1) _ _ HD.out.rd (by omega) (by omega) (by omega)).mono ?_; rintro e w5 ⟨v5, rfl, hv5, hR5, hO5, hs5⟩; have HK5 : Hid (KX w w5 B w.heap.size X lo (q + 1 + 1 + 1) k d wd hi a n c cs b m cc ps) := HD.out.pick hR5 hO5; obtain ⟨⟨a0', a1', a2', a3', a4', a5'⟩, _⟩ := box6 HK5.out.box; have hv5b : v5 ≤ 100 := (by omega); clear hR5 hO5 hs5 hv5))
  all_goals
    rw [six_row HK6.out.res]
    clear r0 r1 r2 r3 r4 r5 g0 g1 g2 g3 g4 g5 b0 b1 b2 b3 b4 b5 z0 z1 z2 z3 z4 z5 a0' a1' a2' a3' a4' a5' HLW HLH
    obtain ⟨⟨c0, c1, c2, c3, c4, c5⟩, _⟩ := box6 (setRow_heap w6 w.heap.size _ #[.int .i64 k, .int .i64 d, .int .i64 wd, .int .i64 hi, .slice a n c, .slice b m cc] _ _ HK6.out.res)
    obtain ⟨g1, g2, g3, g4, g5, g6, g8⟩ := HL.out
    go_wp2_with fail
    refine bodyPost_ret (v := .tuple #[.agg #[.int .i64 k, .int .i64 d, .int .i64 wd, .int .i64 hi, .slice a n c, .slice b m cc], .int .i64 (vx : Int), .int .i64 (vy : Int), .int .i64 (v5 : Int), .int .i64 (v6 : Int)]) (by simp [results, Try.results19, go_sem, c0, c1, c2, c3, c4, c5]) rfl ⟨⟨k, d, wd, hi, a, n, c, cs, b, m, cc, ps, vx, vy, v5, v6, rfl, (HK6.out.i4.row HK6.out.hRlo _).lower (Nat.le_of_lt HK6.out.hRlo), g1, g2, g3, (HK6.out.i5.row HK6.out.hRlo _).lower (Nat.le_of_lt HK6.out.hRlo), g4, g5, g6, g8, hvb.1, hvb.2, hv5b, hv6b⟩, HK6.out.bel.trans ((below_setRow _ _ _).mono (Nat.le_refl _))⟩

end Go.Proofs.Ytgeepemhmkoknaa

/- The law on parts of pictures, walked. -/
namespace Go.Proofs.Ytgeepemhmkoknaa
open Go.RowKit

set_option maxHeartbeats 8000000 in
set_option maxRecDepth 20000 in
theorem lawImageCut (ra : Option Addr) (len cap : Nat) (w : World) (h : Code8 w ra len cap) :
    Calls Try.prog 5 #[.slice ra len cap] w fun e w' => e = .returned (.bool true) ∧ Below w.heap.size w w' := by
  by_cases hbig : 1048576 < len
  · have hc := h.2.1
    have hc1 := h.1
    unfold maxLen at hc
    clear h
    go_enter Try.func5, Try.ntmps5
    go_wp2_with fail
    go_ret
    exact ⟨rfl, Below.refl _ _⟩
  · go_enter Try.func5, Try.ntmps5
    go_wp2_with fail
    refine (drawImageCut_any ra len cap w h).mono ?_
    rintro e w1 ⟨⟨k, d, wd, hi, a, n, c, cs, b, m, cc, ps, px, py, pu, pv, rfl, i4, l4, l4', k4, i5, l5, l5', k5, bd, bx1, bx2, bx3, bx4⟩, b1⟩
    clear h
    by_cases hyes : Im.okB k d wd hi cs ps = true ∧ CutOk wd hi px py pu pv
    · obtain ⟨hok, hcut⟩ := hyes
      obtain ⟨_, hw, hh, _, hmm, _⟩ := ok_open hok
      obtain ⟨Wd, rfl⟩ := Int.eq_ofNat_of_zero_le (show 0 ≤ wd by omega)
      obtain ⟨Hi, rfl⟩ := Int.eq_ofNat_of_zero_le (show 0 ≤ hi by omega)
      obtain ⟨q1, q2, q3, q4, q5, q6⟩ := hcut
      have hX : px + pu ≤ Wd := by omega
      have hY : py + pv ≤ Hi := by omega
      have hU : 1 ≤ pu := by omega
      have hV : 1 ≤ pv := by omega
      have hWH : ((Wd * Hi : Nat) : Int) = (Wd : Int) * (Hi : Int) := by simp
      have hm : m = Wd * Hi := by omega
      obtain ⟨q, hq⟩ : ∃ q, q = pu * pv := ⟨_, rfl⟩
      have hq4 : q ≤ 400 := by rw [hq]; exact Nat.mul_le_mul (show pu ≤ 20 by omega) (show pv ≤ 20 by omega)
      have hqi : (pu : Int) * (pv : Int) = (q : Int) := by rw [hq]; simp
      obtain ⟨L, hL⟩ : ∃ L, L = cutL Wd px py pu pv ps := ⟨_, rfl⟩
      have hLl : L.length = q := by rw [hL, cutL_len, hq]
      have hokL : Im.okB k d pu pv cs L = true := by rw [hL]; exact ok_cut hok hX hY hU hV
      have HIC : Hid (∀ w1 : World, Ints w1 a cs → Ints w1 b ps → Calls Try.prog 20 #[.agg #[.int .i64 k, .int .i64 d, .int .i64 (Wd : Int), .int .i64 (Hi : Int), .slice a n c, .slice b m cc], .int .i64 (px : Int), .int .i64 (py : Int), .int .i64 (pu : Int), .int .i64 (pv : Int)] w1 fun e w' => (∃ x cx y cy, e = .returned (.tuple #[.agg #[.int .i64 k, .int .i64 d, .int .i64 (pu : Int), .int .i64 (pv : Int), .slice x n cx, .slice y q cy], .bool true]) ∧ Ints w' x cs ∧ Ints w' y L) ∧ Below w1.heap.size w1 w') := fun w1 g1 g2 => by rw [hL, hq]; exact implCut_ok k d Wd Hi px py pu pv a n c b m cc cs ps w1 g1 l4 l4' g2 l5 hok hX hY hU hV
      have HSC : Hid (∀ w1 : World, Ints w1 a cs → Ints w1 b ps → Calls Try.prog 21 #[.agg #[.int .i64 k, .int .i64 d, .int .i64 (Wd : Int), .int .i64 (Hi : Int), .slice a n c, .slice b m cc], .int .i64 (px : Int), .int .i64 (py : Int), .int .i64 (pu : Int), .int .i64 (pv : Int)] w1 fun e w' => (∃ x cx y cy, e = .returned (.tuple #[.agg #[.int .i64 k, .int .i64 d, .int .i64 (pu : Int), .int .i64 (pv : Int), .slice x n cx, .slice y q cy], .bool true]) ∧ Ints w' x cs ∧ Ints w' y L) ∧ Below w1.heap.size w1 w') := fun w1 g1 g2 => by rw [hL, hq]; exact specCut_ok k d Wd Hi px py pu pv a n c b m cc cs ps w1 g1 l4 l4' g2 l5 k5 hok hX hY hU hV
      have HIA : Hid (∀ w1 : World, Ints w1 a cs → Ints w1 b ps → Calls Try.prog 20 #[.agg #[.int .i64 k, .int .i64 d, .int .i64 (Wd : Int), .int .i64 (Hi : Int), .slice a n c, .slice b m cc], .int .i64 0, .int .i64 0, .int .i64 (Wd : Int), .int .i64 (Hi : Int)] w1 fun e w' => (∃ x cx y cy, e = .returned (.tuple #[.agg #[.int .i64 k, .int .i64 d, .int .i64 (Wd : Int), .int .i64 (Hi : Int), .slice x n cx, .slice y m cy], .bool true]) ∧ Ints w' x cs ∧ Ints w' y ps) ∧ Below w1.heap.size w1 w') := fun w1 g1 g2 => by
        have := implCut_ok k d Wd Hi 0 0 Wd Hi a n c b m cc cs ps w1 g1 l4 l4' g2 l5 hok (by omega) (by omega) (by omega) (by omega)
        rw [cutL_all (by omega), ← hm] at this; exact this
      have HOC : Hid (∀ (x : Option Addr) (cx : Nat) (y : Option Addr) (cy : Nat) (w1 : World), Ints w1 x cs → Ints w1 y L → Calls Try.prog 13 #[.agg #[.int .i64 k, .int .i64 d, .int .i64 (pu : Int), .int .i64 (pv : Int), .slice x n cx, .slice y q cy]] w1 fun e w' => e = .returned (.bool true) ∧ Below w1.heap.size w1 w') := fun x cx y cy w1 g1 g2 => by
        have := impl_imageOk k d (pu : Int) (pv : Int) x n cx y q cy w1 cs L g1 l4 (by omega) g2 hLl (by omega)
        rw [hokL] at this; exact this
      have HAT : Hid (∀ (j : Nat), j < q → ∃ (u v uu vv : Nat) (z : Int), (u : Int) = (j : Int) % (pu : Int) ∧ (v : Int) = (j : Int) / (pu : Int) ∧ uu = px + u ∧ vv = py + v ∧ uu ≤ 100 ∧ vv ≤ 100 ∧
          (∀ (x : Option Addr) (cx : Nat) (y : Option Addr) (cy : Nat) (w1 : World), Ints w1 x cs → Ints w1 y L → Calls Try.prog 15 #[.agg #[.int .i64 k, .int .i64 d, .int .i64 (pu : Int), .int .i64 (pv : Int), .slice x n cx, .slice y q cy], .int .i64 (u : Int), .int .i64 (v : Int)] w1 fun e w' => e = .returned (.tuple #[.int .i64 z, .bool true]) ∧ Below w1.heap.size w1 w') ∧
          (∀ (w1 : World), Ints w1 a cs → Ints w1 b ps → Calls Try.prog 15 #[.agg #[.int .i64 k, .int .i64 d, .int .i64 (Wd : Int), .int .i64 (Hi : Int), .slice a n c, .slice b m cc], .int .i64 (uu : Int), .int .i64 (vv : Int)] w1 fun e w' => e = .returned (.tuple #[.int .i64 z, .bool true]) ∧ Below w1.heap.size w1 w')) := fun j hj => by
        rw [hq] at hj
        obtain ⟨u, v, hu, hv, rfl⟩ := split_at hj
        refine ⟨u, v, px + u, py + v, ps.getD ((py + v) * Wd + (px + u)) 0, ?_, ?_, rfl, rfl, by omega, by omega, fun x cx y cy w1 g1 g2 => ?_, fun w1 g1 g2 => ?_⟩
        · have : (v * pu + u) % pu = u := by rw [Nat.mul_comm, Nat.mul_add_mod, Nat.mod_eq_of_lt hu]
          rw [← Int.natCast_emod, this]
        · have : (v * pu + u) / pu = v := by rw [Nat.mul_comm, Nat.mul_add_div (by omega), Nat.div_eq_of_lt hu, Nat.add_zero]
          rw [← Int.natCast_ediv, this]
        · have := implAt_ok k d pu pv u v x n cx y q cy cs L w1 g1 l4 l4' g2 hLl (by omega) hokL hu hv
          rw [hL, cutL_at ps hu hv] at this; exact this
        · exact implAt_ok k d Wd Hi (px + u) (py + v) a n c b m cc cs ps w1 g1 l4 l4' g2 l5 l5' hok (by omega) (by omega)
      have HWI : Hid (∀ (x : Option Addr) (cx : Nat) (y : Option Addr) (cy : Nat) (x2 : Option Addr) (cx2 : Nat) (y2 : Option Addr) (cy2 : Nat) (w1 : World), Ints w1 x cs → Ints w1 y L → Ints w1 x2 cs → Ints w1 y2 L → Calls Try.prog 11 #[.agg #[.int .i64 k, .int .i64 d, .int .i64 (pu : Int), .int .i64 (pv : Int), .slice x n cx, .slice y q cy], .agg #[.int .i64 k, .int .i64 d, .int .i64 (pu : Int), .int .i64 (pv : Int), .slice x2 n cx2, .slice y2 q cy2]] w1 fun e w' => e = .returned (.bool true) ∧ Below w1.heap.size w1 w') := fun x cx y cy x' cx' y' cy' w1 => wiImage_same k d pu pv n q cs L l4 hLl (by omega) (by omega) x cx y cy x' cx' y' cy' w1
      have HWP : Hid (∀ (x : Option Addr) (cx : Nat) (y : Option Addr) (cy : Nat) (w1 : World), Ints w1 x cs → Ints w1 y ps → Ints w1 a cs → Ints w1 b ps → Calls Try.prog 11 #[.agg #[.int .i64 k, .int .i64 d, .int .i64 (Wd : Int), .int .i64 (Hi : Int), .slice x n cx, .slice y m cy], .agg #[.int .i64 k, .int .i64 d, .int .i64 (Wd : Int), .int .i64 (Hi : Int), .slice a n c, .slice b m cc]] w1 fun e w' => e = .returned (.bool true) ∧ Below w1.heap.size w1 w') := fun x cx y cy w1 => wiImage_same k d Wd Hi n m cs ps l4 l5 (by omega) (by omega) x cx y cy a c b cc w1
      have HOI : Hid (∀ w1 : World, Ints w1 a cs → Ints w1 b ps → Calls Try.prog 13 #[.agg #[.int .i64 k, .int .i64 d, .int .i64 (Wd : Int), .int .i64 (Hi : Int), .slice a n c, .slice b m cc]] w1 fun e w' => e = .returned (.bool true) ∧ Below w1.heap.size w1 w') := fun w1 g1 g2 => by
        have := impl_imageOk k d (Wd : Int) (Hi : Int) a n c b m cc w1 cs ps g1 l4 (by omega) g2 l5 (by omega)
        rw [hok] at this; exact this
      have HOS : Hid (∀ w1 : World, Ints w1 a cs → Ints w1 b ps → Calls Try.prog 14 #[.agg #[.int .i64 k, .int .i64 d, .int .i64 (Wd : Int), .int .i64 (Hi : Int), .slice a n c, .slice b m cc]] w1 fun e w' => e = .returned (.bool true) ∧ Below w1.heap.size w1 w') := fun w1 g1 g2 => by
        have := spec_imageOk k d (Wd : Int) (Hi : Int) a n c b m cc w1 cs ps g1 l4 (by omega) g2 l5
        rw [hok] at this; exact this
      have M1 : Hid (PB (w1.alloc (.cells #[.int .i64 k, .int .i64 d, .int .i64 (Wd : Int), .int .i64 (Hi : Int), .slice a n c, .slice b m cc] 25)) w1.heap.size k d (Wd : Int) (Hi : Int) a n c cs b m cc ps) := pb_new i4.ints i5.ints
      have B1 : Hid (Below w.heap.size w (w1.alloc (.cells #[.int .i64 k, .int .i64 d, .int .i64 (Wd : Int), .int .i64 (Hi : Int), .slice a n c, .slice b m cc] 25))) := b1.alloc b1.size _
      have hu0 : ((pu : Int) == 0) = false := by rw [beq_eq_false_iff_ne]; omega
      have hu1 : ¬ pu = 0 := by omega
      have hub : pu ≤ 20 := by omega
      clear hL hLl hokL hq hm hWH hw hh hmm hok q1 q2 q3 q4 q5 q6 hX hY
      clear i4 i5 l4 l5 l4' l5' k4 k5 bd b1
      go_wp2_with fail
      refine (HIC.out _ M1.out.i4 M1.out.i5).mono ?_
      rintro e w2 ⟨⟨x, cx, y, cy, rfl, gx, gy⟩, b2⟩
      generalize w1.heap.size = MB at *
      have M2 : Hid (PB (w2.alloc (.cells #[.int .i64 k, .int .i64 d, .int .i64 (pu : Int), .int .i64 (pv : Int), .slice x n cx, .slice y q cy] 25)) MB k d (Wd : Int) (Hi : Int) a n c cs b m cc ps) := (M1.out.kept b2).kept ((Below.refl _ _).alloc (Nat.le_refl _) _)
      have C2 : Hid (PB (w2.alloc (.cells #[.int .i64 k, .int .i64 d, .int .i64 (pu : Int), .int .i64 (pv : Int), .slice x n cx, .slice y q cy] 25)) w2.heap.size k d (pu : Int) (pv : Int) x n cx cs y q cy L) := pb_new gx gy
      have B2 : Hid (Below w.heap.size w (w2.alloc (.cells #[.int .i64 k, .int .i64 d, .int .i64 (pu : Int), .int .i64 (pv : Int), .slice x n cx, .slice y q cy] 25))) := (B1.out.trans (b2.mono B1.out.size)).alloc (Nat.le_trans B1.out.size b2.size) _
      clear b2 M1 B1 HIC gx gy
      obtain ⟨m20, m21, m22, m23, m24, m25⟩ := M2.out.box
      go_wp2_with fail
      refine (HSC.out _ M2.out.i4 M2.out.i5).mono ?_
      rintro e w3 ⟨⟨x2, cx2, y2, cy2, rfl, gx, gy⟩, b3⟩
      generalize w2.heap.size = CB at *
      have M3 : Hid (PB (w3.alloc (.cells #[.int .i64 k, .int .i64 d, .int .i64 (pu : Int), .int .i64 (pv : Int), .slice x2 n cx2, .slice y2 q cy2] 25)) MB k d (Wd : Int) (Hi : Int) a n c cs b m cc ps) := (M2.out.kept b3).kept ((Below.refl _ _).alloc (Nat.le_refl _) _)
      have C3 : Hid (PB (w3.alloc (.cells #[.int .i64 k, .int .i64 d, .int .i64 (pu : Int), .int .i64 (pv : Int), .slice x2 n cx2, .slice y2 q cy2] 25)) CB k d (pu : Int) (pv : Int) x n cx cs y q cy L) := (C2.out.kept b3).kept ((Below.refl _ _).alloc (Nat.le_refl _) _)
      have D3 : Hid (PB (w3.alloc (.cells #[.int .i64 k, .int .i64 d, .int .i64 (pu : Int), .int .i64 (pv : Int), .slice x2 n cx2, .slice y2 q cy2] 25)) w3.heap.size k d (pu : Int) (pv : Int) x2 n cx2 cs y2 q cy2 L) := pb_new gx gy
      have B3 : Hid (Below w.heap.size w (w3.alloc (.cells #[.int .i64 k, .int .i64 d, .int .i64 (pu : Int), .int .i64 (pv : Int), .slice x2 n cx2, .slice y2 q cy2] 25))) := (B2.out.trans (b3.mono B2.out.size)).alloc (Nat.le_trans B2.out.size b3.size) _
      clear b3 M2 C2 B2 HSC m20 m21 m22 m23 m24 m25 gx gy
      obtain ⟨m30, m31, m32, m33, m34, m35⟩ := M3.out.box
      obtain ⟨c30, c31, c32, c33, c34, c35⟩ := C3.out.box
      obtain ⟨d30, d31, d32, d33, d34, d35⟩ := D3.out.box
      go_upto_region 6 with fail
      generalize hW4 : w3.alloc (.cells #[.int .i64 k, .int .i64 d, .int .i64 (pu : Int), .int .i64 (pv : Int), .slice x2 n cx2, .slice y2 q cy2] 25) = W4 at *
      clear hW4
      generalize w3.heap.size = DB at *
      have M4 : Hid (PB W4.drew MB k d (Wd : Int) (Hi : Int) a n c cs b m cc ps) := M3.out.kept (Below.refl _ _).drew
      have C4 : Hid (PB W4.drew CB k d (pu : Int) (pv : Int) x n cx cs y q cy L) := C3.out.kept (Below.refl _ _).drew
      have D4 : Hid (PB W4.drew DB k d (pu : Int) (pv : Int) x2 n cx2 cs y2 q cy2 L) := D3.out.kept (Below.refl _ _).drew
      have B4 : Hid (Below w.heap.size w W4.drew) := B3.out.drew
      go_region_held3 (fun w' => w'.cell? ⟨MB, 0, none⟩ = some (.int .i64 k) ∧ w'.cell? ⟨MB, 1, none⟩ = some (.int .i64 d) ∧ w'.cell? ⟨MB, 2, none⟩ = some (.int .i64 (Wd : Int)) ∧ w'.cell? ⟨MB, 3, none⟩ = some (.int .i64 (Hi : Int)) ∧ w'.cell? ⟨MB, 4, none⟩ = some (.slice a n c) ∧ w'.cell? ⟨MB, 5, none⟩ = some (.slice b m cc) ∧ w'.cell? ⟨CB, 0, none⟩ = some (.int .i64 k) ∧ w'.cell? ⟨CB, 1, none⟩ = some (.int .i64 d) ∧ w'.cell? ⟨CB, 2, none⟩ = some (.int .i64 (pu : Int)) ∧ w'.cell? ⟨CB, 3, none⟩ = some (.int .i64 (pv : Int)) ∧ w'.cell? ⟨CB, 4, none⟩ = some (.slice x n cx) ∧ w'.cell? ⟨CB, 5, none⟩ = some (.slice y q cy) ∧ w'.cell? ⟨DB, 0, none⟩ = some (.int .i64 k) ∧ w'.cell? ⟨DB, 1, none⟩ = some (.int .i64 d) ∧ w'.cell? ⟨DB, 2, none⟩ = some (.int .i64 (pu : Int)) ∧ w'.cell? ⟨DB, 3, none⟩ = some (.int .i64 (pv : Int)) ∧ w'.cell? ⟨DB, 4, none⟩ = some (.slice x2 n cx2) ∧ w'.cell? ⟨DB, 5, none⟩ = some (.slice y2 q cy2)) (go_keep) (first | (go_at_call 14; refine (HOS.out _ M6.out.i4 M6.out.i5).mono ?_; rintro e w7 ⟨rfl, b7⟩; have M7 : Hid (PB w7 MB k d (Wd : Int) (Hi : Int) a n c cs b m cc ps) := M6.out.kept b7; have C7 : Hid (PB w7 CB k d (pu : Int) (pv : Int) x n cx cs y q cy L) := C6.out.kept b7; have D7 : Hid (PB w7 DB k d (pu : Int) (pv : Int) x2 n cx2 cs y2 q cy2 L) := D6.out.kept b7; have B7 : Hid (Below w.heap.size w w7) := B6.out.trans (b7.mono B6.out.size); obtain ⟨m70, m71, m72, m73, m74, m75⟩ := M7.out.box; obtain ⟨c70, c71, c72, c73, c74, c75⟩ := C7.out.box; obtain ⟨d70, d71, d72, d73, d74, d75⟩ := D7.out.box; clear b7) | (go_at_call 13; refine (HOI.out _ M5.out.i4 M5.out.i5).mono ?_; rintro e w6 ⟨rfl, b6⟩; have M6 : Hid (PB w6 MB k d (Wd : Int) (Hi : Int) a n c cs b m cc ps) := M5.out.kept b6; have C6 : Hid (PB w6 CB k d (pu : Int) (pv : Int) x n cx cs y q cy L) := C5.out.kept b6; have D6 : Hid (PB w6 DB k d (pu : Int) (pv : Int) x2 n cx2 cs y2 q cy2 L) := D5.out.kept b6; have B6 : Hid (Below w.heap.size w w6) := B5.out.trans (b6.mono B5.out.size); obtain ⟨m60, m61, m62, m63, m64, m65⟩ := M6.out.box; obtain ⟨c60, c61, c62, c63, c64, c65⟩ := C6.out.box; obtain ⟨d60, d61, d62, d63, d64, d65⟩ := D6.out.box; clear b6) | (go_at_call 11; refine (HWI.out x cx y cy x2 cx2 y2 cy2 _ C4.out.i4 C4.out.i5 D4.out.i4 D4.out.i5).mono ?_; rintro e w5 ⟨rfl, b5⟩; have M5 : Hid (PB w5 MB k d (Wd : Int) (Hi : Int) a n c cs b m cc ps) := M4.out.kept b5; have C5 : Hid (PB w5 CB k d (pu : Int) (pv : Int) x n cx cs y q cy L) := C4.out.kept b5; have D5 : Hid (PB w5 DB k d (pu : Int) (pv : Int) x2 n cx2 cs y2 q cy2 L) := D4.out.kept b5; have B5 : Hid (Below w.heap.size w w5) := B4.out.trans (b5.mono B4.out.size); obtain ⟨m50, m51, m52, m53, m54, m55⟩ := M5.out.box; obtain ⟨c50, c51, c52, c53, c54, c55⟩ := C5.out.box; obtain ⟨d50, d51, d52, d53, d54, d55⟩ := D5.out.box; clear b5))
      clear M3 C3 D3 B3 M4 C4 D4 B4 M5 C5 D5 B5 M6 C6 D6 B6 D7 m30 m31 m32 m33 m34 m35 m50 m51 m52 m53 m54 m55 m60 m61 m62 m63 m64 m65 c30 c31 c32 c33 c34 c35 c50 c51 c52 c53 c54 c55 c60 c61 c62 c63 c64 c65 d30 d31 d32 d33 d34 d35 d50 d51 d52 d53 d54 d55 d60 d61 d62 d63 d64 d65 d70 d71 d72 d73 d74 d75 HWI HOI HOS
      go_wp2_with fail
      clear m70 m71 m72 m73 m74 m75 c70 c71 c72 c73 c74 c75
      go_loopw [12] (fun i wr => ∃ j : Nat, j ≤ q ∧ i = .int .i64 (j : Int) ∧ PB wr MB k d (Wd : Int) (Hi : Int) a n c cs b m cc ps ∧ PB wr CB k d (pu : Int) (pv : Int) x n cx cs y q cy L ∧ Below w.heap.size w wr) (fun i _ => q - (intOf i).toNat)
      case atStart => exact ⟨0, Nat.zero_le _, rfl, M7.out, C7.out, B7.out⟩
      case round =>
        obtain ⟨j, hj, rfl, hM, hC, hB⟩ := hrel
        clear M7 C7 B7
        have M1 : Hid (PB wr MB k d (Wd : Int) (Hi : Int) a n c cs b m cc ps) := hM
        have C1 : Hid (PB wr CB k d (pu : Int) (pv : Int) x n cx cs y q cy L) := hC
        have B1 : Hid (Below w.heap.size w wr) := hB
        clear hM hC hB
        obtain ⟨m10, m11, m12, m13, m14, m15⟩ := M1.out.box
        obtain ⟨c10, c11, c12, c13, c14, c15⟩ := C1.out.box
        by_cases hlt : j < q
        · have hji : (j : Int) < (q : Int) := by omega
          obtain ⟨u, v, uu, vv, z, e1, e2, e3, e4, hub2, hvb2, hA1, hA2⟩ := HAT.out j hlt
          have e1' := e1.symm
          have e2' := e2.symm
          have t1 : (j : Int).tmod (pu : Int) = (u : Int) := by rw [Int.tmod_eq_emod_of_nonneg (by omega)]; exact e1'
          have t2 : (j : Int).tdiv (pu : Int) = (v : Int) := by rw [Int.tdiv_eq_ediv_of_nonneg (by omega)]; exact e2'
          have e3' : (px : Int) + (u : Int) = (uu : Int) := by omega
          have e4' : (py : Int) + (v : Int) = (vv : Int) := by omega
          have f1 := wrap_i64_nat u (by omega)
          have f2 := wrap_i64_nat v (by omega)
          have f3 := wrap_i64_nat uu (by omega)
          have f4 := wrap_i64_nat vv (by omega)
          have HA1 : Hid (∀ (x : Option Addr) (cx : Nat) (y : Option Addr) (cy : Nat) (w1 : World), Ints w1 x cs → Ints w1 y L → _) := hA1
          have HA2 : Hid (∀ (w1 : World), Ints w1 a cs → Ints w1 b ps → _) := hA2
          clear hA1 hA2 e1 e2 e3 e4
          have M2 : Hid (PB wr.drew MB k d (Wd : Int) (Hi : Int) a n c cs b m cc ps) := M1.out.kept (Below.refl _ _).drew
          have C2 : Hid (PB wr.drew CB k d (pu : Int) (pv : Int) x n cx cs y q cy L) := C1.out.kept (Below.refl _ _).drew
          have B2 : Hid (Below w.heap.size w wr.drew) := B1.out.drew
          clear M1 C1 B1
          go_wp2_with fail
          go_region_held3 (fun w' => w'.cell? ⟨MB, 0, none⟩ = some (.int .i64 k) ∧ w'.cell? ⟨MB, 1, none⟩ = some (.int .i64 d) ∧ w'.cell? ⟨MB, 2, none⟩ = some (.int .i64 (Wd : Int)) ∧ w'.cell? ⟨MB, 3, none⟩ = some (.int .i64 (Hi : Int)) ∧ w'.cell? ⟨MB, 4, none⟩ = some (.slice a n c) ∧ w'.cell? ⟨MB, 5, none⟩ = some (.slice b m cc) ∧ w'.cell? ⟨CB, 0, none⟩ = some (.int .i64 k) ∧ w'.cell? ⟨CB, 1, none⟩ = some (.int .i64 d) ∧ w'.cell? ⟨CB, 2, none⟩ = some (.int .i64 (pu : Int)) ∧ w'.cell? ⟨CB, 3, none⟩ = some (.int .i64 (pv : Int)) ∧ w'.cell? ⟨CB, 4, none⟩ = some (.slice x n cx) ∧ w'.cell? ⟨CB, 5, none⟩ = some (.slice y q cy)) (go_keep) (first | (go_at_call 15; refine (HA1.out x cx y cy _ C2.out.i4 C2.out.i5).mono ?_; rintro e w3 ⟨rfl, b3⟩; have M3 : Hid (PB w3 MB k d (Wd : Int) (Hi : Int) a n c cs b m cc ps) := M2.out.kept b3; have C3 : Hid (PB w3 CB k d (pu : Int) (pv : Int) x n cx cs y q cy L) := C2.out.kept b3; have B3 : Hid (Below w.heap.size w w3) := B2.out.trans (b3.mono B2.out.size); obtain ⟨m30, m31, m32, m33, m34, m35⟩ := M3.out.box; obtain ⟨c30, c31, c32, c33, c34, c35⟩ := C3.out.box; clear b3))
          clear M2 C2 B2 m10 m11 m12 m13 m14 m15 c10 c11 c12 c13 c14 c15
          have M4 : Hid (PB w3.drew MB k d (Wd : Int) (Hi : Int) a n c cs b m cc ps) := M3.out.kept (Below.refl _ _).drew
          have C4 : Hid (PB w3.drew CB k d (pu : Int) (pv : Int) x n cx cs y q cy L) := C3.out.kept (Below.refl _ _).drew
          have B4 : Hid (Below w.heap.size w w3.drew) := B3.out.drew
          go_wp2_with fail
          go_region_held3 (fun w' => w'.cell? ⟨MB, 0, none⟩ = some (.int .i64 k) ∧ w'.cell? ⟨MB, 1, none⟩ = some (.int .i64 d) ∧ w'.cell? ⟨MB, 2, none⟩ = some (.int .i64 (Wd : Int)) ∧ w'.cell? ⟨MB, 3, none⟩ = some (.int .i64 (Hi : Int)) ∧ w'.cell? ⟨MB, 4, none⟩ = some (.slice a n c) ∧ w'.cell? ⟨MB, 5, none⟩ = some (.slice b m cc) ∧ w'.cell? ⟨CB, 0, none⟩ = some (.int .i64 k) ∧ w'.cell? ⟨CB, 1, none⟩ = some (.int .i64 d) ∧ w'.cell? ⟨CB, 2, none⟩ = some (.int .i64 (pu : Int)) ∧ w'.cell? ⟨CB, 3, none⟩ = some (.int .i64 (pv : Int)) ∧ w'.cell? ⟨CB, 4, none⟩ = some (.slice x n cx) ∧ w'.cell? ⟨CB, 5, none⟩ = some (.slice y q cy)) (go_keep) (first | (go_at_call 15; refine (HA2.out _ M4.out.i4 M4.out.i5).mono ?_; rintro e w5 ⟨rfl, b5⟩; have M5 : Hid (PB w5 MB k d (Wd : Int) (Hi : Int) a n c cs b m cc ps) := M4.out.kept b5; have C5 : Hid (PB w5 CB k d (pu : Int) (pv : Int) x n cx cs y q cy L) := C4.out.kept b5; have B5 : Hid (Below w.heap.size w w5) := B4.out.trans (b5.mono B4.out.size); obtain ⟨m50, m51, m52, m53, m54, m55⟩ := M5.out.box; obtain ⟨c50, c51, c52, c53, c54, c55⟩ := C5.out.box; clear b5))
          have HF : Hid (PB w5 MB k d (Wd : Int) (Hi : Int) a n c cs b m cc ps ∧ PB w5 CB k d (pu : Int) (pv : Int) x n cx cs y q cy L ∧ Below w.heap.size w w5) := ⟨M5.out, C5.out, B5.out⟩
          clear M3 C3 B3 M4 C4 B4 M5 C5 B5 m30 m31 m32 m33 m34 m35 m50 m51 m52 m53 m54 m55 c30 c31 c32 c33 c34 c35 c50 c51 c52 c53 c54 c55 HA1 HA2 e1' e2' e3' e4' t1 t2 f1 f2 f3 f4
          go_wp2_with fail
          go_roundw
          case rel => exact ⟨j + 1, by omega, by go_num, HF.out⟩
          case measure => simp [intOf]; omega
        · have hji : ¬ (j : Int) < (q : Int) := by omega
          go_wp2_with fail
          refine (HIA.out _ M1.out.i4 M1.out.i5).mono ?_
          rintro e w2 ⟨⟨x3, c3', y3, d3', rfl, gx3, gy3⟩, b2⟩
          have M2 : Hid (PB w2 MB k d (Wd : Int) (Hi : Int) a n c cs b m cc ps) := M1.out.kept b2
          have C2 : Hid (PB w2 CB k d (pu : Int) (pv : Int) x n cx cs y q cy L) := C1.out.kept b2
          have B2 : Hid (Below w.heap.size w w2) := B1.out.trans (b2.mono B1.out.size)
          have A2 : Hid (Ints w2 x3 cs ∧ Ints w2 y3 ps) := ⟨gx3, gy3⟩
          clear b2 M1 C1 B1 gx3 gy3 m10 m11 m12 m13 m14 m15 c10 c11 c12 c13 c14 c15
          have ba : Below w2.heap.size w2 (w2.alloc (.cells #[.int .i64 k, .int .i64 d, .int .i64 (Wd : Int), .int .i64 (Hi : Int), .slice x3 n c3', .slice y3 m d3'] 25)) := ((Below.refl _ _).alloc (Nat.le_refl _) _)
          have M3 : Hid (PB (w2.alloc (.cells #[.int .i64 k, .int .i64 d, .int .i64 (Wd : Int), .int .i64 (Hi : Int), .slice x3 n c3', .slice y3 m d3'] 25)) MB k d (Wd : Int) (Hi : Int) a n c cs b m cc ps) := M2.out.kept ba
          have C3 : Hid (PB (w2.alloc (.cells #[.int .i64 k, .int .i64 d, .int .i64 (Wd : Int), .int .i64 (Hi : Int), .slice x3 n c3', .slice y3 m d3'] 25)) CB k d (pu : Int) (pv : Int) x n cx cs y q cy L) := C2.out.kept ba
          have A3 : Hid (PB (w2.alloc (.cells #[.int .i64 k, .int .i64 d, .int .i64 (Wd : Int), .int .i64 (Hi : Int), .slice x3 n c3', .slice y3 m d3'] 25)) w2.heap.size k d (Wd : Int) (Hi : Int) x3 n c3' cs y3 m d3' ps) := pb_new A2.out.1 A2.out.2
          have B3 : Hid (Below w.heap.size w (w2.alloc (.cells #[.int .i64 k, .int .i64 d, .int .i64 (Wd : Int), .int .i64 (Hi : Int), .slice x3 n c3', .slice y3 m d3'] 25))) := B2.out.alloc B2.out.size _
          clear ba M2 C2 B2 A2
          go_upto_region 18 with fail
          generalize hW4 : w2.alloc (.cells #[.int .i64 k, .int .i64 d, .int .i64 (Wd : Int), .int .i64 (Hi : Int), .slice x3 n c3', .slice y3 m d3'] 25) = W4 at *
          clear hW4
          generalize w2.heap.size = AB at *
          obtain ⟨c30, c31, c32, c33, c34, c35⟩ := C3.out.box
          go_wp2_with fail
          refine (HOC.out x cx y cy _ C3.out.i4 C3.out.i5).mono ?_
          rintro e w5 ⟨rfl, b5⟩
          have M5 : Hid (PB w5 MB k d (Wd : Int) (Hi : Int) a n c cs b m cc ps) := M3.out.kept b5
          have A5 : Hid (PB w5 AB k d (Wd : Int) (Hi : Int) x3 n c3' cs y3 m d3' ps) := A3.out.kept b5
          have B5 : Hid (Below w.heap.size w w5) := B3.out.trans (b5.mono B3.out.size)
          clear b5 M3 C3 A3 B3 c30 c31 c32 c33 c34 c35
          obtain ⟨m50, m51, m52, m53, m54, m55⟩ := M5.out.box
          obtain ⟨a50, a51, a52, a53, a54, a55⟩ := A5.out.box
          go_wp2_with fail
          refine (HWP.out x3 c3' y3 d3' _ A5.out.i4 A5.out.i5 M5.out.i4 M5.out.i5).mono ?_
          rintro e w6 ⟨rfl, b6⟩
          have B6 : Hid (Below w.heap.size w w6) := B5.out.trans (b6.mono B5.out.size)
          clear b6 M5 A5 B5 m50 m51 m52 m53 m54 m55 a50 a51 a52 a53 a54 a55
          go_wp2_with fail
          go_ret
          exact ⟨rfl, B6.out⟩
    · have hno : Im.okB k d wd hi cs ps = true → ¬ CutOk wd hi px py pu pv := fun h1 h2 => hyes ⟨h1, h2⟩
      have HIC : Hid (∀ w1 : World, Ints w1 a cs → Ints w1 b ps → Calls Try.prog 20 #[.agg #[.int .i64 k, .int .i64 d, .int .i64 wd, .int .i64 hi, .slice a n c, .slice b m cc], .int .i64 (px : Int), .int .i64 (py : Int), .int .i64 (pu : Int), .int .i64 (pv : Int)] w1 fun e w' => e = .returned (.tuple #[.agg #[.int .i64 0, .int .i64 0, .int .i64 0, .int .i64 0, .slice none 0 0, .slice none 0 0], .bool false]) ∧ Below w1.heap.size w1 w') := fun w1 g1 g2 => implCut_no k d wd hi px py pu pv a n c b m cc cs ps w1 g1 l4 l4' g2 l5 l5' hno
      have HSC : Hid (∀ w1 : World, Ints w1 a cs → Ints w1 b ps → Calls Try.prog 21 #[.agg #[.int .i64 k, .int .i64 d, .int .i64 wd, .int .i64 hi, .slice a n c, .slice b m cc], .int .i64 (px : Int), .int .i64 (py : Int), .int .i64 (pu : Int), .int .i64 (pv : Int)] w1 fun e w' => e = .returned (.tuple #[.agg #[.int .i64 0, .int .i64 0, .int .i64 0, .int .i64 0, .slice none 0 0, .slice none 0 0], .bool false]) ∧ Below w1.heap.size w1 w') := fun w1 g1 g2 => specCut_no k d wd hi px py pu pv a n c b m cc cs ps w1 g1 l4 l4' g2 l5 hno
      have HWI : Hid (∀ (w1 : World), Calls Try.prog 11 #[.agg #[.int .i64 0, .int .i64 0, .int .i64 0, .int .i64 0, .slice none 0 0, .slice none 0 0], .agg #[.int .i64 0, .int .i64 0, .int .i64 0, .int .i64 0, .slice none 0 0, .slice none 0 0]] w1 fun e w' => e = .returned (.bool true) ∧ Below w1.heap.size w1 w') := fun w1 => wiImage_same 0 0 0 0 0 0 [] [] rfl rfl (by omega) (by omega) none 0 none 0 none 0 none 0 w1 (.inl rfl) (.inl rfl) (.inl rfl) (.inl rfl)
      obtain ⟨bo, hbo⟩ : ∃ bo, bo = Im.okB k d wd hi cs ps := ⟨_, rfl⟩
      have HOI : Hid (∀ w1 : World, Ints w1 a cs → Ints w1 b ps → Calls Try.prog 13 #[.agg #[.int .i64 k, .int .i64 d, .int .i64 wd, .int .i64 hi, .slice a n c, .slice b m cc]] w1 fun e w' => e = .returned (.bool bo) ∧ Below w1.heap.size w1 w') := fun w1 g1 g2 => by
        have := impl_imageOk k d wd hi a n c b m cc w1 cs ps g1 l4 (by omega) g2 l5 (by omega)
        rw [← hbo] at this; exact this
      have HOS : Hid (∀ w1 : World, Ints w1 a cs → Ints w1 b ps → Calls Try.prog 14 #[.agg #[.int .i64 k, .int .i64 d, .int .i64 wd, .int .i64 hi, .slice a n c, .slice b m cc]] w1 fun e w' => e = .returned (.bool bo) ∧ Below w1.heap.size w1 w') := fun w1 g1 g2 => by
        have := spec_imageOk k d wd hi a n c b m cc w1 cs ps g1 l4 (by omega) g2 l5
        rw [← hbo] at this; exact this
      have M1 : Hid (PB (w1.alloc (.cells #[.int .i64 k, .int .i64 d, .int .i64 wd, .int .i64 hi, .slice a n c, .slice b m cc] 25)) w1.heap.size k d wd hi a n c cs b m cc ps) := pb_new i4.ints i5.ints
      have B1 : Hid (Below w.heap.size w (w1.alloc (.cells #[.int .i64 k, .int .i64 d, .int .i64 wd, .int .i64 hi, .slice a n c, .slice b m cc] 25))) := b1.alloc b1.size _
      clear hno hyes hbo
      clear i4 i5 l4 l5 l4' l5' k4 k5 bd b1
      go_wp2_with fail
      refine (HIC.out _ M1.out.i4 M1.out.i5).mono ?_
      rintro e w2 ⟨rfl, b2⟩
      generalize w1.heap.size = MB at *
      have M2 : Hid (PB (w2.alloc (.cells #[.int .i64 0, .int .i64 0, .int .i64 0, .int .i64 0, .slice none 0 0, .slice none 0 0] 25)) MB k d wd hi a n c cs b m cc ps) := (M1.out.kept b2).kept ((Below.refl _ _).alloc (Nat.le_refl _) _)
      have C2 : Hid (PB (w2.alloc (.cells #[.int .i64 0, .int .i64 0, .int .i64 0, .int .i64 0, .slice none 0 0, .slice none 0 0] 25)) w2.heap.size 0 0 0 0 none 0 0 [] none 0 0 []) := pb_new (.inl rfl) (.inl rfl)
      have B2 : Hid (Below w.heap.size w (w2.alloc (.cells #[.int .i64 0, .int .i64 0, .int .i64 0, .int .i64 0, .slice none 0 0, .slice none 0 0] 25))) := (B1.out.trans (b2.mono B1.out.size)).alloc (Nat.le_trans B1.out.size b2.size) _
      clear b2 M1 B1 HIC 
      obtain ⟨m20, m21, m22, m23, m24, m25⟩ := M2.out.box
      go_wp2_with fail
      refine (HSC.out _ M2.out.i4 M2.out.i5).mono ?_
      rintro e w3 ⟨rfl, b3⟩
      generalize w2.heap.size = CB at *
      have M3 : Hid (PB (w3.alloc (.cells #[.int .i64 0, .int .i64 0, .int .i64 0, .int .i64 0, .slice none 0 0, .slice none 0 0] 25)) MB k d wd hi a n c cs b m cc ps) := (M2.out.kept b3).kept ((Below.refl _ _).alloc (Nat.le_refl _) _)
      have C3 : Hid (PB (w3.alloc (.cells #[.int .i64 0, .int .i64 0, .int .i64 0, .int .i64 0, .slice none 0 0, .slice none 0 0] 25)) CB 0 0 0 0 none 0 0 [] none 0 0 []) := (C2.out.kept b3).kept ((Below.refl _ _).alloc (Nat.le_refl _) _)
      have D3 : Hid (PB (w3.alloc (.cells #[.int .i64 0, .int .i64 0, .int .i64 0, .int .i64 0, .slice none 0 0, .slice none 0 0] 25)) w3.heap.size 0 0 0 0 none 0 0 [] none 0 0 []) := pb_new (.inl rfl) (.inl rfl)
      have B3 : Hid (Below w.heap.size w (w3.alloc (.cells #[.int .i64 0, .int .i64 0, .int .i64 0, .int .i64 0, .slice none 0 0, .slice none 0 0] 25))) := (B2.out.trans (b3.mono B2.out.size)).alloc (Nat.le_trans B2.out.size b3.size) _
      clear b3 M2 C2 B2 HSC m20 m21 m22 m23 m24 m25 
      obtain ⟨m30, m31, m32, m33, m34, m35⟩ := M3.out.box
      obtain ⟨c30, c31, c32, c33, c34, c35⟩ := C3.out.box
      obtain ⟨d30, d31, d32, d33, d34, d35⟩ := D3.out.box
      go_upto_region 6 with fail
      generalize hW4 : w3.alloc (.cells #[.int .i64 0, .int .i64 0, .int .i64 0, .int .i64 0, .slice none 0 0, .slice none 0 0] 25) = W4 at *
      clear hW4
      generalize w3.heap.size = DB at *
      have M4 : Hid (PB W4.drew MB k d wd hi a n c cs b m cc ps) := M3.out.kept (Below.refl _ _).drew
      have C4 : Hid (PB W4.drew CB 0 0 0 0 none 0 0 [] none 0 0 []) := C3.out.kept (Below.refl _ _).drew
      have D4 : Hid (PB W4.drew DB 0 0 0 0 none 0 0 [] none 0 0 []) := D3.out.kept (Below.refl _ _).drew
      have B4 : Hid (Below w.heap.size w W4.drew) := B3.out.drew
      go_region_held3 (fun w' => w'.cell? ⟨MB, 0, none⟩ = some (.int .i64 k) ∧ w'.cell? ⟨MB, 1, none⟩ = some (.int .i64 d) ∧ w'.cell? ⟨MB, 2, none⟩ = some (.int .i64 wd) ∧ w'.cell? ⟨MB, 3, none⟩ = some (.int .i64 hi) ∧ w'.cell? ⟨MB, 4, none⟩ = some (.slice a n c) ∧ w'.cell? ⟨MB, 5, none⟩ = some (.slice b m cc) ∧ w'.cell? ⟨CB, 0, none⟩ = some (.int .i64 0) ∧ w'.cell? ⟨CB, 1, none⟩ = some (.int .i64 0) ∧ w'.cell? ⟨CB, 2, none⟩ = some (.int .i64 0) ∧ w'.cell? ⟨CB, 3, none⟩ = some (.int .i64 0) ∧ w'.cell? ⟨CB, 4, none⟩ = some (.slice none 0 0) ∧ w'.cell? ⟨CB, 5, none⟩ = some (.slice none 0 0) ∧ w'.cell? ⟨DB, 0, none⟩ = some (.int .i64 0) ∧ w'.cell? ⟨DB, 1, none⟩ = some (.int .i64 0) ∧ w'.cell? ⟨DB, 2, none⟩ = some (.int .i64 0) ∧ w'.cell? ⟨DB, 3, none⟩ = some (.int .i64 0) ∧ w'.cell? ⟨DB, 4, none⟩ = some (.slice none 0 0) ∧ w'.cell? ⟨DB, 5, none⟩ = some (.slice none 0 0)) (go_keep) (first | (go_at_call 14; refine (HOS.out _ M6.out.i4 M6.out.i5).mono ?_; rintro e w7 ⟨rfl, b7⟩; have M7 : Hid (PB w7 MB k d wd hi a n c cs b m cc ps) := M6.out.kept b7; have C7 : Hid (PB w7 CB 0 0 0 0 none 0 0 [] none 0 0 []) := C6.out.kept b7; have D7 : Hid (PB w7 DB 0 0 0 0 none 0 0 [] none 0 0 []) := D6.out.kept b7; have B7 : Hid (Below w.heap.size w w7) := B6.out.trans (b7.mono B6.out.size); obtain ⟨m70, m71, m72, m73, m74, m75⟩ := M7.out.box; obtain ⟨c70, c71, c72, c73, c74, c75⟩ := C7.out.box; obtain ⟨d70, d71, d72, d73, d74, d75⟩ := D7.out.box; clear b7) | (go_at_call 13; refine (HOI.out _ M5.out.i4 M5.out.i5).mono ?_; rintro e w6 ⟨rfl, b6⟩; have M6 : Hid (PB w6 MB k d wd hi a n c cs b m cc ps) := M5.out.kept b6; have C6 : Hid (PB w6 CB 0 0 0 0 none 0 0 [] none 0 0 []) := C5.out.kept b6; have D6 : Hid (PB w6 DB 0 0 0 0 none 0 0 [] none 0 0 []) := D5.out.kept b6; have B6 : Hid (Below w.heap.size w w6) := B5.out.trans (b6.mono B5.out.size); obtain ⟨m60, m61, m62, m63, m64, m65⟩ := M6.out.box; obtain ⟨c60, c61, c62, c63, c64, c65⟩ := C6.out.box; obtain ⟨d60, d61, d62, d63, d64, d65⟩ := D6.out.box; clear b6) | (go_at_call 11; refine (HWI.out _).mono ?_; rintro e w5 ⟨rfl, b5⟩; have M5 : Hid (PB w5 MB k d wd hi a n c cs b m cc ps) := M4.out.kept b5; have C5 : Hid (PB w5 CB 0 0 0 0 none 0 0 [] none 0 0 []) := C4.out.kept b5; have D5 : Hid (PB w5 DB 0 0 0 0 none 0 0 [] none 0 0 []) := D4.out.kept b5; have B5 : Hid (Below w.heap.size w w5) := B4.out.trans (b5.mono B4.out.size); obtain ⟨m50, m51, m52, m53, m54, m55⟩ := M5.out.box; obtain ⟨c50, c51, c52, c53, c54, c55⟩ := C5.out.box; obtain ⟨d50, d51, d52, d53, d54, d55⟩ := D5.out.box; clear b5))
      clear M3 C3 D3 B3 M4 C4 D4 B4 M5 C5 D5 B5 M6 C6 D6 B6 D7 m30 m31 m32 m33 m34 m35 m50 m51 m52 m53 m54 m55 m60 m61 m62 m63 m64 m65 c30 c31 c32 c33 c34 c35 c50 c51 c52 c53 c54 c55 c60 c61 c62 c63 c64 c65 d30 d31 d32 d33 d34 d35 d50 d51 d52 d53 d54 d55 d60 d61 d62 d63 d64 d65 d70 d71 d72 d73 d74 d75 HWI HOI HOS
      go_wp2_with fail
      go_ret
      exact ⟨rfl, B7.out⟩
end Go.Proofs.Ytgeepemhmkoknaa
