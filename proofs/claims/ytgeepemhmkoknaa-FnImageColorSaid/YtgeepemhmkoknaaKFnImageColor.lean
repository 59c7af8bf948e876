/- Texts laid together: PicOk, NoFlip, WiImage, AtTop, FlipMath, ColImpl, ColSpecTop, ColMath, AnyDraw, RowCode, DrawAt, LawImageColor. -/
import Derived.Test.YtgeepemhmkoknaaImgDef
import Derived.Below
import Derived.Test.YtgeepemhmkoknaaImplFlip
import Derived.Test.YtgeepemhmkoknaaSpecFlip
import Derived.Test.YtgeepemhmkoknaaImgOk3
import Derived.Test.YtgeepemhmkoknaaImgSpec3
import Derived.Test.YtgeepemhmkoknaaPicLaw
import Derived.Test.YtgeepemhmkoknaaWiInts
import Derived.Test.YtgeepemhmkoknaaBoxWalks
import Derived.Deep.DeepCutAuto
import Derived.Test.YtgeepemhmkoknaaAtWalks
import Derived.Test.YtgeepemhmkoknaaColTop
import Derived.Test.YtgeepemhmkoknaaSpoil
import Derived.Test.YtgeepemhmkoknaaImgDraw
import Derived.Test.YtgeepemhmkoknaaDrawWalks
/- Small facts on pictures. -/
namespace Go.Proofs.Ytgeepemhmkoknaa
open Go.RowKit

theorem below_two (w : World) (o o' : Obj) : Below w.heap.size w ((w.alloc o).alloc o') := ((Below.refl _ _).alloc (Nat.le_refl _) _).alloc (by simp) _
theorem ok_open {k d wd hi : Int} {cs ps : List Int} (h : Im.okB k d wd hi cs ps = true) : Im.Ok k d wd hi cs ps := @of_decide_eq_true _ (Classical.propDecidable _) h
end Go.Proofs.Ytgeepemhmkoknaa

/- A picture that is not ok, flip: nothing. -/
namespace Go.Proofs.Ytgeepemhmkoknaa
open Go.RowKit

set_option maxHeartbeats 1000000 in
set_option maxRecDepth 20000 in
theorem spec_flip_no (k d wd hi : Int) (ca : Option Addr) (cn cc : Nat) (pa : Option Addr) (pn pc : Nat) (w : World)
    (hO : Calls Try.prog 14 #[.agg #[.int .i64 k, .int .i64 d, .int .i64 wd, .int .i64 hi, .slice ca cn cc, .slice pa pn pc]] ((w.alloc (.cells #[.int .i64 k, .int .i64 d, .int .i64 wd, .int .i64 hi, .slice ca cn cc, .slice pa pn pc] 25)).alloc (.cells #[.int .i64 0, .int .i64 0, .int .i64 0, .int .i64 0, .slice none 0 0, .slice none 0 0] 25)) fun e w' => e = .returned (.bool false) ∧ Below ((w.alloc (.cells #[.int .i64 k, .int .i64 d, .int .i64 wd, .int .i64 hi, .slice ca cn cc, .slice pa pn pc] 25)).alloc (.cells #[.int .i64 0, .int .i64 0, .int .i64 0, .int .i64 0, .slice none 0 0, .slice none 0 0] 25)).heap.size ((w.alloc (.cells #[.int .i64 k, .int .i64 d, .int .i64 wd, .int .i64 hi, .slice ca cn cc, .slice pa pn pc] 25)).alloc (.cells #[.int .i64 0, .int .i64 0, .int .i64 0, .int .i64 0, .slice none 0 0, .slice none 0 0] 25)) w') :
    Calls Try.prog 12 #[.agg #[.int .i64 k, .int .i64 d, .int .i64 wd, .int .i64 hi, .slice ca cn cc, .slice pa pn pc]] w fun e w' => e = .returned (.agg #[.int .i64 0, .int .i64 0, .int .i64 0, .int .i64 0, .slice none 0 0, .slice none 0 0]) ∧ Below w.heap.size w w' := by
  have hB0 : Below w.heap.size w ((w.alloc (.cells #[.int .i64 k, .int .i64 d, .int .i64 wd, .int .i64 hi, .slice ca cn cc, .slice pa pn pc] 25)).alloc (.cells #[.int .i64 0, .int .i64 0, .int .i64 0, .int .i64 0, .slice none 0 0, .slice none 0 0] 25)) := ((Below.refl _ _).alloc (Nat.le_refl _) _).alloc (by simp) _
  have HO : Hid (Calls Try.prog 14 #[.agg #[.int .i64 k, .int .i64 d, .int .i64 wd, .int .i64 hi, .slice ca cn cc, .slice pa pn pc]] ((w.alloc (.cells #[.int .i64 k, .int .i64 d, .int .i64 wd, .int .i64 hi, .slice ca cn cc, .slice pa pn pc] 25)).alloc (.cells #[.int .i64 0, .int .i64 0, .int .i64 0, .int .i64 0, .slice none 0 0, .slice none 0 0] 25)) fun e w' => e = .returned (.bool false) ∧ Below ((w.alloc (.cells #[.int .i64 k, .int .i64 d, .int .i64 wd, .int .i64 hi, .slice ca cn cc, .slice pa pn pc] 25)).alloc (.cells #[.int .i64 0, .int .i64 0, .int .i64 0, .int .i64 0, .slice none 0 0, .slice none 0 0] 25)).heap.size ((w.alloc (.cells #[.int .i64 k, .int .i64 d, .int .i64 wd, .int .i64 hi, .slice ca cn cc, .slice pa pn pc] 25)).alloc (.cells #[.int .i64 0, .int .i64 0, .int .i64 0, .int .i64 0, .slice none 0 0, .slice none 0 0] 25)) w') := hO
  clear hO
  have HZ : Hid (((w.alloc (.cells #[.int .i64 k, .int .i64 d, .int .i64 wd, .int .i64 hi, .slice ca cn cc, .slice pa pn pc] 25)).alloc (.cells #[.int .i64 0, .int .i64 0, .int .i64 0, .int .i64 0, .slice none 0 0, .slice none 0 0] 25)).heap[w.heap.size + 1]? = some (.cells #[.int .i64 0, .int .i64 0, .int .i64 0, .int .i64 0, .slice none 0 0, .slice none 0 0] 25 (0, 0))) := heap_alloc2_new _ _ _
  go_enter Try.func12, Try.ntmps12
  go_wp2_with fail
  refine HO.out.mono ?_
  rintro e w1 ⟨rfl, b1⟩
  have bel1 := hB0.trans (b1.mono hB0.size)
  have hz1 : w1.heap[w.heap.size + 1]? = some (.cells #[.int .i64 0, .int .i64 0, .int .i64 0, .int .i64 0, .slice none 0 0, .slice none 0 0] 25 (0, 0)) := (b1.block _ (by simp)).trans HZ.out
  have hI6 : (Try.prog.info? 25).map (·.size) = some (#[Value.int .i64 0, .int .i64 0, .int .i64 0, .int .i64 0, .slice none 0 0, .slice none 0 0]).size := by kernel_rfl
  have h16 : (#[Value.int .i64 0, .int .i64 0, .int .i64 0, .int .i64 0, .slice none 0 0, .slice none 0 0]).all (·.oneCell') = true := by simp [Value.oneCell']
  clear b1 hB0 HO HZ
  go_wp2_with (refine wpList_store_row rfl 25 (.tmp 2) (.tmp 8) rfl (w.heap.size + 1) #[.int .i64 0, .int .i64 0, .int .i64 0, .int .i64 0, .slice none 0 0, .slice none 0 0] rfl rfl 25 #[.int .i64 0, .int .i64 0, .int .i64 0, .int .i64 0, .slice none 0 0, .slice none 0 0] hz1 hI6 rfl h16 ?_)
  have hs2 := setRow_heap w1 (w.heap.size + 1) _ #[.int .i64 0, .int .i64 0, .int .i64 0, .int .i64 0, .slice none 0 0, .slice none 0 0] _ _ hz1
  refine bodyPost_ret_by (results_cell_row (p := 2) (ty := 25) (by kernel_rfl) _ _ (w.heap.size + 1) 25 _ (0, 0) _ rfl hs2 Try.underlying25 rfl (by kernel_rfl)) rfl ⟨rfl, ?_⟩
  exact bel1.trans ((below_setRow _ _ _).mono (by omega))

end Go.Proofs.Ytgeepemhmkoknaa

/- Two pictures that are the same, held against each other; pictures in boxes. -/
namespace Go.Proofs.Ytgeepemhmkoknaa
open Go.RowKit

theorem drewN_low (w : World) (m : Nat) : Below w.heap.size w (w.drewN m) := ⟨rfl, rfl, rfl, Nat.le_refl _, fun _ _ => rfl⟩

set_option maxHeartbeats 1000000 in
set_option maxRecDepth 20000 in
theorem wiImage_same (k d wd hi : Int) (n m : Nat) (cs ps : List Int) (hn : cs.length = n) (hm : ps.length = m) (hnl : n ≤ 1048576) (hml : m ≤ 1048576) (a : Option Addr) (c : Nat) (b : Option Addr) (cc : Nat) (a' : Option Addr) (c' : Nat) (b' : Option Addr) (cc' : Nat) (w : World) (h1 : Ints w a cs) (h2 : Ints w b ps) (h3 : Ints w a' cs) (h4 : Ints w b' ps) :
    Calls Try.prog 11 #[.agg #[.int .i64 k, .int .i64 d, .int .i64 wd, .int .i64 hi, .slice a n c, .slice b m cc], .agg #[.int .i64 k, .int .i64 d, .int .i64 wd, .int .i64 hi, .slice a' n c', .slice b' m cc']] w fun e w' => e = .returned (.bool true) ∧ Below w.heap.size w w' := by
  obtain ⟨W0, hW0⟩ : ∃ W0, W0 = (w.alloc (.cells #[.int .i64 k, .int .i64 d, .int .i64 wd, .int .i64 hi, .slice a n c, .slice b m cc] 25)).alloc (.cells #[.int .i64 k, .int .i64 d, .int .i64 wd, .int .i64 hi, .slice a' n c', .slice b' m cc'] 25) := ⟨_, rfl⟩
  have hB0 : Below w.heap.size w W0 := by rw [hW0]; exact ((Below.refl _ _).alloc (Nat.le_refl _) _).alloc (by simp) _
  have HC : Hid (∀ w', Ints w' a cs → Ints w' a' cs → Calls Try.prog 39 #[.slice a n c, .slice a' n c'] w' fun e w'' => e = .returned (.bool true) ∧ ∃ m, w'' = w'.drewN m) := fun w' g1 g2 => wiInts_same a c a' c' n cs w' g1 g2 hn (by omega)
  have HP : Hid (∀ w', Ints w' b ps → Ints w' b' ps → Calls Try.prog 39 #[.slice b m cc, .slice b' m cc'] w' fun e w'' => e = .returned (.bool true) ∧ ∃ m, w'' = w'.drewN m) := fun w' g1 g2 => wiInts_same b cc b' cc' m ps w' g1 g2 hm (by omega)
  have HI : Hid (∀ w', Below W0.heap.size W0 w' → Ints w' a cs ∧ Ints w' b ps ∧ Ints w' a' cs ∧ Ints w' b' ps) := fun w' b => ⟨(h1.kept hB0).kept b, (h2.kept hB0).kept b, (h3.kept hB0).kept b, (h4.kept hB0).kept b⟩
  have b0 : W0.cell? ⟨w.heap.size, 0, none⟩ = some (.int .i64 k) ∧ W0.cell? ⟨w.heap.size, 1, none⟩ = some (.int .i64 d) ∧ W0.cell? ⟨w.heap.size, 2, none⟩ = some (.int .i64 wd) ∧ W0.cell? ⟨w.heap.size, 3, none⟩ = some (.int .i64 hi) ∧ W0.cell? ⟨w.heap.size, 4, none⟩ = some (.slice a n c) ∧ W0.cell? ⟨w.heap.size, 5, none⟩ = some (.slice b m cc) := by
    rw [hW0]; exact box_kept (box_new w _ _ _ _ _ _ _) ((Below.refl _ _).alloc (Nat.le_refl _) _) (by simp)
  have b1 : W0.cell? ⟨w.heap.size + 1, 0, none⟩ = some (.int .i64 k) ∧ W0.cell? ⟨w.heap.size + 1, 1, none⟩ = some (.int .i64 d) ∧ W0.cell? ⟨w.heap.size + 1, 2, none⟩ = some (.int .i64 wd) ∧ W0.cell? ⟨w.heap.size + 1, 3, none⟩ = some (.int .i64 hi) ∧ W0.cell? ⟨w.heap.size + 1, 4, none⟩ = some (.slice a' n c') ∧ W0.cell? ⟨w.heap.size + 1, 5, none⟩ = some (.slice b' m cc') := by
    rw [hW0]
    have := box_new (w.alloc (.cells #[.int .i64 k, .int .i64 d, .int .i64 wd, .int .i64 hi, .slice a n c, .slice b m cc] 25)) (.int .i64 k) (.int .i64 d) (.int .i64 wd) (.int .i64 hi) (.slice a' n c') (.slice b' m cc') 25
    rw [World.size_alloc] at this; exact this
  obtain ⟨p0, p1, p2, p3, p4, p5⟩ := b0
  obtain ⟨q0, q1, q2, q3, q4, q5⟩ := b1
  have HB : Hid (Below w.heap.size w W0) := hB0
  clear h1 h2 h3 h4 hn hm hB0
  go_enter Try.func11, Try.ntmps11
  go_upto_region 1 with fail
  rw [← hW0]
  clear hW0
  go_wp2_with fail
  refine (HC.out _ (HI.out _ (Below.refl _ _)).1 (HI.out _ (Below.refl _ _)).2.2.1).mono ?_
  rintro e w1 ⟨rfl, m1, hw1⟩
  subst hw1
  go_wp2_with fail
  refine (HP.out _ (HI.out _ (drewN_low _ _)).2.1 (HI.out _ (drewN_low _ _)).2.2.2).mono ?_
  rintro e w2 ⟨rfl, m2, hw2⟩
  subst hw2
  go_wp2_with fail
  go_ret
  exact ⟨rfl, HB.out.trans ((drewN_low _ _).mono HB.out.size)⟩

/-- a picture in a box, its lists in memory -/
structure PB (w : World) (B : Nat) (k d wd hi : Int) (a : Option Addr) (n c : Nat) (cs : List Int) (b : Option Addr) (m cc : Nat) (ps : List Int) : Prop where
  lt : B < w.heap.size
  box : w.cell? ⟨B, 0, none⟩ = some (.int .i64 k) ∧ w.cell? ⟨B, 1, none⟩ = some (.int .i64 d) ∧ w.cell? ⟨B, 2, none⟩ = some (.int .i64 wd) ∧ w.cell? ⟨B, 3, none⟩ = some (.int .i64 hi) ∧ w.cell? ⟨B, 4, none⟩ = some (.slice a n c) ∧ w.cell? ⟨B, 5, none⟩ = some (.slice b m cc)
  i4 : Ints w a cs
  i5 : Ints w b ps
theorem PB.kept {w w' : World} {B n c m cc : Nat} {k d wd hi : Int} {a b : Option Addr} {cs ps : List Int} (h : PB w B k d wd hi a n c cs b m cc ps) (g : Below w.heap.size w w') : PB w' B k d wd hi a n c cs b m cc ps :=
  ⟨Nat.lt_of_lt_of_le h.lt g.size, box_kept h.box g h.lt, h.i4.kept g, h.i5.kept g⟩
theorem pb_new {w : World} {n c m cc : Nat} {k d wd hi : Int} {a b : Option Addr} {cs ps : List Int} (h4 : Ints w a cs) (h5 : Ints w b ps) : PB (w.alloc (.cells #[.int .i64 k, .int .i64 d, .int .i64 wd, .int .i64 hi, .slice a n c, .slice b m cc] 25)) w.heap.size k d wd hi a n c cs b m cc ps :=
  ⟨by simp, box_new w _ _ _ _ _ _ _, h4.kept ((Below.refl _ _).alloc (Nat.le_refl _) _), h5.kept ((Below.refl _ _).alloc (Nat.le_refl _) _)⟩
end Go.Proofs.Ytgeepemhmkoknaa

/- ImageAt of both sides, for every picture and place. -/
namespace Go.Proofs.Ytgeepemhmkoknaa
open Go.RowKit
namespace Im
/-- whether a point is there -/
noncomputable def atB (k d wd hi x y : Int) (cs ps : List Int) : Bool := okB k d wd hi cs ps && inB x y wd hi
/-- which it is -/
noncomputable def atV (k d wd hi x y : Int) (cs ps : List Int) : Int := if atB k d wd hi x y cs ps = true then ps.getD (y * wd + x).toNat 0 else 0
theorem at_no {k d wd hi x y : Int} {cs ps : List Int} (h : atB k d wd hi x y cs ps = false) : atV k d wd hi x y cs ps = 0 := by unfold atV; rw [h]; rfl
theorem at_yes {k d wd hi x y : Int} {cs ps : List Int} (h : atB k d wd hi x y cs ps = true) {pn I X Y Wd : Nat} (g : Spot wd hi x y pn I X Y Wd) : atV k d wd hi x y cs ps = ps.getD I 0 := by
  unfold atV; rw [if_pos h, g.x, g.y, g.wd, g.i]
  congr 1
theorem ok_of {k d wd hi : Int} {cs ps : List Int} (h : okB k d wd hi cs ps = true) : Ok k d wd hi cs ps := @of_decide_eq_true _ (Classical.propDecidable _) h
end Im

set_option maxHeartbeats 1000000 in
set_option maxRecDepth 20000 in
theorem impl_imageAt (k d wd hi x y : Int) (ca : Option Addr) (cn cc : Nat) (pa : Option Addr) (pn pc : Nat) (w : World) (cs ps : List Int) (hc : Ints w ca cs) (hcn : cs.length = cn) (hcl : cn ≤ 1048576) (hp : Ints w pa ps) (hpn : ps.length = pn) (hpl : pn ≤ 1048576) :
    Calls Try.prog 15 #[.agg #[.int .i64 k, .int .i64 d, .int .i64 wd, .int .i64 hi, .slice ca cn cc, .slice pa pn pc], .int .i64 x, .int .i64 y] w fun e w' => e = .returned (.tuple #[.int .i64 (Im.atV k d wd hi x y cs ps), .bool (Im.atB k d wd hi x y cs ps)]) ∧ Below w.heap.size w w' := by
  have hB0 : Below w.heap.size w (w.alloc (.cells #[.int .i64 k, .int .i64 d, .int .i64 wd, .int .i64 hi, .slice ca cn cc, .slice pa pn pc] 25)) := (Below.refl _ _).alloc (Nat.le_refl _) _
  have HOK := impl_imageOk k d wd hi ca cn cc pa pn pc _ cs ps (hc.kept hB0) hcn hcl (hp.kept hB0) hpn hpl
  have HIN : Hid (∀ w' : World, Calls Try.prog 50 #[.iface 52 (.agg #[.int .i64 k, .int .i64 d, .int .i64 wd, .int .i64 hi, .slice ca cn cc, .slice pa pn pc]), .int .i64 x, .int .i64 y] w' fun e w'' => e = .returned (.bool (inB x y wd hi)) ∧ Below w'.heap.size w' w'') := fun w' => inView_any k d wd hi x y ca cn cc pa pn pc w'
  cases hok : Im.okB k d wd hi cs ps
  · rw [hok] at HOK
    have HO : Hid (Calls Try.prog 13 #[.agg #[.int .i64 k, .int .i64 d, .int .i64 wd, .int .i64 hi, .slice ca cn cc, .slice pa pn pc]] (w.alloc (.cells #[.int .i64 k, .int .i64 d, .int .i64 wd, .int .i64 hi, .slice ca cn cc, .slice pa pn pc] 25)) fun e w' => e = .returned (.bool false) ∧ Below (w.alloc (.cells #[.int .i64 k, .int .i64 d, .int .i64 wd, .int .i64 hi, .slice ca cn cc, .slice pa pn pc] 25)).heap.size (w.alloc (.cells #[.int .i64 k, .int .i64 d, .int .i64 wd, .int .i64 hi, .slice ca cn cc, .slice pa pn pc] 25)) w') := HOK
    have hat : Im.atB k d wd hi x y cs ps = false := by unfold Im.atB; rw [hok]; rfl
    have HA : Hid (Im.atB k d wd hi x y cs ps = false ∧ Im.atV k d wd hi x y cs ps = 0) := ⟨hat, Im.at_no hat⟩
    clear HOK hat hok hc hp hcn hpn
    go_enter Try.func15, Try.ntmps15
    go_wp2_with fail
    refine HO.out.mono ?_
    rintro e w1 ⟨rfl, b1⟩
    have bel1 := hB0.trans (b1.mono (by simp))
    clear b1 HO hB0
    go_wp2_with fail
    go_ret2
    rw [HA.out.1, HA.out.2]
    exact ⟨rfl, bel1⟩
  · rw [hok] at HOK
    have HO : Hid (Calls Try.prog 13 #[.agg #[.int .i64 k, .int .i64 d, .int .i64 wd, .int .i64 hi, .slice ca cn cc, .slice pa pn pc]] (w.alloc (.cells #[.int .i64 k, .int .i64 d, .int .i64 wd, .int .i64 hi, .slice ca cn cc, .slice pa pn pc] 25)) fun e w' => e = .returned (.bool true) ∧ Below (w.alloc (.cells #[.int .i64 k, .int .i64 d, .int .i64 wd, .int .i64 hi, .slice ca cn cc, .slice pa pn pc] 25)).heap.size (w.alloc (.cells #[.int .i64 k, .int .i64 d, .int .i64 wd, .int .i64 hi, .slice ca cn cc, .slice pa pn pc] 25)) w') := HOK
    have hOk := Im.ok_of hok
    have HIP : Hid (∀ w', Below w.heap.size w w' → Ints w' pa ps) := fun w' b => hp.kept b
    by_cases hin : 0 ≤ x ∧ x < wd ∧ 0 ≤ y ∧ y < hi
    · obtain ⟨I, X, Y, Wd, hsp⟩ := spot_of (pn := pn) hOk.2.1 hOk.2.2.1 (by rw [← hpn]; exact hOk.2.2.2.2.1) hin
      have hat : Im.atB k d wd hi x y cs ps = true := by unfold Im.atB; rw [hok, inB_yes hin]; rfl
      have HA : Hid (Im.atB k d wd hi x y cs ps = true ∧ Im.atV k d wd hi x y cs ps = ps.getD I 0) := ⟨hat, Im.at_yes hat hsp⟩
      have HAT : Hid (∀ w', Ints w' pa ps → Calls Try.prog 51 #[.agg #[.int .i64 k, .int .i64 d, .int .i64 wd, .int .i64 hi, .slice ca cn cc, .slice pa pn pc], .int .i64 x, .int .i64 y] w' fun e w'' => e = .returned (.int .i64 (ps.getD I 0)) ∧ Below w'.heap.size w' w'') := fun w' h => at_any k d wd hi x y ca cn cc pa pn pc ps w' I X Y Wd hsp h hpn
      rw [inB_yes hin] at HIN
      clear HOK hat hok hc hp hcn hpn hOk hsp hin
      generalize ps.getD I 0 = v at *
      go_enter Try.func15, Try.ntmps15
      go_wp2_with fail
      refine HO.out.mono ?_
      rintro e w1 ⟨rfl, b1⟩
      obtain ⟨k0, k1, k2, k3, k4, k5⟩ := box_kept (box_new w _ _ _ _ _ _ 25) b1 (by simp)
      have bel1 := hB0.trans (b1.mono (by simp))
      have hlt1 : w.heap.size < w1.heap.size := Nat.lt_of_lt_of_le (by simp) b1.size
      clear b1 HO hB0
      go_wp2_with fail
      refine (HIN.out _).mono ?_
      rintro e w2 ⟨rfl, b2⟩
      obtain ⟨j0, j1, j2, j3, j4, j5⟩ := box_kept ⟨k0, k1, k2, k3, k4, k5⟩ b2 hlt1
      have bel2 := bel1.trans (b2.mono bel1.size)
      clear b2 bel1 k0 k1 k2 k3 k4 k5 hlt1
      go_wp2_with fail
      refine (HAT.out _ (HIP.out _ bel2)).mono ?_
      rintro e w3 ⟨rfl, b3⟩
      have bel3 := bel2.trans (b3.mono bel2.size)
      clear b3 bel2 j0 j1 j2 j3 j4 j5
      go_wp2_with fail
      go_ret2
      rw [HA.out.1, HA.out.2]
      exact ⟨rfl, bel3⟩
    · have hat : Im.atB k d wd hi x y cs ps = false := by unfold Im.atB; rw [inB_no hin]; simp
      have HA : Hid (Im.atB k d wd hi x y cs ps = false ∧ Im.atV k d wd hi x y cs ps = 0) := ⟨hat, Im.at_no hat⟩
      rw [inB_no hin] at HIN
      clear HOK hat hok hc hp hcn hpn hOk hin HIP
      go_enter Try.func15, Try.ntmps15
      go_wp2_with fail
      refine HO.out.mono ?_
      rintro e w1 ⟨rfl, b1⟩
      obtain ⟨k0, k1, k2, k3, k4, k5⟩ := box_kept (box_new w _ _ _ _ _ _ 25) b1 (by simp)
      have bel1 := hB0.trans (b1.mono (by simp))
      clear b1 HO hB0
      go_wp2_with fail
      refine (HIN.out _).mono ?_
      rintro e w2 ⟨rfl, b2⟩
      have bel2 := bel1.trans (b2.mono bel1.size)
      clear b2 bel1 k0 k1 k2 k3 k4 k5
      go_wp2_with fail
      go_ret2
      rw [HA.out.1, HA.out.2]
      exact ⟨rfl, bel2⟩

end Go.Proofs.Ytgeepemhmkoknaa

/- A picture upside down: what the law on it wants. -/
namespace Go.Proofs.Ytgeepemhmkoknaa
open Go.RowKit

def flipL (Wd Hi : Nat) (ps : List Int) : List Int := upto (ptF Wd (flipF Wd Hi ps)) (Wd * Hi)
theorem flipL_len (Wd Hi : Nat) (ps : List Int) : (flipL Wd Hi ps).length = Wd * Hi := upto_length _ _
theorem upto_getD (F : Nat → Int) {n j : Nat} (h : j < n) : (upto F n).getD j 0 = F j := by simp [upto, h]
theorem spot_lt {Wd Hi x y : Nat} (hx : x < Wd) (hy : y < Hi) : y * Wd + x < Wd * Hi := by
  have := Nat.mul_le_mul_right Wd (show y + 1 ≤ Hi by omega)
  rw [Nat.add_mul, Nat.one_mul, Nat.mul_comm Hi Wd] at this; omega
theorem flipL_at {Wd Hi x y : Nat} (ps : List Int) (hx : x < Wd) (hy : y < Hi) : (flipL Wd Hi ps).getD (y * Wd + x) 0 = ps.getD ((Hi - 1 - y) * Wd + x) 0 := by
  unfold flipL; rw [upto_getD _ (spot_lt hx hy), ptF_at _ hx]; rfl
theorem split_at {Wd Hi j : Nat} (h : j < Wd * Hi) : ∃ x y, x < Wd ∧ y < Hi ∧ j = y * Wd + x := by
  have hW : 0 < Wd := by
    rcases Nat.eq_zero_or_pos Wd with e | e
    · subst e; omega
    · exact e
  refine ⟨j % Wd, j / Wd, Nat.mod_lt _ hW, ?_, ?_⟩
  · exact Nat.div_lt_of_lt_mul h
  · have := Nat.div_add_mod j Wd; rw [Nat.mul_comm] at this; omega
theorem getD_of {l : List Int} {j : Nat} (h : j < l.length) : l[j] = l.getD j 0 := by
  rw [List.getD_eq_getElem?_getD, List.getElem?_eq_getElem h]; rfl
theorem flipL_flipL {Wd Hi : Nat} {ps : List Int} (h : ps.length = Wd * Hi) : flipL Wd Hi (flipL Wd Hi ps) = ps := by
  apply List.ext_getElem (by rw [flipL_len, h])
  intro j h1 h2
  rw [flipL_len] at h1
  obtain ⟨x, y, hx, hy, rfl⟩ := split_at h1
  rw [getD_of, getD_of, flipL_at _ hx hy, flipL_at _ hx (show Hi - 1 - y < Hi by omega)]
  rw [show Hi - 1 - (Hi - 1 - y) = y by omega]
theorem mem_getD {l : List Int} {j : Nat} (h : j < l.length) : l.getD j 0 ∈ l := by rw [← getD_of h]; exact List.getElem_mem h
theorem flipL_mem {Wd Hi : Nat} {ps : List Int} (h : ps.length = Wd * Hi) {z : Int} (hz : z ∈ flipL Wd Hi ps) : z ∈ ps := by
  obtain ⟨j, hj, rfl⟩ := List.getElem_of_mem hz
  have hj' := hj
  rw [flipL_len] at hj'
  obtain ⟨x, y, hx, hy, rfl⟩ := split_at hj'
  rw [getD_of, flipL_at _ hx hy]
  exact mem_getD (by rw [h]; exact spot_lt hx (by omega))
theorem ok_flip {k d : Int} {Wd Hi : Nat} {cs ps : List Int} (h : Im.okB k d Wd Hi cs ps = true) : Im.okB k d Wd Hi cs (flipL Wd Hi ps) = true := by
  obtain ⟨h1, h2, h3, h4, h5, h6⟩ := ok_open h
  have e : ((Wd * Hi : Nat) : Int) = (Wd : Int) * (Hi : Int) := by simp
  exact Im.okB_yes ⟨h1, h2, h3, h4, by rw [flipL_len]; exact e, fun z hz => h6 z (flipL_mem (by omega) hz)⟩

theorem implFlip_ok (k d : Int) (Wd Hi : Nat) (ca : Option Addr) (cn cc : Nat) (pa : Option Addr) (pn pc : Nat) (cs ps : List Int) (w : World) (hc : Ints w ca cs) (hcn : cs.length = cn) (hcl : cn ≤ 1000) (hp : Ints w pa ps) (hpn : ps.length = pn) (hok : Im.okB k d Wd Hi cs ps = true) :
    Calls Try.prog 10 #[.agg #[.int .i64 k, .int .i64 d, .int .i64 (Wd : Int), .int .i64 (Hi : Int), .slice ca cn cc, .slice pa pn pc]] w fun e w' => (∃ x cx y cy, e = .returned (.agg #[.int .i64 k, .int .i64 d, .int .i64 (Wd : Int), .int .i64 (Hi : Int), .slice x cn cx, .slice y pn cy]) ∧ Ints w' x cs ∧ Ints w' y (flipL Wd Hi ps)) ∧ Below w.heap.size w w' := by
  obtain ⟨_, hw, hh, _, hm, _⟩ := ok_open hok
  have e : ((Wd * Hi : Nat) : Int) = (Wd : Int) * (Hi : Int) := by simp
  have hmm : pn = Wd * Hi := by omega
  have hmul : Wd * Hi ≤ 20 * 20 := Nat.mul_le_mul (by omega) (by omega)
  have hO := impl_imageOk k d Wd Hi ca cn cc pa pn pc ((w.alloc (.cells #[.int .i64 k, .int .i64 d, .int .i64 (Wd : Int), .int .i64 (Hi : Int), .slice ca cn cc, .slice pa pn pc] 25)).alloc (.cells #[.int .i64 0, .int .i64 0, .int .i64 0, .int .i64 0, .slice none 0 0, .slice none 0 0] 25)) cs ps (hc.kept (below_two _ _ _)) hcn (by omega) (hp.kept (below_two _ _ _)) hpn (by omega)
  rw [hok] at hO
  refine (impl_flip_yes k d Wd Hi ca cn cc pa pn pc cs ps w hc hcn (by omega) hp hpn (by omega) (by omega) hmm hO).mono ?_
  rintro e w' ⟨⟨x, cx, y, cy, rfl, hT⟩, b⟩
  rw [hmm]
  exact ⟨⟨x, cx, y, cy, rfl, (hT.two b.size).ints.1, (hT.two b.size).ints.2⟩, b⟩
theorem specFlip_ok (k d : Int) (Wd Hi : Nat) (ca : Option Addr) (cn cc : Nat) (pa : Option Addr) (pn pc : Nat) (cs ps : List Int) (w : World) (hc : Ints w ca cs) (hcn : cs.length = cn) (hcl : cn ≤ 1000) (hp : Ints w pa ps) (hpn : ps.length = pn) (hpc : pn ≤ pc) (hok : Im.okB k d Wd Hi cs ps = true) :
    Calls Try.prog 12 #[.agg #[.int .i64 k, .int .i64 d, .int .i64 (Wd : Int), .int .i64 (Hi : Int), .slice ca cn cc, .slice pa pn pc]] w fun e w' => (∃ x cx y cy, e = .returned (.agg #[.int .i64 k, .int .i64 d, .int .i64 (Wd : Int), .int .i64 (Hi : Int), .slice x cn cx, .slice y pn cy]) ∧ Ints w' x cs ∧ Ints w' y (flipL Wd Hi ps)) ∧ Below w.heap.size w w' := by
  obtain ⟨_, hw, hh, _, hm, _⟩ := ok_open hok
  have e : ((Wd * Hi : Nat) : Int) = (Wd : Int) * (Hi : Int) := by simp
  have hmm : pn = Wd * Hi := by omega
  have hO := spec_imageOk k d Wd Hi ca cn cc pa pn pc ((w.alloc (.cells #[.int .i64 k, .int .i64 d, .int .i64 (Wd : Int), .int .i64 (Hi : Int), .slice ca cn cc, .slice pa pn pc] 25)).alloc (.cells #[.int .i64 0, .int .i64 0, .int .i64 0, .int .i64 0, .slice none 0 0, .slice none 0 0] 25)) cs ps (hc.kept (below_two _ _ _)) hcn (by omega) (hp.kept (below_two _ _ _)) hpn
  rw [hok] at hO
  refine (spec_flip_yes k d Wd Hi ca cn cc pa pn pc cs ps w hc hcn (by omega) hp hpn (by omega) (by omega) hmm hpc (by omega) hO).mono ?_
  rintro e w' ⟨⟨x, cx, y, cy, rfl, h1, h2⟩, b⟩
  rw [hmm]
  exact ⟨⟨x, cx, y, cy, rfl, h1, h2⟩, b⟩
theorem implFlip_bad (k d wd hi : Int) (ca : Option Addr) (cn cc : Nat) (pa : Option Addr) (pn pc : Nat) (cs ps : List Int) (w : World) (hc : Ints w ca cs) (hcn : cs.length = cn) (hcl : cn ≤ 1000) (hp : Ints w pa ps) (hpn : ps.length = pn) (hpl : pn ≤ 1000) (hok : Im.okB k d wd hi cs ps = false) :
    Calls Try.prog 10 #[.agg #[.int .i64 k, .int .i64 d, .int .i64 wd, .int .i64 hi, .slice ca cn cc, .slice pa pn pc]] w fun e w' => e = .returned (.agg #[.int .i64 0, .int .i64 0, .int .i64 0, .int .i64 0, .slice none 0 0, .slice none 0 0]) ∧ Below w.heap.size w w' := by
  have hO := impl_imageOk k d wd hi ca cn cc pa pn pc ((w.alloc (.cells #[.int .i64 k, .int .i64 d, .int .i64 wd, .int .i64 hi, .slice ca cn cc, .slice pa pn pc] 25)).alloc (.cells #[.int .i64 0, .int .i64 0, .int .i64 0, .int .i64 0, .slice none 0 0, .slice none 0 0] 25)) cs ps (hc.kept (below_two _ _ _)) hcn (by omega) (hp.kept (below_two _ _ _)) hpn (by omega)
  rw [hok] at hO
  exact impl_flip_no k d wd hi ca cn cc pa pn pc w hO
theorem specFlip_bad (k d wd hi : Int) (ca : Option Addr) (cn cc : Nat) (pa : Option Addr) (pn pc : Nat) (cs ps : List Int) (w : World) (hc : Ints w ca cs) (hcn : cs.length = cn) (hcl : cn ≤ 1000) (hp : Ints w pa ps) (hpn : ps.length = pn) (hok : Im.okB k d wd hi cs ps = false) :
    Calls Try.prog 12 #[.agg #[.int .i64 k, .int .i64 d, .int .i64 wd, .int .i64 hi, .slice ca cn cc, .slice pa pn pc]] w fun e w' => e = .returned (.agg #[.int .i64 0, .int .i64 0, .int .i64 0, .int .i64 0, .slice none 0 0, .slice none 0 0]) ∧ Below w.heap.size w w' := by
  have hO := spec_imageOk k d wd hi ca cn cc pa pn pc ((w.alloc (.cells #[.int .i64 k, .int .i64 d, .int .i64 wd, .int .i64 hi, .slice ca cn cc, .slice pa pn pc] 25)).alloc (.cells #[.int .i64 0, .int .i64 0, .int .i64 0, .int .i64 0, .slice none 0 0, .slice none 0 0] 25)) cs ps (hc.kept (below_two _ _ _)) hcn (by omega) (hp.kept (below_two _ _ _)) hpn
  rw [hok] at hO
  exact spec_flip_no k d wd hi ca cn cc pa pn pc w hO

/-- a point of a picture that is ok -/
theorem implAt_ok (k d : Int) (Wd Hi X Y : Nat) (ca : Option Addr) (cn cc : Nat) (pa : Option Addr) (pn pc : Nat) (cs ps : List Int) (w : World) (hc : Ints w ca cs) (hcn : cs.length = cn) (hcl : cn ≤ 1000) (hp : Ints w pa ps) (hpn : ps.length = pn) (hpl : pn ≤ 1000) (hok : Im.okB k d Wd Hi cs ps = true) (hX : X < Wd) (hY : Y < Hi) :
    Calls Try.prog 15 #[.agg #[.int .i64 k, .int .i64 d, .int .i64 (Wd : Int), .int .i64 (Hi : Int), .slice ca cn cc, .slice pa pn pc], .int .i64 (X : Int), .int .i64 (Y : Int)] w fun e w' => e = .returned (.tuple #[.int .i64 (ps.getD (Y * Wd + X) 0), .bool true]) ∧ Below w.heap.size w w' := by
  have hB : Im.atB k d Wd Hi X Y cs ps = true := by unfold Im.atB; rw [hok, inB_yes (by omega)]; rfl
  have hV : Im.atV k d Wd Hi X Y cs ps = ps.getD (Y * Wd + X) 0 := by
    unfold Im.atV; rw [if_pos hB]
    congr 1
  have := impl_imageAt k d Wd Hi X Y ca cn cc pa pn pc w cs ps hc hcn (by omega) hp hpn (by omega)
  rw [hB, hV] at this
  exact this
end Go.Proofs.Ytgeepemhmkoknaa

/- ImageColor of the program, for every picture and place. -/
namespace Go.Proofs.Ytgeepemhmkoknaa
open Go.RowKit

set_option maxHeartbeats 2000000 in
set_option maxRecDepth 20000 in
theorem impl_color_gray (D p : Nat) (wd hi x y : Int) (ca : Option Addr) (cn cc : Nat) (pa : Option Addr) (pn pc : Nat) (w : World) (cs : List Int) (hc : Ints w ca cs) (hcn : cs.length = cn) (hDD : D = 1 ∨ D = 2 ∨ D = 4 ∨ D = 8) (hp2 : p < 2 ^ D) 
    (hat : ∀ w', Below w.heap.size w w' → Calls Try.prog 51 #[.agg #[.int .i64 1, .int .i64 (D : Int), .int .i64 wd, .int .i64 hi, .slice ca cn cc, .slice pa pn pc], .int .i64 x, .int .i64 y] w' fun e w'' => e = .returned (.int .i64 (p : Int)) ∧ Below w'.heap.size w' w'')
    (hO : Calls Try.prog 13 #[.agg #[.int .i64 1, .int .i64 (D : Int), .int .i64 wd, .int .i64 hi, .slice ca cn cc, .slice pa pn pc]] (w.alloc (.cells #[.int .i64 1, .int .i64 (D : Int), .int .i64 wd, .int .i64 hi, .slice ca cn cc, .slice pa pn pc] 25)) fun e w' => e = .returned (.bool true) ∧ Below (w.alloc (.cells #[.int .i64 1, .int .i64 (D : Int), .int .i64 wd, .int .i64 hi, .slice ca cn cc, .slice pa pn pc] 25)).heap.size (w.alloc (.cells #[.int .i64 1, .int .i64 (D : Int), .int .i64 wd, .int .i64 hi, .slice ca cn cc, .slice pa pn pc] 25)) w') (hin : inB x y wd hi = true) :
    Calls Try.prog 23 #[.agg #[.int .i64 1, .int .i64 (D : Int), .int .i64 wd, .int .i64 hi, .slice ca cn cc, .slice pa pn pc], .int .i64 x, .int .i64 y] w fun e w' => e = .returned (.tuple #[.int .i64 (colOf 1 D cs (p : Int)), .bool true]) ∧ Below w.heap.size w w' := by
  have hcol : colOf 1 D cs (p : Int) = (p : Int) * (stepOf D : Int) * 16843008 + 255 := by
    unfold colOf; rw [if_pos rfl]
  have hst : p * stepOf D ≤ 255 := (gray_step hDD hp2).2.2.1
  have hB0 : Below w.heap.size w (w.alloc (.cells #[.int .i64 1, .int .i64 (D : Int), .int .i64 wd, .int .i64 hi, .slice ca cn cc, .slice pa pn pc] 25)) := (Below.refl _ _).alloc (Nat.le_refl _) _
  have HO : Hid (Calls Try.prog 13 #[.agg #[.int .i64 1, .int .i64 (D : Int), .int .i64 wd, .int .i64 hi, .slice ca cn cc, .slice pa pn pc]] (w.alloc (.cells #[.int .i64 1, .int .i64 (D : Int), .int .i64 wd, .int .i64 hi, .slice ca cn cc, .slice pa pn pc] 25)) fun e w' => e = .returned (.bool true) ∧ Below (w.alloc (.cells #[.int .i64 1, .int .i64 (D : Int), .int .i64 wd, .int .i64 hi, .slice ca cn cc, .slice pa pn pc] 25)).heap.size (w.alloc (.cells #[.int .i64 1, .int .i64 (D : Int), .int .i64 wd, .int .i64 hi, .slice ca cn cc, .slice pa pn pc] 25)) w') := hO
  have HIN : Hid (∀ w' : World, Calls Try.prog 50 #[.iface 52 (.agg #[.int .i64 1, .int .i64 (D : Int), .int .i64 wd, .int .i64 hi, .slice ca cn cc, .slice pa pn pc]), .int .i64 x, .int .i64 y] w' fun e w'' => e = .returned (.bool true) ∧ Below w'.heap.size w' w'') := by
    intro w'; have := inView_any 1 (D : Int) wd hi x y ca cn cc pa pn pc w'; rw [hin] at this; exact this
  have HAT : Hid (∀ w', Below w.heap.size w w' → Calls Try.prog 51 #[.agg #[.int .i64 1, .int .i64 (D : Int), .int .i64 wd, .int .i64 hi, .slice ca cn cc, .slice pa pn pc], .int .i64 x, .int .i64 y] w' fun e w'' => e = .returned (.int .i64 (p : Int)) ∧ Below w'.heap.size w' w'') := hat
  have HIC : Hid (∀ w', Below w.heap.size w w' → Ints w' ca cs) := fun w' b => hc.kept b
  have HCN : Hid (cs.length = cn) := hcn
  have HCOL : Hid (colOf 1 D cs (p : Int) = (p : Int) * (stepOf D : Int) * 16843008 + 255) := hcol
  clear hO hin hat hc hcn hcol
  generalize hcv : colOf 1 D cs (p : Int) = c at *
  have HCV : Hid (colOf 1 D cs (p : Int) = c) := hcv
  clear hcv
  go_enter Try.func23, Try.ntmps23
  go_wp2_with fail
  refine HO.out.mono ?_
  rintro e w1 ⟨rfl, b1⟩
  obtain ⟨k0, k1, k2, k3, k4, k5⟩ := box_kept (box_new w _ _ _ _ _ _ 25) b1 (by simp)
  have bel1 := hB0.trans (b1.mono (by simp))
  have hlt1 : w.heap.size < w1.heap.size := Nat.lt_of_lt_of_le (by simp) b1.size
  clear b1 HO hB0
  go_wp2_with fail
  refine (HIN.out _).mono ?_
  rintro e w2 ⟨rfl, b2⟩
  obtain ⟨j0, j1, j2, j3, j4, j5⟩ := box_kept ⟨k0, k1, k2, k3, k4, k5⟩ b2 hlt1
  have bel2 := bel1.trans (b2.mono bel1.size)
  clear b2 bel1 k0 k1 k2 k3 k4 k5 hlt1
  go_wp2_with fail
  refine (colored_gray D wd hi ca cn cc pa pn pc w2 hDD).mono ?_
  rintro e w3 ⟨⟨A, B, rfl, hA, hB, hA2, hB2⟩, b3⟩
  have bel3 := bel2.trans (b3.mono bel2.size)
  have hcol := HCOL.out
  have HCH : Hid (Calls Try.prog 104 #[.agg #[.iface 52 (.agg #[.int .i64 1, .int .i64 (D : Int), .int .i64 wd, .int .i64 hi, .slice ca cn cc, .slice pa pn pc]), .func (.func 80) #[] #[.pointer (some ⟨A, 0, none⟩), .pointer (some ⟨B, 0, none⟩)]], .int .i64 x, .int .i64 y] w3 fun e w' => e = .returned (.int .i64 c) ∧ Below w3.heap.size w3 w') :=
    changed_gray 1 (D : Int) wd hi x y (p : Int) c A B ca cn cc pa pn pc w3 (fun w' b' => HAT.out w' (bel3.trans (b'.mono bel3.size))) (fun w' b' => (gray_any A B (stepOf D) p w' ((b'.cell (p := ⟨A, 0, none⟩) hA2).trans hA) ((b'.cell (p := ⟨B, 0, none⟩) hB2).trans hB) hst).mono (fun e w'' h => ⟨by rw [h.1, hcol], by rw [h.2]; exact Below.refl _ _⟩))
  have m3 : ∀ w, (method 205 76 (.agg #[.iface 52 (.agg #[.int .i64 1, .int .i64 (D : Int), .int .i64 wd, .int .i64 hi, .slice ca cn cc, .slice pa pn pc]), .func (.func 80) #[] #[.pointer (some ⟨A, 0, none⟩), .pointer (some ⟨B, 0, none⟩)]]) "loop.example/intarsia/impl.at").run Try.prog w = .ok (104, .agg #[.iface 52 (.agg #[.int .i64 1, .int .i64 (D : Int), .int .i64 wd, .int .i64 hi, .slice ca cn cc, .slice pa pn pc]), .func (.func 80) #[] #[.pointer (some ⟨A, 0, none⟩), .pointer (some ⟨B, 0, none⟩)]]) w := fun w => by kernel_rfl
  have m4 : ∀ w, (nilAhead 205 76 (.agg #[.iface 52 (.agg #[.int .i64 1, .int .i64 (D : Int), .int .i64 wd, .int .i64 hi, .slice ca cn cc, .slice pa pn pc]), .func (.func 80) #[] #[.pointer (some ⟨A, 0, none⟩), .pointer (some ⟨B, 0, none⟩)]]) "loop.example/intarsia/impl.at").run Try.prog w = .ok (some false) w := fun w => by kernel_rfl
  clear b3 bel2 j0 j1 j2 j3 j4 j5 hcol
  go_wp2_with fail
  refine HCH.out.mono ?_
  rintro e w4 ⟨rfl, b4⟩
  have bel4 := bel3.trans (b4.mono bel3.size)
  clear b4 bel3 HCH m3 m4
  go_wp2_with fail
  go_ret2
  exact ⟨rfl, bel4⟩

set_option maxHeartbeats 2000000 in
set_option maxRecDepth 20000 in
theorem impl_color_pal (D p : Nat) (wd hi x y : Int) (ca : Option Addr) (cn cc : Nat) (pa : Option Addr) (pn pc : Nat) (w : World) (cs : List Int) (hc : Ints w ca cs) (hcn : cs.length = cn) (hpc : p < cn) (hW : Within 16777215 cs) 
    (hat : ∀ w', Below w.heap.size w w' → Calls Try.prog 51 #[.agg #[.int .i64 4, .int .i64 (D : Int), .int .i64 wd, .int .i64 hi, .slice ca cn cc, .slice pa pn pc], .int .i64 x, .int .i64 y] w' fun e w'' => e = .returned (.int .i64 (p : Int)) ∧ Below w'.heap.size w' w'')
    (hO : Calls Try.prog 13 #[.agg #[.int .i64 4, .int .i64 (D : Int), .int .i64 wd, .int .i64 hi, .slice ca cn cc, .slice pa pn pc]] (w.alloc (.cells #[.int .i64 4, .int .i64 (D : Int), .int .i64 wd, .int .i64 hi, .slice ca cn cc, .slice pa pn pc] 25)) fun e w' => e = .returned (.bool true) ∧ Below (w.alloc (.cells #[.int .i64 4, .int .i64 (D : Int), .int .i64 wd, .int .i64 hi, .slice ca cn cc, .slice pa pn pc] 25)).heap.size (w.alloc (.cells #[.int .i64 4, .int .i64 (D : Int), .int .i64 wd, .int .i64 hi, .slice ca cn cc, .slice pa pn pc] 25)) w') (hin : inB x y wd hi = true) :
    Calls Try.prog 23 #[.agg #[.int .i64 4, .int .i64 (D : Int), .int .i64 wd, .int .i64 hi, .slice ca cn cc, .slice pa pn pc], .int .i64 x, .int .i64 y] w fun e w' => e = .returned (.tuple #[.int .i64 (colOf 4 D cs (p : Int)), .bool true]) ∧ Below w.heap.size w w' := by
  have hcol : colOf 4 D cs (p : Int) = cs.getD p 0 * 256 + 255 := by
    unfold colOf; rw [if_neg (by decide), if_neg (by decide), if_pos rfl, Int.toNat_natCast]
  have hB0 : Below w.heap.size w (w.alloc (.cells #[.int .i64 4, .int .i64 (D : Int), .int .i64 wd, .int .i64 hi, .slice ca cn cc, .slice pa pn pc] 25)) := (Below.refl _ _).alloc (Nat.le_refl _) _
  have HO : Hid (Calls Try.prog 13 #[.agg #[.int .i64 4, .int .i64 (D : Int), .int .i64 wd, .int .i64 hi, .slice ca cn cc, .slice pa pn pc]] (w.alloc (.cells #[.int .i64 4, .int .i64 (D : Int), .int .i64 wd, .int .i64 hi, .slice ca cn cc, .slice pa pn pc] 25)) fun e w' => e = .returned (.bool true) ∧ Below (w.alloc (.cells #[.int .i64 4, .int .i64 (D : Int), .int .i64 wd, .int .i64 hi, .slice ca cn cc, .slice pa pn pc] 25)).heap.size (w.alloc (.cells #[.int .i64 4, .int .i64 (D : Int), .int .i64 wd, .int .i64 hi, .slice ca cn cc, .slice pa pn pc] 25)) w') := hO
  have HIN : Hid (∀ w' : World, Calls Try.prog 50 #[.iface 52 (.agg #[.int .i64 4, .int .i64 (D : Int), .int .i64 wd, .int .i64 hi, .slice ca cn cc, .slice pa pn pc]), .int .i64 x, .int .i64 y] w' fun e w'' => e = .returned (.bool true) ∧ Below w'.heap.size w' w'') := by
    intro w'; have := inView_any 4 (D : Int) wd hi x y ca cn cc pa pn pc w'; rw [hin] at this; exact this
  have HAT : Hid (∀ w', Below w.heap.size w w' → Calls Try.prog 51 #[.agg #[.int .i64 4, .int .i64 (D : Int), .int .i64 wd, .int .i64 hi, .slice ca cn cc, .slice pa pn pc], .int .i64 x, .int .i64 y] w' fun e w'' => e = .returned (.int .i64 (p : Int)) ∧ Below w'.heap.size w' w'') := hat
  have HIC : Hid (∀ w', Below w.heap.size w w' → Ints w' ca cs) := fun w' b => hc.kept b
  have HCN : Hid (cs.length = cn) := hcn
  have HCOL : Hid (colOf 4 D cs (p : Int) = cs.getD p 0 * 256 + 255) := hcol
  clear hO hin hat hc hcn hcol
  generalize hcv : colOf 4 D cs (p : Int) = c at *
  have HCV : Hid (colOf 4 D cs (p : Int) = c) := hcv
  clear hcv
  go_enter Try.func23, Try.ntmps23
  go_wp2_with fail
  refine HO.out.mono ?_
  rintro e w1 ⟨rfl, b1⟩
  obtain ⟨k0, k1, k2, k3, k4, k5⟩ := box_kept (box_new w _ _ _ _ _ _ 25) b1 (by simp)
  have bel1 := hB0.trans (b1.mono (by simp))
  have hlt1 : w.heap.size < w1.heap.size := Nat.lt_of_lt_of_le (by simp) b1.size
  clear b1 HO hB0
  go_wp2_with fail
  refine (HIN.out _).mono ?_
  rintro e w2 ⟨rfl, b2⟩
  obtain ⟨j0, j1, j2, j3, j4, j5⟩ := box_kept ⟨k0, k1, k2, k3, k4, k5⟩ b2 hlt1
  have bel2 := bel1.trans (b2.mono bel1.size)
  clear b2 bel1 k0 k1 k2 k3 k4 k5 hlt1
  go_wp2_with fail
  refine (colored_pal (D : Int) wd hi ca cn cc pa pn pc w2).mono ?_
  rintro e w3 ⟨⟨A, B, rfl, hA, hB, hA2, hB2⟩, b3⟩
  have bel3 := bel2.trans (b3.mono bel2.size)
  have hcol := HCOL.out
  have HCH : Hid (Calls Try.prog 104 #[.agg #[.iface 52 (.agg #[.int .i64 4, .int .i64 (D : Int), .int .i64 wd, .int .i64 hi, .slice ca cn cc, .slice pa pn pc]), .func (.func 81) #[] #[.pointer (some ⟨A, 0, none⟩), .pointer (some ⟨B, 0, none⟩)]], .int .i64 x, .int .i64 y] w3 fun e w' => e = .returned (.int .i64 c) ∧ Below w3.heap.size w3 w') :=
    changed_pal 4 (D : Int) wd hi x y (p : Int) c A B ca cn cc pa pn pc w3 (fun w' b' => HAT.out w' (bel3.trans (b'.mono bel3.size))) (fun w' b' => (pal_any A B p cn cc ca cs w' ((b'.cell (p := ⟨A, 0, none⟩) hA2).trans hA) ((b'.cell (p := ⟨B, 4, none⟩) hB2).trans hB) ((HIC.out _ bel3).kept b') HCN.out hpc hW).mono (fun e w'' h => ⟨by rw [h.1, hcol], by obtain ⟨m, hm⟩ := h.2; rw [hm]; exact below_drewN (Below.refl _ _) _⟩))
  have m3 : ∀ w, (method 205 76 (.agg #[.iface 52 (.agg #[.int .i64 4, .int .i64 (D : Int), .int .i64 wd, .int .i64 hi, .slice ca cn cc, .slice pa pn pc]), .func (.func 81) #[] #[.pointer (some ⟨A, 0, none⟩), .pointer (some ⟨B, 0, none⟩)]]) "loop.example/intarsia/impl.at").run Try.prog w = .ok (104, .agg #[.iface 52 (.agg #[.int .i64 4, .int .i64 (D : Int), .int .i64 wd, .int .i64 hi, .slice ca cn cc, .slice pa pn pc]), .func (.func 81) #[] #[.pointer (some ⟨A, 0, none⟩), .pointer (some ⟨B, 0, none⟩)]]) w := fun w => by kernel_rfl
  have m4 : ∀ w, (nilAhead 205 76 (.agg #[.iface 52 (.agg #[.int .i64 4, .int .i64 (D : Int), .int .i64 wd, .int .i64 hi, .slice ca cn cc, .slice pa pn pc]), .func (.func 81) #[] #[.pointer (some ⟨A, 0, none⟩), .pointer (some ⟨B, 0, none⟩)]]) "loop.example/intarsia/impl.at").run Try.prog w = .ok (some false) w := fun w => by kernel_rfl
  clear b3 bel2 j0 j1 j2 j3 j4 j5 hcol
  go_wp2_with fail
  refine HCH.out.mono ?_
  rintro e w4 ⟨rfl, b4⟩
  have bel4 := bel3.trans (b4.mono bel3.size)
  clear b4 bel3 HCH m3 m4
  go_wp2_with fail
  go_ret2
  exact ⟨rfl, bel4⟩

set_option maxHeartbeats 2000000 in
set_option maxRecDepth 20000 in
theorem impl_color_rgb (D p : Nat) (wd hi x y : Int) (ca : Option Addr) (cn cc : Nat) (pa : Option Addr) (pn pc : Nat) (w : World) (cs : List Int) (hc : Ints w ca cs) (hcn : cs.length = cn) (hp2 : p ≤ 16777216) 
    (hat : ∀ w', Below w.heap.size w w' → Calls Try.prog 51 #[.agg #[.int .i64 2, .int .i64 (D : Int), .int .i64 wd, .int .i64 hi, .slice ca cn cc, .slice pa pn pc], .int .i64 x, .int .i64 y] w' fun e w'' => e = .returned (.int .i64 (p : Int)) ∧ Below w'.heap.size w' w'')
    (hO : Calls Try.prog 13 #[.agg #[.int .i64 2, .int .i64 (D : Int), .int .i64 wd, .int .i64 hi, .slice ca cn cc, .slice pa pn pc]] (w.alloc (.cells #[.int .i64 2, .int .i64 (D : Int), .int .i64 wd, .int .i64 hi, .slice ca cn cc, .slice pa pn pc] 25)) fun e w' => e = .returned (.bool true) ∧ Below (w.alloc (.cells #[.int .i64 2, .int .i64 (D : Int), .int .i64 wd, .int .i64 hi, .slice ca cn cc, .slice pa pn pc] 25)).heap.size (w.alloc (.cells #[.int .i64 2, .int .i64 (D : Int), .int .i64 wd, .int .i64 hi, .slice ca cn cc, .slice pa pn pc] 25)) w') (hin : inB x y wd hi = true) :
    Calls Try.prog 23 #[.agg #[.int .i64 2, .int .i64 (D : Int), .int .i64 wd, .int .i64 hi, .slice ca cn cc, .slice pa pn pc], .int .i64 x, .int .i64 y] w fun e w' => e = .returned (.tuple #[.int .i64 (colOf 2 D cs (p : Int)), .bool true]) ∧ Below w.heap.size w w' := by
  have hcol : colOf 2 D cs (p : Int) = (p : Int) * 256 + 255 := by
    unfold colOf; rw [if_neg (by decide), if_pos rfl]
  have hB0 : Below w.heap.size w (w.alloc (.cells #[.int .i64 2, .int .i64 (D : Int), .int .i64 wd, .int .i64 hi, .slice ca cn cc, .slice pa pn pc] 25)) := (Below.refl _ _).alloc (Nat.le_refl _) _
  have HO : Hid (Calls Try.prog 13 #[.agg #[.int .i64 2, .int .i64 (D : Int), .int .i64 wd, .int .i64 hi, .slice ca cn cc, .slice pa pn pc]] (w.alloc (.cells #[.int .i64 2, .int .i64 (D : Int), .int .i64 wd, .int .i64 hi, .slice ca cn cc, .slice pa pn pc] 25)) fun e w' => e = .returned (.bool true) ∧ Below (w.alloc (.cells #[.int .i64 2, .int .i64 (D : Int), .int .i64 wd, .int .i64 hi, .slice ca cn cc, .slice pa pn pc] 25)).heap.size (w.alloc (.cells #[.int .i64 2, .int .i64 (D : Int), .int .i64 wd, .int .i64 hi, .slice ca cn cc, .slice pa pn pc] 25)) w') := hO
  have HIN : Hid (∀ w' : World, Calls Try.prog 50 #[.iface 52 (.agg #[.int .i64 2, .int .i64 (D : Int), .int .i64 wd, .int .i64 hi, .slice ca cn cc, .slice pa pn pc]), .int .i64 x, .int .i64 y] w' fun e w'' => e = .returned (.bool true) ∧ Below w'.heap.size w' w'') := by
    intro w'; have := inView_any 2 (D : Int) wd hi x y ca cn cc pa pn pc w'; rw [hin] at this; exact this
  have HAT : Hid (∀ w', Below w.heap.size w w' → Calls Try.prog 51 #[.agg #[.int .i64 2, .int .i64 (D : Int), .int .i64 wd, .int .i64 hi, .slice ca cn cc, .slice pa pn pc], .int .i64 x, .int .i64 y] w' fun e w'' => e = .returned (.int .i64 (p : Int)) ∧ Below w'.heap.size w' w'') := hat
  have HIC : Hid (∀ w', Below w.heap.size w w' → Ints w' ca cs) := fun w' b => hc.kept b
  have HCN : Hid (cs.length = cn) := hcn
  have HCOL : Hid (colOf 2 D cs (p : Int) = (p : Int) * 256 + 255) := hcol
  clear hO hin hat hc hcn hcol
  generalize hcv : colOf 2 D cs (p : Int) = c at *
  have HCV : Hid (colOf 2 D cs (p : Int) = c) := hcv
  clear hcv
  go_enter Try.func23, Try.ntmps23
  go_wp2_with fail
  refine HO.out.mono ?_
  rintro e w1 ⟨rfl, b1⟩
  obtain ⟨k0, k1, k2, k3, k4, k5⟩ := box_kept (box_new w _ _ _ _ _ _ 25) b1 (by simp)
  have bel1 := hB0.trans (b1.mono (by simp))
  have hlt1 : w.heap.size < w1.heap.size := Nat.lt_of_lt_of_le (by simp) b1.size
  clear b1 HO hB0
  go_wp2_with fail
  refine (HIN.out _).mono ?_
  rintro e w2 ⟨rfl, b2⟩
  obtain ⟨j0, j1, j2, j3, j4, j5⟩ := box_kept ⟨k0, k1, k2, k3, k4, k5⟩ b2 hlt1
  have bel2 := bel1.trans (b2.mono bel1.size)
  clear b2 bel1 k0 k1 k2 k3 k4 k5 hlt1
  go_wp2_with fail
  refine (colored_rgb (D : Int) wd hi ca cn cc pa pn pc w2).mono ?_
  rintro e w3 ⟨rfl, b3⟩
  have bel3 := bel2.trans (b3.mono bel2.size)
  have hcol := HCOL.out
  have HCH : Hid (Calls Try.prog 104 #[.agg #[.iface 52 (.agg #[.int .i64 2, .int .i64 (D : Int), .int .i64 wd, .int .i64 hi, .slice ca cn cc, .slice pa pn pc]), .func (.func 79) #[] #[]], .int .i64 x, .int .i64 y] w3 fun e w' => e = .returned (.int .i64 c) ∧ Below w3.heap.size w3 w') :=
    changed_rgb 2 (D : Int) wd hi x y (p : Int) c ca cn cc pa pn pc w3 (fun w' b' => HAT.out w' (bel3.trans (b'.mono bel3.size))) (fun w' b' => (solid_any (p : Int) w' (by omega) (by omega)).mono (fun e w'' h => ⟨by rw [h.1, hcol], by rw [h.2]; exact Below.refl _ _⟩))
  have m3 : ∀ w, (method 205 76 (.agg #[.iface 52 (.agg #[.int .i64 2, .int .i64 (D : Int), .int .i64 wd, .int .i64 hi, .slice ca cn cc, .slice pa pn pc]), .func (.func 79) #[] #[]]) "loop.example/intarsia/impl.at").run Try.prog w = .ok (104, .agg #[.iface 52 (.agg #[.int .i64 2, .int .i64 (D : Int), .int .i64 wd, .int .i64 hi, .slice ca cn cc, .slice pa pn pc]), .func (.func 79) #[] #[]]) w := fun w => by kernel_rfl
  have m4 : ∀ w, (nilAhead 205 76 (.agg #[.iface 52 (.agg #[.int .i64 2, .int .i64 (D : Int), .int .i64 wd, .int .i64 hi, .slice ca cn cc, .slice pa pn pc]), .func (.func 79) #[] #[]]) "loop.example/intarsia/impl.at").run Try.prog w = .ok (some false) w := fun w => by kernel_rfl
  clear b3 bel2 j0 j1 j2 j3 j4 j5 hcol
  go_wp2_with fail
  refine HCH.out.mono ?_
  rintro e w4 ⟨rfl, b4⟩
  have bel4 := bel3.trans (b4.mono bel3.size)
  clear b4 bel3 HCH m3 m4
  go_wp2_with fail
  go_ret2
  exact ⟨rfl, bel4⟩

set_option maxHeartbeats 2000000 in
set_option maxRecDepth 20000 in
theorem impl_color_rgba (D p : Nat) (wd hi x y : Int) (ca : Option Addr) (cn cc : Nat) (pa : Option Addr) (pn pc : Nat) (w : World) (cs : List Int) (hc : Ints w ca cs) (hcn : cs.length = cn) 
    (hat : ∀ w', Below w.heap.size w w' → Calls Try.prog 51 #[.agg #[.int .i64 3, .int .i64 (D : Int), .int .i64 wd, .int .i64 hi, .slice ca cn cc, .slice pa pn pc], .int .i64 x, .int .i64 y] w' fun e w'' => e = .returned (.int .i64 (p : Int)) ∧ Below w'.heap.size w' w'')
    (hO : Calls Try.prog 13 #[.agg #[.int .i64 3, .int .i64 (D : Int), .int .i64 wd, .int .i64 hi, .slice ca cn cc, .slice pa pn pc]] (w.alloc (.cells #[.int .i64 3, .int .i64 (D : Int), .int .i64 wd, .int .i64 hi, .slice ca cn cc, .slice pa pn pc] 25)) fun e w' => e = .returned (.bool true) ∧ Below (w.alloc (.cells #[.int .i64 3, .int .i64 (D : Int), .int .i64 wd, .int .i64 hi, .slice ca cn cc, .slice pa pn pc] 25)).heap.size (w.alloc (.cells #[.int .i64 3, .int .i64 (D : Int), .int .i64 wd, .int .i64 hi, .slice ca cn cc, .slice pa pn pc] 25)) w') (hin : inB x y wd hi = true) :
    Calls Try.prog 23 #[.agg #[.int .i64 3, .int .i64 (D : Int), .int .i64 wd, .int .i64 hi, .slice ca cn cc, .slice pa pn pc], .int .i64 x, .int .i64 y] w fun e w' => e = .returned (.tuple #[.int .i64 (colOf 3 D cs (p : Int)), .bool true]) ∧ Below w.heap.size w w' := by
  have hcol : colOf 3 D cs (p : Int) = (p : Int) := by
    unfold colOf; rw [if_neg (by decide), if_neg (by decide), if_neg (by decide)]
  have hB0 : Below w.heap.size w (w.alloc (.cells #[.int .i64 3, .int .i64 (D : Int), .int .i64 wd, .int .i64 hi, .slice ca cn cc, .slice pa pn pc] 25)) := (Below.refl _ _).alloc (Nat.le_refl _) _
  have HO : Hid (Calls Try.prog 13 #[.agg #[.int .i64 3, .int .i64 (D : Int), .int .i64 wd, .int .i64 hi, .slice ca cn cc, .slice pa pn pc]] (w.alloc (.cells #[.int .i64 3, .int .i64 (D : Int), .int .i64 wd, .int .i64 hi, .slice ca cn cc, .slice pa pn pc] 25)) fun e w' => e = .returned (.bool true) ∧ Below (w.alloc (.cells #[.int .i64 3, .int .i64 (D : Int), .int .i64 wd, .int .i64 hi, .slice ca cn cc, .slice pa pn pc] 25)).heap.size (w.alloc (.cells #[.int .i64 3, .int .i64 (D : Int), .int .i64 wd, .int .i64 hi, .slice ca cn cc, .slice pa pn pc] 25)) w') := hO
  have HIN : Hid (∀ w' : World, Calls Try.prog 50 #[.iface 52 (.agg #[.int .i64 3, .int .i64 (D : Int), .int .i64 wd, .int .i64 hi, .slice ca cn cc, .slice pa pn pc]), .int .i64 x, .int .i64 y] w' fun e w'' => e = .returned (.bool true) ∧ Below w'.heap.size w' w'') := by
    intro w'; have := inView_any 3 (D : Int) wd hi x y ca cn cc pa pn pc w'; rw [hin] at this; exact this
  have HAT : Hid (∀ w', Below w.heap.size w w' → Calls Try.prog 51 #[.agg #[.int .i64 3, .int .i64 (D : Int), .int .i64 wd, .int .i64 hi, .slice ca cn cc, .slice pa pn pc], .int .i64 x, .int .i64 y] w' fun e w'' => e = .returned (.int .i64 (p : Int)) ∧ Below w'.heap.size w' w'') := hat
  have HIC : Hid (∀ w', Below w.heap.size w w' → Ints w' ca cs) := fun w' b => hc.kept b
  have HCN : Hid (cs.length = cn) := hcn
  have HCOL : Hid (colOf 3 D cs (p : Int) = (p : Int)) := hcol
  clear hO hin hat hc hcn hcol
  generalize hcv : colOf 3 D cs (p : Int) = c at *
  have HCV : Hid (colOf 3 D cs (p : Int) = c) := hcv
  clear hcv
  go_enter Try.func23, Try.ntmps23
  go_wp2_with fail
  refine HO.out.mono ?_
  rintro e w1 ⟨rfl, b1⟩
  obtain ⟨k0, k1, k2, k3, k4, k5⟩ := box_kept (box_new w _ _ _ _ _ _ 25) b1 (by simp)
  have bel1 := hB0.trans (b1.mono (by simp))
  have hlt1 : w.heap.size < w1.heap.size := Nat.lt_of_lt_of_le (by simp) b1.size
  clear b1 HO hB0
  go_wp2_with fail
  refine (HIN.out _).mono ?_
  rintro e w2 ⟨rfl, b2⟩
  obtain ⟨j0, j1, j2, j3, j4, j5⟩ := box_kept ⟨k0, k1, k2, k3, k4, k5⟩ b2 hlt1
  have bel2 := bel1.trans (b2.mono bel1.size)
  clear b2 bel1 k0 k1 k2 k3 k4 k5 hlt1
  go_wp2_with fail
  refine (colored_rgba (D : Int) wd hi ca cn cc pa pn pc w2).mono ?_
  rintro e w3 ⟨rfl, b3⟩
  have bel3 := bel2.trans (b3.mono bel2.size)
  have hcol := HCOL.out
  have HCH : Hid (Calls Try.prog 104 #[.agg #[.iface 52 (.agg #[.int .i64 3, .int .i64 (D : Int), .int .i64 wd, .int .i64 hi, .slice ca cn cc, .slice pa pn pc]), .func (.func 82) #[] #[]], .int .i64 x, .int .i64 y] w3 fun e w' => e = .returned (.int .i64 c) ∧ Below w3.heap.size w3 w') :=
    changed_rgba 3 (D : Int) wd hi x y (p : Int) c ca cn cc pa pn pc w3 (fun w' b' => HAT.out w' (bel3.trans (b'.mono bel3.size))) (fun w' b' => (same_any (p : Int) w').mono (fun e w'' h => ⟨by rw [h.1, hcol], by rw [h.2]; exact Below.refl _ _⟩))
  have m3 : ∀ w, (method 205 76 (.agg #[.iface 52 (.agg #[.int .i64 3, .int .i64 (D : Int), .int .i64 wd, .int .i64 hi, .slice ca cn cc, .slice pa pn pc]), .func (.func 82) #[] #[]]) "loop.example/intarsia/impl.at").run Try.prog w = .ok (104, .agg #[.iface 52 (.agg #[.int .i64 3, .int .i64 (D : Int), .int .i64 wd, .int .i64 hi, .slice ca cn cc, .slice pa pn pc]), .func (.func 82) #[] #[]]) w := fun w => by kernel_rfl
  have m4 : ∀ w, (nilAhead 205 76 (.agg #[.iface 52 (.agg #[.int .i64 3, .int .i64 (D : Int), .int .i64 wd, .int .i64 hi, .slice ca cn cc, .slice pa pn pc]), .func (.func 82) #[] #[]]) "loop.example/intarsia/impl.at").run Try.prog w = .ok (some false) w := fun w => by kernel_rfl
  clear b3 bel2 j0 j1 j2 j3 j4 j5 hcol
  go_wp2_with fail
  refine HCH.out.mono ?_
  rintro e w4 ⟨rfl, b4⟩
  have bel4 := bel3.trans (b4.mono bel3.size)
  clear b4 bel3 HCH m3 m4
  go_wp2_with fail
  go_ret2
  exact ⟨rfl, bel4⟩

theorem impl_color_yes (k d wd hi x y : Int) (ca : Option Addr) (cn cc : Nat) (pa : Option Addr) (pn pc : Nat) (w : World) (cs ps : List Int) (hc : Ints w ca cs) (hcn : cs.length = cn) (hp : Ints w pa ps) (hpn : ps.length = pn) (hok : Im.okB k d wd hi cs ps = true) (hin : 0 ≤ x ∧ x < wd ∧ 0 ≤ y ∧ y < hi)
    (hO : Calls Try.prog 13 #[.agg #[.int .i64 k, .int .i64 d, .int .i64 wd, .int .i64 hi, .slice ca cn cc, .slice pa pn pc]] (w.alloc (.cells #[.int .i64 k, .int .i64 d, .int .i64 wd, .int .i64 hi, .slice ca cn cc, .slice pa pn pc] 25)) fun e w' => e = .returned (.bool true) ∧ Below (w.alloc (.cells #[.int .i64 k, .int .i64 d, .int .i64 wd, .int .i64 hi, .slice ca cn cc, .slice pa pn pc] 25)).heap.size (w.alloc (.cells #[.int .i64 k, .int .i64 d, .int .i64 wd, .int .i64 hi, .slice ca cn cc, .slice pa pn pc] 25)) w') :
    Calls Try.prog 23 #[.agg #[.int .i64 k, .int .i64 d, .int .i64 wd, .int .i64 hi, .slice ca cn cc, .slice pa pn pc], .int .i64 x, .int .i64 y] w fun e w' => e = .returned (.tuple #[.int .i64 (Im.coV k d wd hi x y cs ps), .bool (Im.coB k d wd hi x y cs ps)]) ∧ Below w.heap.size w w' := by
  have hOk := Im.ok_of' hok
  obtain ⟨I, X, Y, Wd, hsp⟩ := spot_of (pn := pn) hOk.2.1 hOk.2.2.1 (by rw [← hpn]; exact hOk.2.2.2.2.1) hin
  have hco : Im.coB k d wd hi x y cs ps = true := by unfold Im.coB; rw [hok, inB_yes hin]; rfl
  obtain ⟨D, rfl, hD, _⟩ := Im.dep_all hOk.1
  obtain ⟨p, hpv, hpt⟩ := Im.pt_ok hOk I (by have := hsp.lt; omega)
  have hv := Im.co_yes hco hsp
  rw [hpv] at hv
  rw [hv, hco]
  have hat : ∀ w', Below w.heap.size w w' → Calls Try.prog 51 #[.agg #[.int .i64 k, .int .i64 (D : Int), .int .i64 wd, .int .i64 hi, .slice ca cn cc, .slice pa pn pc], .int .i64 x, .int .i64 y] w' fun e w'' => e = .returned (.int .i64 (p : Int)) ∧ Below w'.heap.size w' w'' := by
    intro w' b'
    rw [← hpv]
    exact at_any k (D : Int) wd hi x y ca cn cc pa pn pc ps w' I X Y Wd hsp (hp.kept b') hpn
  rcases hpt with ⟨rfl, hDD, hp2⟩ | ⟨rfl, hp2⟩ | rfl | ⟨rfl, hp2, hW⟩
  · exact impl_color_gray D p wd hi x y ca cn cc pa pn pc w cs hc hcn hDD hp2 hat hO (inB_yes hin)
  · exact impl_color_rgb D p wd hi x y ca cn cc pa pn pc w cs hc hcn hp2 hat hO (inB_yes hin)
  · exact impl_color_rgba D p wd hi x y ca cn cc pa pn pc w cs hc hcn hat hO (inB_yes hin)
  · exact impl_color_pal D p wd hi x y ca cn cc pa pn pc w cs hc hcn (by omega) hW hat hO (inB_yes hin)

set_option maxHeartbeats 1000000 in
set_option maxRecDepth 20000 in
theorem impl_imageColor (k d wd hi x y : Int) (ca : Option Addr) (cn cc : Nat) (pa : Option Addr) (pn pc : Nat) (w : World) (cs ps : List Int) (hc : Ints w ca cs) (hcn : cs.length = cn) (hcl : cn ≤ 1048576) (hp : Ints w pa ps) (hpn : ps.length = pn) (hpl : pn ≤ 1048576) :
    Calls Try.prog 23 #[.agg #[.int .i64 k, .int .i64 d, .int .i64 wd, .int .i64 hi, .slice ca cn cc, .slice pa pn pc], .int .i64 x, .int .i64 y] w fun e w' => e = .returned (.tuple #[.int .i64 (Im.coV k d wd hi x y cs ps), .bool (Im.coB k d wd hi x y cs ps)]) ∧ Below w.heap.size w w' := by
  have hB0 : Below w.heap.size w (w.alloc (.cells #[.int .i64 k, .int .i64 d, .int .i64 wd, .int .i64 hi, .slice ca cn cc, .slice pa pn pc] 25)) := (Below.refl _ _).alloc (Nat.le_refl _) _
  have HOK := impl_imageOk k d wd hi ca cn cc pa pn pc _ cs ps (hc.kept hB0) hcn hcl (hp.kept hB0) hpn hpl
  have HIN : Hid (∀ w' : World, Calls Try.prog 50 #[.iface 52 (.agg #[.int .i64 k, .int .i64 d, .int .i64 wd, .int .i64 hi, .slice ca cn cc, .slice pa pn pc]), .int .i64 x, .int .i64 y] w' fun e w'' => e = .returned (.bool (inB x y wd hi)) ∧ Below w'.heap.size w' w'') := fun w' => inView_any k d wd hi x y ca cn cc pa pn pc w'
  cases hok : Im.okB k d wd hi cs ps
  · rw [hok] at HOK
    have HO : Hid (Calls Try.prog 13 #[.agg #[.int .i64 k, .int .i64 d, .int .i64 wd, .int .i64 hi, .slice ca cn cc, .slice pa pn pc]] (w.alloc (.cells #[.int .i64 k, .int .i64 d, .int .i64 wd, .int .i64 hi, .slice ca cn cc, .slice pa pn pc] 25)) fun e w' => e = .returned (.bool false) ∧ Below (w.alloc (.cells #[.int .i64 k, .int .i64 d, .int .i64 wd, .int .i64 hi, .slice ca cn cc, .slice pa pn pc] 25)).heap.size (w.alloc (.cells #[.int .i64 k, .int .i64 d, .int .i64 wd, .int .i64 hi, .slice ca cn cc, .slice pa pn pc] 25)) w') := HOK
    have hat : Im.coB k d wd hi x y cs ps = false := by unfold Im.coB; rw [hok]; rfl
    have HA : Hid (Im.coB k d wd hi x y cs ps = false ∧ Im.coV k d wd hi x y cs ps = 0) := ⟨hat, Im.co_no hat⟩
    clear HOK hat hok hc hp hcn hpn
    go_enter Try.func23, Try.ntmps23
    go_wp2_with fail
    refine HO.out.mono ?_
    rintro e w1 ⟨rfl, b1⟩
    have bel1 := hB0.trans (b1.mono (by simp))
    clear b1 HO hB0
    go_wp2_with fail
    go_ret2
    rw [HA.out.1, HA.out.2]
    exact ⟨rfl, bel1⟩
  · rw [hok] at HOK
    have HO : Hid (Calls Try.prog 13 #[.agg #[.int .i64 k, .int .i64 d, .int .i64 wd, .int .i64 hi, .slice ca cn cc, .slice pa pn pc]] (w.alloc (.cells #[.int .i64 k, .int .i64 d, .int .i64 wd, .int .i64 hi, .slice ca cn cc, .slice pa pn pc] 25)) fun e w' => e = .returned (.bool true) ∧ Below (w.alloc (.cells #[.int .i64 k, .int .i64 d, .int .i64 wd, .int .i64 hi, .slice ca cn cc, .slice pa pn pc] 25)).heap.size (w.alloc (.cells #[.int .i64 k, .int .i64 d, .int .i64 wd, .int .i64 hi, .slice ca cn cc, .slice pa pn pc] 25)) w') := HOK
    have hOk := Im.ok_of' hok
    have HIP : Hid (∀ w', Below w.heap.size w w' → Ints w' pa ps) := fun w' b => hp.kept b
    by_cases hin : 0 ≤ x ∧ x < wd ∧ 0 ≤ y ∧ y < hi
    · exact impl_color_yes k d wd hi x y ca cn cc pa pn pc w cs ps hc hcn hp hpn hok hin HO.out
    · have hat : Im.coB k d wd hi x y cs ps = false := by unfold Im.coB; rw [inB_no hin]; simp
      have HA : Hid (Im.coB k d wd hi x y cs ps = false ∧ Im.coV k d wd hi x y cs ps = 0) := ⟨hat, Im.co_no hat⟩
      rw [inB_no hin] at HIN
      clear HOK hat hok hc hp hcn hpn hOk hin HIP
      go_enter Try.func23, Try.ntmps23
      go_wp2_with fail
      refine HO.out.mono ?_
      rintro e w1 ⟨rfl, b1⟩
      obtain ⟨k0, k1, k2, k3, k4, k5⟩ := box_kept (box_new w _ _ _ _ _ _ 25) b1 (by simp)
      have bel1 := hB0.trans (b1.mono (by simp))
      clear b1 HO hB0
      go_wp2_with fail
      refine (HIN.out _).mono ?_
      rintro e w2 ⟨rfl, b2⟩
      have bel2 := bel1.trans (b2.mono bel1.size)
      clear b2 bel1 k0 k1 k2 k3 k4 k5
      go_wp2_with fail
      go_ret2
      rw [HA.out.1, HA.out.2]
      exact ⟨rfl, bel2⟩

end Go.Proofs.Ytgeepemhmkoknaa

/- ImageColor of the specification, for every picture and place. -/
namespace Go.Proofs.Ytgeepemhmkoknaa
open Go.RowKit

set_option maxHeartbeats 1000000 in
set_option maxRecDepth 20000 in
theorem spec_imageColor (k d wd hi x y : Int) (ca : Option Addr) (cn cc : Nat) (pa : Option Addr) (pn pc : Nat) (w : World) (cs ps : List Int) (hc : Ints w ca cs) (hcn : cs.length = cn) (hcl : cn ≤ 1048576) (hp : Ints w pa ps) (hpn : ps.length = pn) :
    Calls Try.prog 24 #[.agg #[.int .i64 k, .int .i64 d, .int .i64 wd, .int .i64 hi, .slice ca cn cc, .slice pa pn pc], .int .i64 x, .int .i64 y] w fun e w' => e = .returned (.tuple #[.int .i64 (Im.coV k d wd hi x y cs ps), .bool (Im.coB k d wd hi x y cs ps)]) ∧ Below w.heap.size w w' := by
  have hB0 : Below w.heap.size w (w.alloc (.cells #[.int .i64 k, .int .i64 d, .int .i64 wd, .int .i64 hi, .slice ca cn cc, .slice pa pn pc] 25)) := (Below.refl _ _).alloc (Nat.le_refl _) _
  have HOK := spec_imageOk k d wd hi ca cn cc pa pn pc _ cs ps (hc.kept hB0) hcn hcl (hp.kept hB0) hpn
  cases hok : Im.okB k d wd hi cs ps
  · rw [hok] at HOK
    have HO : Hid (Calls Try.prog 14 #[.agg #[.int .i64 k, .int .i64 d, .int .i64 wd, .int .i64 hi, .slice ca cn cc, .slice pa pn pc]] (w.alloc (.cells #[.int .i64 k, .int .i64 d, .int .i64 wd, .int .i64 hi, .slice ca cn cc, .slice pa pn pc] 25)) fun e w' => e = .returned (.bool false) ∧ Below (w.alloc (.cells #[.int .i64 k, .int .i64 d, .int .i64 wd, .int .i64 hi, .slice ca cn cc, .slice pa pn pc] 25)).heap.size (w.alloc (.cells #[.int .i64 k, .int .i64 d, .int .i64 wd, .int .i64 hi, .slice ca cn cc, .slice pa pn pc] 25)) w') := HOK
    have hat : Im.coB k d wd hi x y cs ps = false := by unfold Im.coB; rw [hok]; rfl
    have HA : Hid (Im.coB k d wd hi x y cs ps = false ∧ Im.coV k d wd hi x y cs ps = 0) := ⟨hat, Im.co_no hat⟩
    clear HOK hat hok hc hp hcn hpn
    go_enter Try.func24, Try.ntmps24
    go_wp2_with fail
    refine HO.out.mono ?_
    rintro e w1 ⟨rfl, b1⟩
    have bel1 := hB0.trans (b1.mono (by simp))
    clear b1 HO hB0
    go_wp2_with fail
    go_ret2
    rw [HA.out.1, HA.out.2]
    exact ⟨rfl, bel1⟩
  · rw [hok] at HOK
    have HO : Hid (Calls Try.prog 14 #[.agg #[.int .i64 k, .int .i64 d, .int .i64 wd, .int .i64 hi, .slice ca cn cc, .slice pa pn pc]] (w.alloc (.cells #[.int .i64 k, .int .i64 d, .int .i64 wd, .int .i64 hi, .slice ca cn cc, .slice pa pn pc] 25)) fun e w' => e = .returned (.bool true) ∧ Below (w.alloc (.cells #[.int .i64 k, .int .i64 d, .int .i64 wd, .int .i64 hi, .slice ca cn cc, .slice pa pn pc] 25)).heap.size (w.alloc (.cells #[.int .i64 k, .int .i64 d, .int .i64 wd, .int .i64 hi, .slice ca cn cc, .slice pa pn pc] 25)) w') := HOK
    have hOk := Im.ok_of' hok
    have HIN : Hid (∀ w' : World, Calls Try.prog 56 #[.agg #[.int .i64 k, .int .i64 d, .int .i64 wd, .int .i64 hi, .slice ca cn cc, .slice pa pn pc], .int .i64 x, .int .i64 y] w' fun e w'' => e = .returned (.bool (inB x y wd hi)) ∧ Below w'.heap.size w' w'') := fun w' => l8In_any k d wd hi x y ca cn cc pa pn pc w' hOk.2.1 hOk.2.2.1
    by_cases hin : 0 ≤ x ∧ x < wd ∧ 0 ≤ y ∧ y < hi
    · obtain ⟨I, X, Y, Wd, hsp⟩ := spot_of (pn := pn) hOk.2.1 hOk.2.2.1 (by rw [← hpn]; exact hOk.2.2.2.2.1) hin
      have hat : Im.coB k d wd hi x y cs ps = true := by unfold Im.coB; rw [hok, inB_yes hin]; rfl
      obtain ⟨D, rfl, hD, _⟩ := Im.dep_all hOk.1
      obtain ⟨p, hpv, hpt⟩ := Im.pt_ok hOk I (by have := hsp.lt; omega)
      have hcv := Im.co_yes hat hsp
      rw [hpv] at hcv
      have HA : Hid (Im.coB k (D : Int) wd hi x y cs ps = true ∧ Im.coV k (D : Int) wd hi x y cs ps = colOf k D cs (p : Int)) := ⟨hat, hcv⟩
      have HCL : Hid (∀ w', Below w.heap.size w w' → Calls Try.prog 57 #[.agg #[.int .i64 k, .int .i64 (D : Int), .int .i64 wd, .int .i64 hi, .slice ca cn cc, .slice pa pn pc], .int .i64 (p : Int)] w' fun e w'' => e = .returned (.int .i64 (colOf k D cs (p : Int))) ∧ Below w'.heap.size w' w'') := fun w' b' => l8Color_any k D p wd hi ca cn cc pa pn pc cs w' (hc.kept b') hcn hpt
      clear hcv
      rw [inB_yes hin] at HIN
      obtain ⟨rfl, rfl, rfl, hi', hlt, hs1, hs2, hs3, hs4, hs5⟩ := hsp
      have hIl : I < ps.length := by omega
      have HIP : Hid (∀ w', Below w.heap.size w w' → ∃ b off, pa = some ⟨b, off, none⟩ ∧ w'.cell? ⟨b, off + I, none⟩ = some (.int .i64 (p : Int)) ∧ b < w'.heap.size) := by
        intro w' bb
        rcases hp.kept bb with g | ⟨b, off, e, hbB, hcc⟩
        · rw [g] at hIl; simp at hIl
        · refine ⟨b, off, e, ?_⟩
          rw [hcc I hIl, ← hpv, List.getD_eq_getElem?_getD, List.getElem?_eq_getElem hIl]; exact ⟨rfl, hbB⟩
      obtain ⟨P, hP⟩ : ∃ P, P = Y * Wd := ⟨_, rfl⟩
      have hPi : (Y : Int) * (Wd : Int) = (P : Int) := by rw [hP]; simp
      have hIi : (P : Int) + (X : Int) = (I : Int) := by omega
      have hPb : P ≤ 400 := by omega
      have hII : (I : Int) < (pn : Int) := by omega
      clear HOK hat hok hc hp hcn hpn hOk hin hpv hpt hi' hP hs5
      generalize colOf k D cs (p : Int) = c at *
      go_enter Try.func24, Try.ntmps24
      go_wp2_with fail
      refine HO.out.mono ?_
      rintro e w1 ⟨rfl, b1⟩
      obtain ⟨k0, k1, k2, k3, k4, k5⟩ := box_kept (box_new w _ _ _ _ _ _ 25) b1 (by simp)
      have bel1 := hB0.trans (b1.mono (by simp))
      have hlt1 : w.heap.size < w1.heap.size := Nat.lt_of_lt_of_le (by simp) b1.size
      clear b1 HO hB0
      go_wp2_with fail
      refine (HIN.out _).mono ?_
      rintro e w2 ⟨rfl, b2⟩
      obtain ⟨j0, j1, j2, j3, j4, j5⟩ := box_kept ⟨k0, k1, k2, k3, k4, k5⟩ b2 hlt1
      have bel2 := bel1.trans (b2.mono bel1.size)
      obtain ⟨b, off, rfl, hck, hbl⟩ := HIP.out _ bel2
      have hlt2 : w.heap.size < w2.heap.size := Nat.lt_of_lt_of_le hlt1 b2.size
      have wPi : IntKind.i64.wrap ((Y : Int) * (Wd : Int)) = (P : Int) := by rw [hPi]; exact wrap_i64_nat P (by omega)
      have wIi : IntKind.i64.wrap ((P : Int) + (X : Int)) = (I : Int) := by rw [hIi]; exact wrap_i64_nat I (by omega)
      have wP := wrap_i64_nat P (by omega)
      have wI := wrap_i64_nat I (by omega)
      have hI0 : (0 : Int) ≤ (I : Int) := by omega
      clear b2 bel1 k0 k1 k2 k3 k4 k5 hlt1 HIP
      go_wp2_with fail
      go_region_held3 (fun w' => w'.cell? ⟨w.heap.size, 0, none⟩ = some (.int .i64 k) ∧ w'.cell? ⟨w.heap.size, 1, none⟩ = some (.int .i64 (D : Int)) ∧ w'.cell? ⟨w.heap.size, 2, none⟩ = some (.int .i64 (Wd : Int)) ∧ w'.cell? ⟨w.heap.size, 3, none⟩ = some (.int .i64 hi) ∧ w'.cell? ⟨w.heap.size, 4, none⟩ = some (.slice ca cn cc) ∧ w'.cell? ⟨w.heap.size, 5, none⟩ = some (.slice (some ⟨b, off, none⟩) pn pc) ∧ w'.cell? ⟨b, off + I, none⟩ = some (.int .i64 (p : Int))) (go_keep) ((go_at_call 57; refine (HCL.out _ bel2.drew).mono ?_; rintro e w3 ⟨rfl, b3⟩; obtain ⟨g0, g1, g2, g3, g4, g5⟩ := box_kept ⟨j0, j1, j2, j3, j4, j5⟩ (box_drew b3) hlt2; have g6 := ((box_drew b3).cell (p := ⟨b, off + I, none⟩) hbl).trans hck))
      all_goals
        have bel3 : Below w.heap.size w w3 := bel2.trans ((box_drew b3).mono bel2.size)
        clear b3
        go_wp2_with fail
        go_ret2
        rw [HA.out.1, HA.out.2]
        exact ⟨rfl, bel3⟩
    · have hat : Im.coB k d wd hi x y cs ps = false := by unfold Im.coB; rw [inB_no hin]; simp
      have HA : Hid (Im.coB k d wd hi x y cs ps = false ∧ Im.coV k d wd hi x y cs ps = 0) := ⟨hat, Im.co_no hat⟩
      rw [inB_no hin] at HIN
      clear HOK hat hok hc hp hcn hpn hOk hin
      go_enter Try.func24, Try.ntmps24
      go_wp2_with fail
      refine HO.out.mono ?_
      rintro e w1 ⟨rfl, b1⟩
      obtain ⟨k0, k1, k2, k3, k4, k5⟩ := box_kept (box_new w _ _ _ _ _ _ 25) b1 (by simp)
      have bel1 := hB0.trans (b1.mono (by simp))
      clear b1 HO hB0
      go_wp2_with fail
      refine (HIN.out _).mono ?_
      rintro e w2 ⟨rfl, b2⟩
      have bel2 := bel1.trans (b2.mono bel1.size)
      clear b2 bel1 k0 k1 k2 k3 k4 k5
      go_wp2_with fail
      go_ret2
      rw [HA.out.1, HA.out.2]
      exact ⟨rfl, bel2⟩
end Go.Proofs.Ytgeepemhmkoknaa

/- A point's colour: what the law on it wants. -/
namespace Go.Proofs.Ytgeepemhmkoknaa
open Go.RowKit

theorem step_le (D : Nat) (h : D = 1 ∨ D = 2 ∨ D = 4 ∨ D = 8) (p : Int) (h0 : 0 ≤ p) (h1 : p ≤ ((2 ^ D : Nat) : Int) - 1) : 0 ≤ p * (stepOf D : Int) ∧ p * (stepOf D : Int) ≤ 255 := by
  rcases h with rfl | rfl | rfl | rfl
  · rw [show (stepOf 1 : Int) = 255 by decide]; simp at h1; omega
  · rw [show (stepOf 2 : Int) = 85 by decide]; simp at h1; omega
  · rw [show (stepOf 4 : Int) = 17 by decide]; simp at h1; omega
  · rw [show (stepOf 8 : Int) = 1 by decide]; simp at h1; omega

theorem co_flip {k d : Int} {Wd Hi X Y : Nat} {cs ps : List Int} (hok : Im.okB k d Wd Hi cs ps = true) (hX : X < Wd) (hY : Y < Hi) :
    Im.coB k d Wd Hi X ((Hi - 1 - Y : Nat) : Int) cs (flipL Wd Hi ps) = true ∧ Im.coV k d Wd Hi X ((Hi - 1 - Y : Nat) : Int) cs (flipL Wd Hi ps) = Im.coV k d Wd Hi X Y cs ps := by
  have h1 : Im.coB k d Wd Hi X Y cs ps = true := by unfold Im.coB; rw [hok, inB_yes (by omega)]; rfl
  have h2 : Im.coB k d Wd Hi X ((Hi - 1 - Y : Nat) : Int) cs (flipL Wd Hi ps) = true := by unfold Im.coB; rw [ok_flip hok, inB_yes (by omega)]; rfl
  refine ⟨h2, ?_⟩
  unfold Im.coV
  rw [if_pos h1, if_pos h2]
  congr 1
  rw [show ((((Hi - 1 - Y : Nat) : Int) * (Wd : Int) + (X : Int))).toNat = (Hi - 1 - Y) * Wd + X by
      have : (((Hi - 1 - Y : Nat) : Int) * (Wd : Int) + (X : Int)) = (((Hi - 1 - Y) * Wd + X : Nat) : Int) := by simp
      rw [this, Int.toNat_natCast],
    show (((Y : Nat) : Int) * (Wd : Int) + (X : Int)).toNat = Y * Wd + X by
      have : (((Y : Nat) : Int) * (Wd : Int) + (X : Int)) = ((Y * Wd + X : Nat) : Int) := by simp
      rw [this, Int.toNat_natCast],
    flipL_at ps hX (show Hi - 1 - Y < Hi by omega), show Hi - 1 - (Hi - 1 - Y) = Y by omega]

theorem co_bounds {k d : Int} {Wd Hi X Y : Nat} {cs ps : List Int} (hok : Im.okB k d Wd Hi cs ps = true) (hX : X < Wd) (hY : Y < Hi) :
    0 ≤ Im.coV k d Wd Hi X Y cs ps ∧ Im.coV k d Wd Hi X Y cs ps ≤ 4294967295 ∧ (k ≠ 3 → Im.coV k d Wd Hi X Y cs ps % 256 = 255) := by
  have h1 : Im.coB k d Wd Hi X Y cs ps = true := by unfold Im.coB; rw [hok, inB_yes (by omega)]; rfl
  obtain ⟨hd, _, _, hco, hlen, hW⟩ := ok_open hok
  obtain ⟨D, rfl, _, _⟩ := Im.dep_all hd
  unfold Im.coV
  rw [if_pos h1, Int.toNat_natCast]
  have hidx : (((Y : Nat) : Int) * (Wd : Int) + (X : Int)).toNat < ps.length := by
    have e : (((Y : Nat) : Int) * (Wd : Int) + (X : Int)) = ((Y * Wd + X : Nat) : Int) := by simp
    have e2 : ((Wd * Hi : Nat) : Int) = (Wd : Int) * (Hi : Int) := by simp
    rw [e, Int.toNat_natCast]
    have := spot_lt hX hY
    omega
  have hp := hW _ (mem_getD hidx)
  generalize ps.getD (((Y : Nat) : Int) * (Wd : Int) + (X : Int)).toNat 0 = p at *
  unfold colOf
  unfold Im.most at hp
  rcases Im.kinds hd with ⟨rfl, hD⟩ | ⟨rfl, rfl⟩ | ⟨rfl, rfl⟩ | ⟨rfl, hD⟩
  · rw [if_pos rfl]
    rw [if_neg (by decide), Int.toNat_natCast] at hp
    have := step_le D hD p hp.1 hp.2
    generalize p * (stepOf D : Int) = q at *
    refine ⟨by omega, by omega, fun _ => by omega⟩
  · rw [if_neg (by decide), if_pos rfl]
    rw [if_neg (by decide)] at hp
    simp at hp
    refine ⟨by omega, by omega, fun _ => by omega⟩
  · rw [if_neg (by decide), if_neg (by decide), if_neg (by decide)]
    rw [if_neg (by decide)] at hp
    simp at hp
    refine ⟨by omega, by omega, fun h => absurd rfl h⟩
  · rw [if_neg (by decide), if_neg (by decide), if_pos rfl]
    rw [if_pos rfl] at hp
    have hc := (hco.2 rfl).2.2 _ (mem_getD (l := cs) (j := p.toNat) (by omega))
    generalize cs.getD p.toNat 0 = q at *
    refine ⟨by omega, by omega, fun _ => by omega⟩
end Go.Proofs.Ytgeepemhmkoknaa

/- The draw of any picture: l14Any. -/
namespace Go.Proofs.Ytgeepemhmkoknaa
open Go.RowKit

theorem Only.refl_lt {B : Nat} {w : World} (o : Obj) (h : B < w.heap.size) : Only B w (w.alloc o) := (Only.refl B w).alloc h o

theorem AnyOut.up {lo lo' : Nat} {e : Ending} {w : World} (h : AnyOut lo e w) (hl : lo' ≤ lo) : AnyOut lo' e w := by
  obtain ⟨k, d, wd, hi, a, n, c, cs, b, m, cc, ps, he, h1, h2, h3, h4, h5, r⟩ := h
  exact ⟨k, d, wd, hi, a, n, c, cs, b, m, cc, ps, he, h1.lower hl, h2, h3, h4, h5.lower hl, r⟩

/-- the box of a picture, and a result's box ahead of it -/
structure BX (w wc : World) (B X q : Nat) (k d wd hi : Int) (a : Option Addr) (n c : Nat) (b : Option Addr) (m cc : Nat) : Prop where
  rd : RdAt wc B q
  only : Only B w wc
  res : wc.heap[w.heap.size]? = some (.cells #[.int .i64 0, .int .i64 0, .int .i64 0, .int .i64 0, .slice none 0 0, .slice none 0 0] 25 (0, 0))
  box : wc.heap[X]? = some (.cells #[.int .i64 k, .int .i64 d, .int .i64 wd, .int .i64 hi, .slice a n c, .slice b m cc] 25 (0, 0))
  lt : B < w.heap.size

set_option maxHeartbeats 2000000 in
set_option maxRecDepth 20000 in
theorem l14Any_any (B p : Nat) (w : World) (hr : RdAt w B p) (hp : p ≤ 100000) :
    Calls Try.prog 36 #[.pointer (some ⟨B, 0, none⟩)] w fun e w' => AnyOut w.heap.size e w' ∧ (∃ q, q ≤ p + 6000 ∧ RdAt w' B q) ∧ Only B w w' := by
  have hlt := hr.lt
  obtain ⟨W0, hW0⟩ : ∃ W0, W0 = w.alloc (.cells #[.int .i64 0, .int .i64 0, .int .i64 0, .int .i64 0, .slice none 0 0, .slice none 0 0] 25) := ⟨_, rfl⟩
  have hs0 : W0.heap.size = w.heap.size + 1 := by rw [hW0]; simp
  have HR0 : Hid (RdAt W0 B p) := by rw [hW0]; exact hr.alloc _
  have HO0 : Hid (Only B w W0) := by rw [hW0]; exact Only.refl_lt _ hlt
  have HZ0 : Hid (W0.heap[w.heap.size]? = some (.cells #[.int .i64 0, .int .i64 0, .int .i64 0, .int .i64 0, .slice none 0 0, .slice none 0 0] 25 (0, 0))) := by rw [hW0]; exact heap_alloc_new _ _
  have HIM : Hid (Calls Try.prog 58 #[.pointer (some ⟨B, 0, none⟩)] W0 fun e w' => PicOut W0.heap.size e w' ∧ (∃ q, q ≤ p + 5000 ∧ RdAt w' B q) ∧ Only B W0 w') := l14Image_any B p W0 HR0.out hp
  clear hr
  go_enter Try.func36, Try.ntmps36
  go_upto_region 1 with fail
  rw [← hW0]
  clear hW0
  go_wp2_with fail
  refine HIM.out.mono ?_
  rintro e w1 ⟨⟨k, d, wd, hi, a, n, c, cs, b, m, cc, ps, rfl, h4, h5, hm, hwd1, hwd2, hhi1, hhi2, hn, hk1, hk2, hd⟩, ⟨q, hq, hR1⟩, hO1⟩
  have hB0 : Below w.heap.size w w1 → True := fun _ => trivial
  have hm4 : m ≤ 400 := by rw [hm]; exact Nat.mul_le_mul hwd2 hhi2
  have hm1 : 1 ≤ m := by rw [hm]; exact Nat.mul_pos hwd1 hhi1
  have hsz1 : W0.heap.size ≤ w1.heap.size := hO1.below.size
  have hw1 : w.heap.size < w1.heap.size := by omega
  have HX : Hid (BX w (w1.alloc (.cells #[.int .i64 (k : Int), .int .i64 (d : Int), .int .i64 (wd : Int), .int .i64 (hi : Int), .slice a n c, .slice b m cc] 25)) B w1.heap.size q k d wd hi a n c b m cc) :=
    ⟨hR1.alloc _, (HO0.out.trans hO1).alloc hR1.lt _, (heap_alloc_old _ _ (by omega)).trans ((hO1.rest _ (by omega) (by omega)).trans HZ0.out), heap_alloc_new _ _, hlt⟩
  have HI : Hid (IntsFrom (w1.alloc (.cells #[.int .i64 (k : Int), .int .i64 (d : Int), .int .i64 (wd : Int), .int .i64 (hi : Int), .slice a n c, .slice b m cc] 25)) (w.heap.size + 1) a cs ∧ IntsFrom (w1.alloc (.cells #[.int .i64 (k : Int), .int .i64 (d : Int), .int .i64 (wd : Int), .int .i64 (hi : Int), .slice a n c, .slice b m cc] 25)) (w.heap.size + 1) b ps ∧ n ≤ c ∧ m ≤ cc ∧ cs.length = n ∧ ps.length = m) :=
    ⟨by rw [← hs0]; exact (h4.old _).from, by rw [← hs0]; exact (h5.old _).from, h4.cap, h5.cap, h4.len, h5.len⟩
  clear HIM HR0 HO0 HZ0 h4 h5 hm hR1 hO1 hB0 hsz1 hs0
  go_wp2_with fail
  refine (pick_named B q _ _ HX.out.rd (by omega) (by omega) (by omega)).mono ?_
  rintro e w2 ⟨v, rfl, hv, hR2, hO2, hs2⟩
  have HX2 : Hid (BX w w2 B w1.heap.size (q + 1) k d wd hi a n c b m cc) :=
    ⟨hR2, HX.out.only.trans hO2, (hO2.rest _ (lt_of_block HX.out.res) (by omega)).trans HX.out.res, (hO2.rest _ (lt_of_block HX.out.box) (by omega)).trans HX.out.box, hlt⟩
  have HI2 : Hid (IntsFrom w2 (w.heap.size + 1) a cs ∧ IntsFrom w2 (w.heap.size + 1) b ps ∧ n ≤ c ∧ m ≤ cc ∧ cs.length = n ∧ ps.length = m) := by
    obtain ⟨i1, i2, r⟩ := HI.out
    exact ⟨i1.only hO2 (by omega), i2.only hO2 (by omega), r⟩
  clear HX HI hR2 hO2 hs2
  generalize w1.heap.size = X at *
  obtain ⟨⟨z0, z1, z2, z3, z4, z5⟩, y0, y1, y2, y3, y4, y5⟩ := box6 HX2.out.box
  by_cases h0 : v = 0
  · subst h0
    have HSP : Hid (Calls Try.prog 70 #[.pointer (some ⟨B, 0, none⟩), .agg #[.int .i64 (k : Int), .int .i64 (d : Int), .int .i64 (wd : Int), .int .i64 (hi : Int), .slice a n c, .slice b m cc]] w2 fun e w' => AnyOut w2.heap.size e w' ∧ (∃ q', q' ≤ q + 1 + 5 ∧ RdAt w' B q') ∧ Only B w2 w') :=
      l14Spoil_any B (q + 1) k d wd hi a n c b m cc cs ps w2 HX2.out.rd (by omega) HI2.out.1.ints HI2.out.2.2.2.2.1 hn HI2.out.2.1.ints HI2.out.2.2.2.2.2 hm1 hm4 ⟨hk1, hk2⟩ hd (by omega) (by omega)
    go_wp2_with fail
    refine HSP.out.mono ?_
    rintro e w3 ⟨⟨k3, d3, wd3, hi3, a3, n3, c3, cs3, b3, m3, cc3, ps3, rfl, i4, l4, l4', k4, i5, l5, l5', k5, bd⟩, ⟨q3, hq3, hR3⟩, hO3⟩
    have hres : w3.heap[w.heap.size]? = some (.cells #[.int .i64 0, .int .i64 0, .int .i64 0, .int .i64 0, .slice none 0 0, .slice none 0 0] 25 (0, 0)) := (hO3.rest _ (lt_of_block HX2.out.res) (by omega)).trans HX2.out.res
    have hsz2 : w.heap.size < w2.heap.size := lt_of_block HX2.out.res
    have HF : Hid (IntsFrom w3 (w.heap.size + 1) a3 cs3 ∧ IntsFrom w3 (w.heap.size + 1) b3 ps3 ∧ RdAt w3 B q3 ∧ Only B w w3) := ⟨i4.lower (by omega), i5.lower (by omega), hR3, HX2.out.only.trans hO3⟩
    have HL : Hid (cs3.length = n3 ∧ n3 ≤ 1000 ∧ n3 ≤ c3 ∧ ps3.length = m3 ∧ m3 ≤ 1000 ∧ m3 ≤ cc3 ∧ q3 ≤ p + 6000 ∧ 0 ≤ k3 ∧ k3 ≤ 100 ∧ 0 ≤ d3 ∧ d3 ≤ 100 ∧ 0 ≤ wd3 ∧ wd3 ≤ 100 ∧ 0 ≤ hi3 ∧ hi3 ≤ 100) := ⟨l4, l4', k4, l5, l5', k5, by omega, bd⟩
    clear HSP i4 i5 hR3 hO3 z0 z1 z2 z3 z4 z5 y0 y1 y2 y3 y4 y5 HX2 HI2 l4 l4' k4 l5 l5' k5 bd hq3
    have hI6 : (Try.prog.info? 25).map (·.size) = some (#[Value.int .i64 k3, .int .i64 d3, .int .i64 wd3, .int .i64 hi3, .slice a3 n3 c3, .slice b3 m3 cc3]).size := by kernel_rfl
    have h16 : (#[Value.int .i64 k3, .int .i64 d3, .int .i64 wd3, .int .i64 hi3, .slice a3 n3 c3, .slice b3 m3 cc3]).all (·.oneCell') = true := by simp [Value.oneCell']
    go_wp2_with (refine wpList_store_row rfl 25 (.tmp 2) (.tmp 11) rfl w.heap.size #[.int .i64 k3, .int .i64 d3, .int .i64 wd3, .int .i64 hi3, .slice a3 n3 c3, .slice b3 m3 cc3] rfl rfl 25 #[.int .i64 0, .int .i64 0, .int .i64 0, .int .i64 0, .slice none 0 0, .slice none 0 0] hres hI6 rfl h16 ?_)
    have hs2 := setRow_heap w3 w.heap.size _ #[.int .i64 k3, .int .i64 d3, .int .i64 wd3, .int .i64 hi3, .slice a3 n3 c3, .slice b3 m3 cc3] _ _ hres
    obtain ⟨f1, f2, f3, f4⟩ := HF.out
    obtain ⟨g1, g2, g3, g4, g5, g6, g7, g8⟩ := HL.out
    refine bodyPost_ret_by (results_cell_row (p := 2) (ty := 25) (by kernel_rfl) _ _ w.heap.size 25 _ (0, 0) _ rfl hs2 Try.underlying25 rfl (by kernel_rfl)) rfl
      ⟨⟨k3, d3, wd3, hi3, a3, n3, c3, cs3, b3, m3, cc3, ps3, rfl, (f1.row (by omega) _).lower (by omega), g1, g2, g3, (f2.row (by omega) _).lower (by omega), g4, g5, g6, g8⟩, ⟨q3, g7, f3.kept ((below_setRow _ _ _).mono hlt)⟩, f4.grown hlt ((below_setRow _ _ _).mono (Nat.le_refl _))⟩
  · have h0i : ¬ (v : Int) = 0 := by omega
    have hres := HX2.out.res
    have HL : Hid (cs.length = n ∧ n ≤ 1000 ∧ n ≤ c ∧ ps.length = m ∧ m ≤ 1000 ∧ m ≤ cc ∧ q + 1 ≤ p + 6000 ∧ (0 : Int) ≤ k ∧ (k : Int) ≤ 100 ∧ (0 : Int) ≤ d ∧ (d : Int) ≤ 100 ∧ (0 : Int) ≤ wd ∧ (wd : Int) ≤ 100 ∧ (0 : Int) ≤ hi ∧ (hi : Int) ≤ 100) := ⟨HI2.out.2.2.2.2.1, by omega, HI2.out.2.2.1, HI2.out.2.2.2.2.2, by omega, HI2.out.2.2.2.1, by omega, by omega, by omega, by omega, by omega, by omega, by omega, by omega, by omega⟩
    have hI6 : (Try.prog.info? 25).map (·.size) = some (#[Value.int .i64 (k : Int), .int .i64 (d : Int), .int .i64 (wd : Int), .int .i64 (hi : Int), .slice a n c, .slice b m cc]).size := by kernel_rfl
    have h16 : (#[Value.int .i64 (k : Int), .int .i64 (d : Int), .int .i64 (wd : Int), .int .i64 (hi : Int), .slice a n c, .slice b m cc]).all (·.oneCell') = true := by simp [Value.oneCell']
    go_wp2_with (refine wpList_store_row rfl 25 (.tmp 2) (.tmp 12) rfl w.heap.size #[.int .i64 (k : Int), .int .i64 (d : Int), .int .i64 (wd : Int), .int .i64 (hi : Int), .slice a n c, .slice b m cc] rfl rfl 25 #[.int .i64 0, .int .i64 0, .int .i64 0, .int .i64 0, .slice none 0 0, .slice none 0 0] hres hI6 rfl h16 ?_)
    have hs2 := setRow_heap w2 w.heap.size _ #[.int .i64 (k : Int), .int .i64 (d : Int), .int .i64 (wd : Int), .int .i64 (hi : Int), .slice a n c, .slice b m cc] _ _ hres
    obtain ⟨f1, f2, _⟩ := HI2.out
    obtain ⟨g1, g2, g3, g4, g5, g6, g7, g8⟩ := HL.out
    refine bodyPost_ret_by (results_cell_row (p := 2) (ty := 25) (by kernel_rfl) _ _ w.heap.size 25 _ (0, 0) _ rfl hs2 Try.underlying25 rfl (by kernel_rfl)) rfl
      ⟨⟨k, d, wd, hi, a, n, c, cs, b, m, cc, ps, rfl, (f1.row (by omega) _).lower (by omega), g1, g2, g3, (f2.row (by omega) _).lower (by omega), g4, g5, g6, g8⟩, ⟨q + 1, g7, HX2.out.rd.kept ((below_setRow _ _ _).mono hlt)⟩, HX2.out.only.grown hlt ((below_setRow _ _ _).mono (Nat.le_refl _))⟩
end Go.Proofs.Ytgeepemhmkoknaa

/- A slice of bytes that came in is a code that can be read. -/
namespace Go.Proofs.Ytgeepemhmkoknaa
open Go.RowKit

theorem addr_add (b off i : Nat) : (⟨b, off, none⟩ : Addr).add i = ⟨b, off + i, none⟩ := by
  simp [Addr.add]; try omega

theorem code8_of {w : World} {a : Option Addr} {len cap : Nat} {zs : List Int}
    (h : (a = none ∧ len = 0 ∧ cap = 0 ∧ zs = []) ∨ ∃ x, a = some x ∧ len ≤ cap ∧ cap ≤ maxLen ∧ zs.length = cap ∧ (∀ i, i < zs.length → w.cell? (x.add i) = some (.int .u8 (zs.getD i 0))) ∧ ∀ n ∈ zs, (Lit.int .u8 n).wf = true) :
    Code8 w a len cap := by
  rcases h with ⟨rfl, rfl, rfl, rfl⟩ | ⟨x, rfl, hl, hm, hz, hcell, hwz⟩
  · exact ⟨Nat.le_refl _, Nat.zero_le _, .inl rfl⟩
  · refine ⟨hl, hm, ?_⟩
    by_cases h0 : len = 0
    · exact .inl h0
    · obtain ⟨b, off, spot⟩ := x
      have hc := hcell 0 (by omega)
      have hspot : spot = none := by simpa [Addr.add] using World.cell?_spot hc
      subst hspot
      rw [addr_add] at hc
      refine .inr ⟨b, off, rfl, World.block_lt_of_cell? _ _ hc, fun i hi => ?_⟩
      have h1 := hcell i (by omega)
      rw [addr_add] at h1
      have hmem : zs.getD i 0 ∈ zs := by
        rw [List.getD_eq_getElem?_getD, List.getElem?_eq_getElem (by omega)]
        exact List.getElem_mem _
      have hw := bounds_u8 (hwz _ hmem)
      exact ⟨(zs.getD i 0).toNat, by omega, by rw [h1, Int.toNat_of_nonneg hw.1]⟩
end Go.Proofs.Ytgeepemhmkoknaa

/- A picture and a place, drawn. -/
namespace Go.Proofs.Ytgeepemhmkoknaa
open Go.RowKit

theorem setRow_setRow (w : World) (g : Nat) (a b : Array Value) : (w.setRow g a).setRow g b = w.setRow g b := by
  unfold World.setRow
  simp only
  congr 1
  apply Array.ext_getElem?
  intro i
  rw [Array.getElem?_modify, Array.getElem?_modify, Array.getElem?_modify]
  by_cases e : g = i
  · subst e
    simp only [if_true]
    cases w.heap[g]? with
    | none => rfl
    | some o => cases o <;> rfl
  · simp [e]
theorem setRow_setCell {w : World} {g : Nat} {cur : Array Value} {t : TypeId} (h : w.heap[g]? = some (.cells cur t (0, 0))) (a : Array Value) (i : Nat) (v : Value) : (w.setRow g a).setCell ⟨g, i, none⟩ v = w.setRow g (a.setIfInBounds i v) := by
  rw [setCell_eq_setRow (w.setRow g a) g i a t (0, 0) v (setRow_heap w g cur a t (0, 0) h), setRow_setRow]
theorem six_row {w : World} {g : Nat} {t : TypeId} {a0 a1 a2 a3 a4 a5 : Value} (h : w.heap[g]? = some (.cells #[a0, a1, a2, a3, a4, a5] t (0, 0))) (v0 v1 v2 v3 v4 v5 : Value) :
    (((((w.setCell ⟨g, 0, none⟩ v0).setCell ⟨g, 1, none⟩ v1).setCell ⟨g, 2, none⟩ v2).setCell ⟨g, 3, none⟩ v3).setCell ⟨g, 4, none⟩ v4).setCell ⟨g, 5, none⟩ v5 = w.setRow g #[v0, v1, v2, v3, v4, v5] := by
  rw [setCell_eq_setRow w g 0 _ t (0, 0) v0 h, setRow_setCell h, setRow_setCell h, setRow_setCell h, setRow_setCell h, setRow_setCell h]
  rfl

/-- a number from 0 to 40 -/
def least40 (z : Int) : Nat := if z < 0 then 0 else if 40 < z then 40 else z.toNat
theorem least40_le (z : Int) : least40 z ≤ 40 := by unfold least40; split <;> (try split) <;> omega

set_option maxHeartbeats 400000 in
theorem l1Least_any (z : Int) (w : World) :
    Calls Try.prog 53 #[.int .i64 z] w fun e w' => e = .returned (.int .i64 (least40 z : Int)) ∧ w' = w := by
  by_cases h1 : z < 0
  · rw [show least40 z = 0 from if_pos h1]
    go_enter Try.func53, Try.ntmps53
    go_wp2_with fail
    go_ret
    exact ⟨rfl, rfl⟩
  · by_cases h2 : 40 < z
    · rw [show least40 z = 40 by unfold least40; rw [if_neg h1, if_pos h2]]
      go_enter Try.func53, Try.ntmps53
      go_wp2_with fail
      go_ret
      exact ⟨rfl, rfl⟩
    · rw [show ((least40 z : Nat) : Int) = z by unfold least40; rw [if_neg h1, if_neg h2]; omega]
      go_enter Try.func53, Try.ntmps53
      go_wp2_with fail
      go_ret
      exact ⟨rfl, rfl⟩

/-- the box of a picture, a result's box, beside the reader -/
structure KX (w wc : World) (B R X lo q : Nat) (k d wd hi : Int) (a : Option Addr) (n c : Nat) (cs : List Int) (b : Option Addr) (m cc : Nat) (ps : List Int) : Prop where
  rd : RdAt wc B q
  res : wc.heap[R]? = some (.cells #[.int .i64 0, .int .i64 0, .int .i64 0, .int .i64 0, .slice none 0 0, .slice none 0 0] 25 (0, 0))
  box : wc.heap[X]? = some (.cells #[.int .i64 k, .int .i64 d, .int .i64 wd, .int .i64 hi, .slice a n c, .slice b m cc] 25 (0, 0))
  i4 : IntsFrom wc lo a cs
  i5 : IntsFrom wc lo b ps
  bel : Below w.heap.size w wc
  hR : R ≠ B
  hX : X ≠ B
  hlo : B < lo
  hRlo : R < lo
  hB : w.heap.size ≤ B
theorem KX.pick {w wc w' : World} {B R X lo q n c m cc : Nat} {k d wd hi : Int} {a b : Option Addr} {cs ps : List Int} (h : KX w wc B R X lo q k d wd hi a n c cs b m cc ps) (hr : RdAt w' B (q + 1)) (ho : Only B wc w') : KX w w' B R X lo (q + 1) k d wd hi a n c cs b m cc ps :=
  { h with rd := hr, res := (ho.rest _ (lt_of_block h.res) h.hR).trans h.res, box := (ho.rest _ (lt_of_block h.box) h.hX).trans h.box, i4 := h.i4.only ho h.hlo, i5 := h.i5.only ho h.hlo, bel := h.bel.trans (ho.below.mono h.hB) }
theorem KX.drew {w wc : World} {B R X lo q n c m cc : Nat} {k d wd hi : Int} {a b : Option Addr} {cs ps : List Int} (h : KX w wc B R X lo q k d wd hi a n c cs b m cc ps) : KX w wc.drew B R X lo q k d wd hi a n c cs b m cc ps :=
  { h with rd := h.rd.drew, res := h.res, box := h.box, i4 := h.i4, i5 := h.i5, bel := h.bel.drew }

theorem wrap_small (s : Int) (h1 : -1000 ≤ s) (h2 : s ≤ 1000) : IntKind.i64.wrap s = s := by
  simp [IntKind.wrap, IntKind.bits, IntKind.signed]; omega
theorem IntsFrom.old {w : World} {lo : Nat} {a : Option Addr} {zs : List Int} (h : IntsFrom w lo a zs) (o : Obj) : IntsFrom (w.alloc o) lo a zs := by
  rcases h with e | ⟨b, off, rfl, h1, h2, h3⟩
  · exact .inl e
  · exact .inr ⟨b, off, rfl, h1, by simp; omega, fun i hi => by rw [World.cell?_alloc_past _ _ _ h2]; exact h3 i hi⟩
/-- the picture's box behind the store into the result's -/
theorem row_keeps {w wc : World} {B R X lo q n c m cc : Nat} {k d wd hi : Int} {a b : Option Addr} {cs ps : List Int} (h : KX w wc B R X lo q k d wd hi a n c cs b m cc ps) (hRX : R ≠ X) (new : Array Value) :
    (wc.setRow R new).cell? ⟨X, 0, none⟩ = some (.int .i64 k) ∧ (wc.setRow R new).cell? ⟨X, 1, none⟩ = some (.int .i64 d) ∧ (wc.setRow R new).cell? ⟨X, 2, none⟩ = some (.int .i64 wd) ∧ (wc.setRow R new).cell? ⟨X, 3, none⟩ = some (.int .i64 hi) ∧ (wc.setRow R new).cell? ⟨X, 4, none⟩ = some (.slice a n c) ∧ (wc.setRow R new).cell? ⟨X, 5, none⟩ = some (.slice b m cc) :=
  (box6 ((setRow_other wc R X new (fun e => hRX e.symm)).trans h.box)).1

/-- some picture and a place -/
def AtOut (lo : Nat) (e : Ending) (w' : World) : Prop := ∃ (k d wd hi : Int) (a : Option Addr) (n c : Nat) (cs : List Int) (b : Option Addr) (m cc : Nat) (ps : List Int) (x y : Int),
  e = .returned (.tuple #[.agg #[.int .i64 k, .int .i64 d, .int .i64 wd, .int .i64 hi, .slice a n c, .slice b m cc], .int .i64 x, .int .i64 y]) ∧ IntsFrom w' lo a cs ∧ cs.length = n ∧ n ≤ 1000 ∧ n ≤ c ∧ IntsFrom w' lo b ps ∧ ps.length = m ∧ m ≤ 1000 ∧ m ≤ cc ∧
  (0 ≤ k ∧ k ≤ 100 ∧ 0 ≤ d ∧ d ≤ 100 ∧ 0 ≤ wd ∧ wd ≤ 100 ∧ 0 ≤ hi ∧ hi ≤ 100) ∧ -1 ≤ x ∧ x ≤ 100 ∧ -1 ≤ y ∧ y ≤ 100

set_option maxHeartbeats 4000000 in
set_option maxRecDepth 20000 in
theorem drawImageAt_any (a0 : Option Addr) (len cap : Nat) (w : World) (h : Code8 w a0 len cap) :
    Calls Try.prog 54 #[.slice a0 len cap] w fun e w' => AtOut w.heap.size e w' ∧ Below w.heap.size w w' := by
  obtain ⟨W0, hW0⟩ : ∃ W0, W0 = w.alloc (.cells #[.int .i64 0, .int .i64 0, .int .i64 0, .int .i64 0, .slice none 0 0, .slice none 0 0] 25) := ⟨_, rfl⟩
  have hs0 : w.heap.size < W0.heap.size := by rw [hW0]; simp
  have hB0 : Below w.heap.size w W0 := by rw [hW0]; exact (Below.refl _ _).alloc (Nat.le_refl _) _
  have HZ0 : Hid (W0.heap[w.heap.size]? = some (.cells #[.int .i64 0, .int .i64 0, .int .i64 0, .int .i64 0, .slice none 0 0, .slice none 0 0] 25 (0, 0))) := by rw [hW0]; exact heap_alloc_new _ _
  have HOP : Hid (Calls Try.prog 37 #[.slice a0 len cap] W0 fun e w' => e = .returned (.pointer (some ⟨W0.heap.size, 0, none⟩)) ∧ RdAt w' W0.heap.size 0 ∧ Below W0.heap.size W0 w') := open_any a0 len cap W0 (h.kept hB0)
  have HB0 : Hid (Below w.heap.size w W0) := hB0
  clear h hB0
  go_enter Try.func54, Try.ntmps54
  go_upto_region 1 with fail
  rw [← hW0]
  clear hW0
  go_wp2_with fail
  refine HOP.out.mono ?_
  rintro e w1 ⟨rfl, hR, b1⟩
  have hR1 := hR.lt
  have HAN : Hid (Calls Try.prog 36 #[.pointer (some ⟨W0.heap.size, 0, none⟩)] w1 fun e w' => AnyOut w1.heap.size e w' ∧ (∃ q, q ≤ 0 + 6000 ∧ RdAt w' W0.heap.size q) ∧ Only W0.heap.size w1 w') := l14Any_any W0.heap.size 0 w1 hR (by omega)
  have HB1 : Hid (Below W0.heap.size W0 w1) := b1
  have hsz1 := b1.size
  clear HOP hR b1
  go_wp2_with fail
  refine HAN.out.mono ?_
  rintro e w3 ⟨⟨k, d, wd, hi, a, n, c, cs, b, m, cc, ps, rfl, i4, l4, l4', k4, i5, l5, l5', k5, bd⟩, ⟨q, hq, hR3⟩, hO3⟩
  have hsz3 : w1.heap.size ≤ w3.heap.size := hO3.below.size
  have HK : Hid (KX w (w3.alloc (.cells #[.int .i64 k, .int .i64 d, .int .i64 wd, .int .i64 hi, .slice a n c, .slice b m cc] 25)) W0.heap.size w.heap.size w3.heap.size w1.heap.size q k d wd hi a n c cs b m cc ps) :=
    ⟨hR3.alloc _, (heap_alloc_old _ _ (by omega)).trans ((hO3.rest _ (by omega) (by omega)).trans ((HB1.out.block _ (by omega)).trans HZ0.out)), heap_alloc_new _ _, i4.old _, i5.old _, (HB0.out.trans ((HB1.out.mono (by omega)).trans (hO3.below.mono (by omega)))).alloc (by omega) _, by omega, by omega, by omega, by omega, by omega⟩
  have hRX : w.heap.size ≠ w3.heap.size := by omega
  have HL : Hid (cs.length = n ∧ n ≤ 1000 ∧ n ≤ c ∧ ps.length = m ∧ m ≤ 1000 ∧ m ≤ cc ∧ 0 ≤ k ∧ k ≤ 100 ∧ 0 ≤ d ∧ d ≤ 100 ∧ 0 ≤ wd ∧ wd ≤ 100 ∧ 0 ≤ hi ∧ hi ≤ 100) := ⟨l4, l4', k4, l5, l5', k5, bd⟩
  clear HAN i4 i5 hR3 hO3 l4 l4' k4 l5 l5' k5 bd HB0 HB1 HZ0 hsz3 hR1
  obtain ⟨lw, hlw⟩ : ∃ lw, lw = least40 wd := ⟨_, rfl⟩
  obtain ⟨lh, hlh⟩ : ∃ lh, lh = least40 hi := ⟨_, rfl⟩
  have HLW : Hid (∀ w : World, Calls Try.prog 53 #[.int .i64 wd] w fun e w' => e = .returned (.int .i64 (lw : Int)) ∧ w' = w) := fun w => by rw [hlw]; exact l1Least_any wd w
  have HLH : Hid (∀ w : World, Calls Try.prog 53 #[.int .i64 hi] w fun e w' => e = .returned (.int .i64 (lh : Int)) ∧ w' = w) := fun w => by rw [hlh]; exact l1Least_any hi w
  have hlwb : lw ≤ 40 := by rw [hlw]; exact least40_le _
  have hlhb : lh ≤ 40 := by rw [hlh]; exact least40_le _
  clear hlw hlh
  obtain ⟨nw, hnw⟩ : ∃ nw : Nat, nw = lw + 2 := ⟨_, rfl⟩
  obtain ⟨nh, hnh⟩ : ∃ nh : Nat, nh = lh + 2 := ⟨_, rfl⟩
  have e1 : (lw : Int) + 2 = (nw : Int) := by omega
  have e2 : (lh : Int) + 2 = (nh : Int) := by omega
  have f1 := wrap_i64_nat nw (by omega)
  have f2 := wrap_i64_nat nh (by omega)
  have hnwb : 1 ≤ nw ∧ nw ≤ 42 := by omega
  have hnhb : 1 ≤ nh ∧ nh ≤ 42 := by omega
  clear hnw hnh
  go_upto_region 3 with fail
  generalize w3.alloc (.cells #[.int .i64 k, .int .i64 d, .int .i64 wd, .int .i64 hi, .slice a n c, .slice b m cc] 25) = W4 at *
  generalize w3.heap.size = X at *
  generalize w1.heap.size = lo at *
  generalize W0.heap.size = B at *
  have HD : Hid (KX w W4.drew B w.heap.size X lo q k d wd hi a n c cs b m cc ps) := HK.out.drew
  obtain ⟨⟨z0, z1, z2, z3, z4, z5⟩, y0, y1, y2, y3, y4, y5⟩ := box6 HK.out.box
  clear y0 y1 y2 y3 y4 y5
  go_region_held3 (fun w' => w'.cell? ⟨X, 0, none⟩ = some (.int .i64 k) ∧ w'.cell? ⟨X, 1, none⟩ = some (.int .i64 d) ∧ w'.cell? ⟨X, 2, none⟩ = some (.int .i64 wd) ∧ w'.cell? ⟨X, 3, none⟩ = some (.int .i64 hi) ∧ w'.cell? ⟨X, 4, none⟩ = some (.slice a n c) ∧ w'.cell? ⟨X, 5, none⟩ = some (.slice b m cc)) (first | go_keep | (rw [six_row HK6.out.res]; exact row_keeps HK6.out hRX _)) (first | (go_at_call 53; refine (HLW.out _).mono ?_; rintro e w' ⟨rfl, rfl⟩) | (go_at_call 53; refine (HLH.out _).mono ?_; rintro e w' ⟨rfl, rfl⟩) | (go_at_call 52; refine (pick_named B (q + 1) _ _ HK5.out.rd (by omega) (by omega) (by omega)).mono ?_; rintro e w6 ⟨v6, rfl, hv6, hR6, hO6, hs6⟩; have HK6 : Hid (KX w w6 B w.heap.size X lo (q + 1 + 1) k d wd hi a n c cs b m cc ps) := HK5.out.pick hR6 hO6; obtain ⟨⟨b0, b1, b2, b3, b4, b5⟩, _⟩ := box6 HK6.out.box; obtain ⟨⟨r0, r1, r2, r3, r4, r5⟩, g0, g1, g2, g3, g4, g5⟩ := box6 HK6.out.res; obtain ⟨s6, hs6'⟩ : ∃ s : Int, s = (v6 : Int) - 1 := ⟨_, rfl⟩; have es6 := hs6'.symm; have fs6 : IntKind.i64.wrap s6 = s6 := wrap_small s6 (by omega) (by omega); have hs6b : -1 ≤ s6 ∧ s6 ≤ 100 := (by omega); clear hR6 hO6 hs6 hs6' hv6) | (go_at_call 52; refine (pick_named B q _ _ HD.out.rd (by omega) (by omega) (by omega)).mono ?_; rintro e w5 ⟨v5, rfl, hv5, hR5, hO5, hs5⟩; have HK5 : Hid (KX w w5 B w.heap.size X lo (q + 1) k d wd hi a n c cs b m cc ps) := HD.out.pick hR5 hO5; obtain ⟨⟨a0', a1', a2', a3', a4', a5'⟩, _⟩ := box6 HK5.out.box; obtain ⟨s5, hs5'⟩ : ∃ s : Int, s = (v5 : Int) - 1 := ⟨_, rfl⟩; have es5 := hs5'.symm; have fs5 : IntKind.i64.wrap s5 = s5 := wrap_small s5 (by omega) (by omega); have hs5b : -1 ≤ s5 ∧ s5 ≤ 100 := (by omega); clear hR5 hO5 hs5 hs5' hv5))
  all_goals
    rw [six_row HK6.out.res]
    clear r0 r1 r2 r3 r4 r5 g0 g1 g2 g3 g4 g5 b0 b1 b2 b3 b4 b5 z0 z1 z2 z3 z4 z5 a0' a1' a2' a3' a4' a5' HLW HLH
    obtain ⟨⟨c0, c1, c2, c3, c4, c5⟩, _⟩ := box6 (setRow_heap w6 w.heap.size _ #[.int .i64 k, .int .i64 d, .int .i64 wd, .int .i64 hi, .slice a n c, .slice b m cc] _ _ HK6.out.res)
    obtain ⟨g1, g2, g3, g4, g5, g6, g8⟩ := HL.out
    go_wp2_with fail
    refine bodyPost_ret (v := .tuple #[.agg #[.int .i64 k, .int .i64 d, .int .i64 wd, .int .i64 hi, .slice a n c, .slice b m cc], .int .i64 s5, .int .i64 s6]) (by simp [results, Try.results54, go_sem, c0, c1, c2, c3, c4, c5]) rfl ⟨⟨k, d, wd, hi, a, n, c, cs, b, m, cc, ps, s5, s6, rfl, (HK6.out.i4.row HK6.out.hRlo _).lower (Nat.le_of_lt HK6.out.hRlo), g1, g2, g3, (HK6.out.i5.row HK6.out.hRlo _).lower (Nat.le_of_lt HK6.out.hRlo), g4, g5, g6, g8, hs5b.1, hs5b.2, hs6b.1, hs6b.2⟩, HK6.out.bel.trans ((below_setRow _ _ _).mono (Nat.le_refl _))⟩

set_option maxHeartbeats 1000000 in
theorem drawImageColor_any (a0 : Option Addr) (len cap : Nat) (w : World) (h : Code8 w a0 len cap) :
    Calls Try.prog 22 #[.slice a0 len cap] w fun e w' => AtOut w.heap.size e w' ∧ Below w.heap.size w w' := by
  obtain ⟨W0, hW0⟩ : ∃ W0, W0 = w.alloc (.cells #[.int .i64 0, .int .i64 0, .int .i64 0, .int .i64 0, .slice none 0 0, .slice none 0 0] 25) := ⟨_, rfl⟩
  have hs0 : w.heap.size < W0.heap.size := by rw [hW0]; simp
  have hB0 : Below w.heap.size w W0 := by rw [hW0]; exact (Below.refl _ _).alloc (Nat.le_refl _) _
  have HZ0 : Hid (W0.heap[w.heap.size]? = some (.cells #[.int .i64 0, .int .i64 0, .int .i64 0, .int .i64 0, .slice none 0 0, .slice none 0 0] 25 (0, 0))) := by rw [hW0]; exact heap_alloc_new _ _
  have HOP : Hid (Calls Try.prog 54 #[.slice a0 len cap] W0 fun e w' => AtOut W0.heap.size e w' ∧ Below W0.heap.size W0 w') := drawImageAt_any a0 len cap W0 (h.kept hB0)
  have HB0 : Hid (Below w.heap.size w W0) := hB0
  clear h hB0
  go_enter Try.func22, Try.ntmps22
  go_upto_region 1 with fail
  rw [← hW0]
  clear hW0
  go_wp2_with fail
  refine HOP.out.mono ?_
  rintro e w3 ⟨⟨k, d, wd, hi, a, n, c, cs, b, m, cc, ps, x, y, rfl, i4, l4, l4', k4, i5, l5, l5', k5, bd, bx⟩, b3⟩
  have hres : w3.heap[w.heap.size]? = some (.cells #[.int .i64 0, .int .i64 0, .int .i64 0, .int .i64 0, .slice none 0 0, .slice none 0 0] 25 (0, 0)) := (b3.block _ (by omega)).trans HZ0.out
  have HF : Hid (IntsFrom w3 (w.heap.size + 1) a cs ∧ IntsFrom w3 (w.heap.size + 1) b ps ∧ Below w.heap.size w w3) := ⟨i4.lower (by omega), i5.lower (by omega), HB0.out.trans (b3.mono (by omega))⟩
  have HL : Hid (cs.length = n ∧ n ≤ 1000 ∧ n ≤ c ∧ ps.length = m ∧ m ≤ 1000 ∧ m ≤ cc ∧ (0 ≤ k ∧ k ≤ 100 ∧ 0 ≤ d ∧ d ≤ 100 ∧ 0 ≤ wd ∧ wd ≤ 100 ∧ 0 ≤ hi ∧ hi ≤ 100) ∧ -1 ≤ x ∧ x ≤ 100 ∧ -1 ≤ y ∧ y ≤ 100) := ⟨l4, l4', k4, l5, l5', k5, bd, bx⟩
  clear HOP i4 i5 b3 l4 l4' k4 l5 l5' k5 bd bx HB0 HZ0
  have hI6 : (Try.prog.info? 25).map (·.size) = some (#[Value.int .i64 k, .int .i64 d, .int .i64 wd, .int .i64 hi, .slice a n c, .slice b m cc]).size := by kernel_rfl
  have h16 : (#[Value.int .i64 k, .int .i64 d, .int .i64 wd, .int .i64 hi, .slice a n c, .slice b m cc]).all (·.oneCell') = true := by simp [Value.oneCell']
  go_wp2_with (refine wpList_store_row rfl 25 (.tmp 2) (.tmp 7) rfl w.heap.size #[.int .i64 k, .int .i64 d, .int .i64 wd, .int .i64 hi, .slice a n c, .slice b m cc] rfl rfl 25 #[.int .i64 0, .int .i64 0, .int .i64 0, .int .i64 0, .slice none 0 0, .slice none 0 0] hres hI6 rfl h16 ?_)
  obtain ⟨⟨c0, c1, c2, c3, c4, c5⟩, _⟩ := box6 (setRow_heap w3 w.heap.size _ #[.int .i64 k, .int .i64 d, .int .i64 wd, .int .i64 hi, .slice a n c, .slice b m cc] _ _ hres)
  obtain ⟨f1, f2, f3⟩ := HF.out
  obtain ⟨g1, g2, g3, g4, g5, g6, g8⟩ := HL.out
  refine bodyPost_ret (v := .tuple #[.agg #[.int .i64 k, .int .i64 d, .int .i64 wd, .int .i64 hi, .slice a n c, .slice b m cc], .int .i64 x, .int .i64 y]) (by simp [results, Try.results22, go_sem, c0, c1, c2, c3, c4, c5]) rfl
    ⟨⟨k, d, wd, hi, a, n, c, cs, b, m, cc, ps, x, y, rfl, (f1.row (by omega) _).lower (by omega), g1, g2, g3, (f2.row (by omega) _).lower (by omega), g4, g5, g6, g8⟩, f3.trans ((below_setRow _ _ _).mono (Nat.le_refl _))⟩
end Go.Proofs.Ytgeepemhmkoknaa

/- The law on a point's colour, walked. -/
namespace Go.Proofs.Ytgeepemhmkoknaa
open Go.RowKit

set_option maxHeartbeats 400000 in
theorem wiIn_yes (n lo hi : Int) (w : World) (h1 : lo ≤ n) (h2 : n ≤ hi) :
    Calls Try.prog 25 #[.int .i64 n, .int .i64 lo, .int .i64 hi] w fun e w' => e = .returned (.bool true) ∧ w' = w := by
  have hd : decide (n ≤ hi) = true := by simp; omega
  have hd2 : decide (lo ≤ n) = true := by simp; omega
  go_enter Try.func25, Try.ntmps25
  go_wp2
  go_ret
  exact ⟨rfl, rfl⟩

set_option maxHeartbeats 8000000 in
set_option maxRecDepth 20000 in
theorem lawImageColor (ra : Option Addr) (len cap : Nat) (w : World) (h : Code8 w ra len cap) :
    Calls Try.prog 6 #[.slice ra len cap] w fun e w' => e = .returned (.bool true) ∧ Below w.heap.size w w' := by
  by_cases hbig : 1048576 < len
  · have hc := h.2.1
    have hc1 := h.1
    unfold maxLen at hc
    clear h
    go_enter Try.func6, Try.ntmps6
    go_wp2_with fail
    go_ret
    exact ⟨rfl, Below.refl _ _⟩
  · go_enter Try.func6, Try.ntmps6
    go_wp2_with fail
    refine (drawImageColor_any ra len cap w h).mono ?_
    rintro e w1 ⟨⟨k, d, wd, hi, a, n, c, cs, b, m, cc, ps, px, py, rfl, i4, l4, l4', k4, i5, l5, l5', k5, bd, bx⟩, b1⟩
    clear h
    rcases hco : Im.coB k d wd hi px py cs ps with _ | _
    · have hat : Im.atB k d wd hi px py cs ps = false := hco
      have HCI : Hid (∀ w1 : World, Ints w1 a cs → Ints w1 b ps → Calls Try.prog 23 #[.agg #[.int .i64 k, .int .i64 d, .int .i64 wd, .int .i64 hi, .slice a n c, .slice b m cc], .int .i64 px, .int .i64 py] w1 fun e w' => e = .returned (.tuple #[.int .i64 0, .bool false]) ∧ Below w1.heap.size w1 w') := fun w1 g1 g2 => by
        have := impl_imageColor k d wd hi px py a n c b m cc w1 cs ps g1 l4 (by omega) g2 l5 (by omega)
        rw [hco, Im.co_no hco] at this; exact this
      have HCS : Hid (∀ w1 : World, Ints w1 a cs → Ints w1 b ps → Calls Try.prog 24 #[.agg #[.int .i64 k, .int .i64 d, .int .i64 wd, .int .i64 hi, .slice a n c, .slice b m cc], .int .i64 px, .int .i64 py] w1 fun e w' => e = .returned (.tuple #[.int .i64 0, .bool false]) ∧ Below w1.heap.size w1 w') := fun w1 g1 g2 => by
        have := spec_imageColor k d wd hi px py a n c b m cc w1 cs ps g1 l4 (by omega) g2 l5
        rw [hco, Im.co_no hco] at this; exact this
      have HAT : Hid (∀ w1 : World, Ints w1 a cs → Ints w1 b ps → Calls Try.prog 15 #[.agg #[.int .i64 k, .int .i64 d, .int .i64 wd, .int .i64 hi, .slice a n c, .slice b m cc], .int .i64 px, .int .i64 py] w1 fun e w' => e = .returned (.tuple #[.int .i64 0, .bool false]) ∧ Below w1.heap.size w1 w') := fun w1 g1 g2 => by
        have := impl_imageAt k d wd hi px py a n c b m cc w1 cs ps g1 l4 (by omega) g2 l5 (by omega)
        rw [hat, Im.at_no hat] at this; exact this
      have M1 : Hid (PB (w1.alloc (.cells #[.int .i64 k, .int .i64 d, .int .i64 wd, .int .i64 hi, .slice a n c, .slice b m cc] 25)) w1.heap.size k d wd hi a n c cs b m cc ps) := pb_new i4.ints i5.ints
      have B1 : Hid (Below w.heap.size w (w1.alloc (.cells #[.int .i64 k, .int .i64 d, .int .i64 wd, .int .i64 hi, .slice a n c, .slice b m cc] 25))) := b1.alloc b1.size _
      clear i4 i5 l4 l5 l4' l5' k4 k5 bd bx b1 hco hat
      go_wp2_with fail
      refine (HCI.out _ M1.out.i4 M1.out.i5).mono ?_
      rintro e w2 ⟨rfl, b2⟩
      generalize w1.heap.size = MB at *
      have M2 : Hid (PB w2 MB k d wd hi a n c cs b m cc ps) := M1.out.kept b2
      have B2 : Hid (Below w.heap.size w w2) := B1.out.trans (b2.mono B1.out.size)
      clear b2 M1 B1 HCI
      obtain ⟨m20, m21, m22, m23, m24, m25⟩ := M2.out.box
      go_wp2_with fail
      refine (HCS.out _ M2.out.i4 M2.out.i5).mono ?_
      rintro e w3 ⟨rfl, b3⟩
      have M3 : Hid (PB w3 MB k d wd hi a n c cs b m cc ps) := M2.out.kept b3
      have B3 : Hid (Below w.heap.size w w3) := B2.out.trans (b3.mono B2.out.size)
      clear b3 M2 B2 HCS m20 m21 m22 m23 m24 m25
      obtain ⟨m30, m31, m32, m33, m34, m35⟩ := M3.out.box
      go_wp2_with fail
      refine (HAT.out _ M3.out.i4 M3.out.i5).mono ?_
      rintro e w4 ⟨rfl, b4⟩
      have M4 : Hid (PB w4 MB k d wd hi a n c cs b m cc ps) := M3.out.kept b4
      have B4 : Hid (Below w.heap.size w w4) := B3.out.trans (b4.mono B3.out.size)
      clear b4 M3 B3 HAT m30 m31 m32 m33 m34 m35
      obtain ⟨m40, m41, m42, m43, m44, m45⟩ := M4.out.box
      go_wp2_with fail
      go_ret
      exact ⟨rfl, B4.out⟩
    · have hok : Im.okB k d wd hi cs ps = true := by unfold Im.coB at hco; rw [Bool.and_eq_true] at hco; exact hco.1
      have hin : 0 ≤ px ∧ px < wd ∧ 0 ≤ py ∧ py < hi := by unfold Im.coB at hco; rw [Bool.and_eq_true] at hco; exact of_decide_eq_true hco.2
      obtain ⟨_, hw, hh, _, hmm, _⟩ := ok_open hok
      obtain ⟨Wd, rfl⟩ := Int.eq_ofNat_of_zero_le (show 0 ≤ wd by omega)
      obtain ⟨Hi, rfl⟩ := Int.eq_ofNat_of_zero_le (show 0 ≤ hi by omega)
      obtain ⟨X, rfl⟩ := Int.eq_ofNat_of_zero_le (show 0 ≤ px by omega)
      obtain ⟨Y, rfl⟩ := Int.eq_ofNat_of_zero_le (show 0 ≤ py by omega)
      have hWH : ((Wd * Hi : Nat) : Int) = (Wd : Int) * (Hi : Int) := by simp
      have hm : m = Wd * Hi := by omega
      obtain ⟨L, hL⟩ : ∃ L, L = flipL Wd Hi ps := ⟨_, rfl⟩
      have hLl : L.length = m := by rw [hL, flipL_len, hm]
      have hcf := co_flip (X := X) (Y := Y) hok (by omega) (by omega)
      have hcb := co_bounds (X := X) (Y := Y) hok (by omega) (by omega)
      have hat : Im.atB k d Wd Hi X Y cs ps = true := hco
      rw [← hL] at hcf
      obtain ⟨V, hV⟩ : ∃ V, V = Im.coV k d Wd Hi X Y cs ps := ⟨_, rfl⟩
      obtain ⟨P, hP⟩ : ∃ P, P = Im.atV k d Wd Hi X Y cs ps := ⟨_, rfl⟩
      rw [← hV] at hcf hcb
      obtain ⟨h1, hh1⟩ : ∃ h1 : Nat, h1 = Hi - 1 := ⟨_, rfl⟩
      obtain ⟨h2, hh2⟩ : ∃ h2 : Nat, h2 = Hi - 1 - Y := ⟨_, rfl⟩
      have e1 : (Hi : Int) - 1 = (h1 : Int) := by omega
      have e2 : (h1 : Int) - (Y : Int) = (h2 : Int) := by omega
      have f1 := wrap_i64_nat h1 (by omega)
      have f2 := wrap_i64_nat h2 (by omega)
      rw [← hh2] at hcf
      have HIF : Hid (∀ w1 : World, Ints w1 a cs → Ints w1 b ps → Calls Try.prog 10 #[.agg #[.int .i64 k, .int .i64 d, .int .i64 (Wd : Int), .int .i64 (Hi : Int), .slice a n c, .slice b m cc]] w1 fun e w' => (∃ x cx y cy, e = .returned (.agg #[.int .i64 k, .int .i64 d, .int .i64 (Wd : Int), .int .i64 (Hi : Int), .slice x n cx, .slice y m cy]) ∧ Ints w' x cs ∧ Ints w' y L) ∧ Below w1.heap.size w1 w') := fun w1 g1 g2 => by rw [hL]; exact implFlip_ok k d Wd Hi a n c b m cc cs ps w1 g1 l4 l4' g2 l5 hok
      have HCF : Hid (∀ (x : Option Addr) (cx : Nat) (y : Option Addr) (cy : Nat) (w1 : World), Ints w1 x cs → Ints w1 y L → Calls Try.prog 23 #[.agg #[.int .i64 k, .int .i64 d, .int .i64 (Wd : Int), .int .i64 (Hi : Int), .slice x n cx, .slice y m cy], .int .i64 (X : Int), .int .i64 (h2 : Int)] w1 fun e w' => e = .returned (.tuple #[.int .i64 V, .bool true]) ∧ Below w1.heap.size w1 w') := fun x cx y cy w1 g1 g2 => by
        have := impl_imageColor k d Wd Hi X (h2 : Int) x n cx y m cy w1 cs L g1 l4 (by omega) g2 hLl (by omega)
        rw [hcf.1, hcf.2] at this; exact this
      have HCI : Hid (∀ w1 : World, Ints w1 a cs → Ints w1 b ps → Calls Try.prog 23 #[.agg #[.int .i64 k, .int .i64 d, .int .i64 (Wd : Int), .int .i64 (Hi : Int), .slice a n c, .slice b m cc], .int .i64 (X : Int), .int .i64 (Y : Int)] w1 fun e w' => e = .returned (.tuple #[.int .i64 V, .bool true]) ∧ Below w1.heap.size w1 w') := fun w1 g1 g2 => by
        have := impl_imageColor k d (Wd : Int) (Hi : Int) (X : Int) (Y : Int) a n c b m cc w1 cs ps g1 l4 (by omega) g2 l5 (by omega)
        rw [hco, ← hV] at this; exact this
      have HCS : Hid (∀ w1 : World, Ints w1 a cs → Ints w1 b ps → Calls Try.prog 24 #[.agg #[.int .i64 k, .int .i64 d, .int .i64 (Wd : Int), .int .i64 (Hi : Int), .slice a n c, .slice b m cc], .int .i64 (X : Int), .int .i64 (Y : Int)] w1 fun e w' => e = .returned (.tuple #[.int .i64 V, .bool true]) ∧ Below w1.heap.size w1 w') := fun w1 g1 g2 => by
        have := spec_imageColor k d (Wd : Int) (Hi : Int) (X : Int) (Y : Int) a n c b m cc w1 cs ps g1 l4 (by omega) g2 l5
        rw [hco, ← hV] at this; exact this
      have HAT : Hid (∀ w1 : World, Ints w1 a cs → Ints w1 b ps → Calls Try.prog 15 #[.agg #[.int .i64 k, .int .i64 d, .int .i64 (Wd : Int), .int .i64 (Hi : Int), .slice a n c, .slice b m cc], .int .i64 (X : Int), .int .i64 (Y : Int)] w1 fun e w' => e = .returned (.tuple #[.int .i64 P, .bool true]) ∧ Below w1.heap.size w1 w') := fun w1 g1 g2 => by
        have := impl_imageAt k d (Wd : Int) (Hi : Int) (X : Int) (Y : Int) a n c b m cc w1 cs ps g1 l4 (by omega) g2 l5 (by omega)
        rw [hat, ← hP] at this; exact this
      have M1 : Hid (PB (w1.alloc (.cells #[.int .i64 k, .int .i64 d, .int .i64 (Wd : Int), .int .i64 (Hi : Int), .slice a n c, .slice b m cc] 25)) w1.heap.size k d (Wd : Int) (Hi : Int) a n c cs b m cc ps) := pb_new i4.ints i5.ints
      have B1 : Hid (Below w.heap.size w (w1.alloc (.cells #[.int .i64 k, .int .i64 d, .int .i64 (Wd : Int), .int .i64 (Hi : Int), .slice a n c, .slice b m cc] 25))) := b1.alloc b1.size _
      have HWIN : Hid (∀ w1 : World, Calls Try.prog 25 #[.int .i64 V, .int .i64 0, .int .i64 4294967295] w1 fun e w' => e = .returned (.bool true) ∧ w' = w1) := fun w1 => wiIn_yes V 0 4294967295 w1 hcb.1 hcb.2.1
      have HV : Hid (k ≠ 3 → V % 256 = 255) := hcb.2.2
      have hV0 : 0 ≤ V := hcb.1
      have hV1 : V ≤ 4294967295 := hcb.2.1
      clear hL hLl hcf hcb hV hP hh1 hh2 hm hWH hw hh hmm hin hok
      clear i4 i5 l4 l5 l4' l5' k4 k5 bd bx b1 hco hat
      go_wp2_with fail
      refine (HCI.out _ M1.out.i4 M1.out.i5).mono ?_
      rintro e w2 ⟨rfl, b2⟩
      generalize w1.heap.size = MB at *
      have M2 : Hid (PB w2 MB k d (Wd : Int) (Hi : Int) a n c cs b m cc ps) := M1.out.kept b2
      have B2 : Hid (Below w.heap.size w w2) := B1.out.trans (b2.mono B1.out.size)
      clear b2 M1 B1 HCI
      obtain ⟨m20, m21, m22, m23, m24, m25⟩ := M2.out.box
      go_wp2_with fail
      refine (HCS.out _ M2.out.i4 M2.out.i5).mono ?_
      rintro e w3 ⟨rfl, b3⟩
      have M3 : Hid (PB w3 MB k d (Wd : Int) (Hi : Int) a n c cs b m cc ps) := M2.out.kept b3
      have B3 : Hid (Below w.heap.size w w3) := B2.out.trans (b3.mono B2.out.size)
      clear b3 M2 B2 HCS m20 m21 m22 m23 m24 m25
      obtain ⟨m30, m31, m32, m33, m34, m35⟩ := M3.out.box
      go_wp2_with fail
      refine (HAT.out _ M3.out.i4 M3.out.i5).mono ?_
      rintro e w4 ⟨rfl, b4⟩
      have M4 : Hid (PB w4 MB k d (Wd : Int) (Hi : Int) a n c cs b m cc ps) := M3.out.kept b4
      have B4 : Hid (Below w.heap.size w w4) := B3.out.trans (b4.mono B3.out.size)
      clear b4 M3 B3 HAT m30 m31 m32 m33 m34 m35
      obtain ⟨m40, m41, m42, m43, m44, m45⟩ := M4.out.box
      go_wp2_with fail
      have M5 : Hid (PB w4.drew MB k d (Wd : Int) (Hi : Int) a n c cs b m cc ps) := M4.out.kept (Below.refl _ _).drew
      have B5 : Hid (Below w.heap.size w w4.drew) := B4.out.drew
      go_region_held3 (fun w' => w'.cell? ⟨MB, 0, none⟩ = some (.int .i64 k) ∧ w'.cell? ⟨MB, 1, none⟩ = some (.int .i64 d) ∧ w'.cell? ⟨MB, 2, none⟩ = some (.int .i64 (Wd : Int)) ∧ w'.cell? ⟨MB, 3, none⟩ = some (.int .i64 (Hi : Int)) ∧ w'.cell? ⟨MB, 4, none⟩ = some (.slice a n c) ∧ w'.cell? ⟨MB, 5, none⟩ = some (.slice b m cc)) (go_keep) (first | (go_at_call 23; refine (HCF.out x6 c6 y6 d6 _ G6.out.1 G6.out.2).mono ?_; rintro e w7 ⟨rfl, b7⟩; have M7 : Hid (PB w7 MB k d (Wd : Int) (Hi : Int) a n c cs b m cc ps) := M6.out.kept b7; have B7 : Hid (Below w.heap.size w w7) := B6.out.trans (b7.mono B6.out.size); obtain ⟨m70, m71, m72, m73, m74, m75⟩ := M7.out.box; clear b7) | (go_at_call 10; refine (HIF.out _ M5.out.i4 M5.out.i5).mono ?_; rintro e w6 ⟨⟨x6, c6, y6, d6, rfl, gx6, gy6⟩, b6⟩; have G6 : Hid (Ints w6 x6 cs ∧ Ints w6 y6 L) := ⟨gx6, gy6⟩; clear gx6 gy6; have M6 : Hid (PB w6 MB k d (Wd : Int) (Hi : Int) a n c cs b m cc ps) := M5.out.kept b6; have B6 : Hid (Below w.heap.size w w6) := B5.out.trans (b6.mono B5.out.size); obtain ⟨m60, m61, m62, m63, m64, m65⟩ := M6.out.box; clear b6))
      clear M4 B4 M5 B5 M6 B6 G6 m40 m41 m42 m43 m44 m45 m60 m61 m62 m63 m64 m65 HIF HCF e1 e2 f1 f2
      go_wp2_with fail
      refine (HWIN.out _).mono ?_
      rintro e w8 ⟨rfl, hw8⟩
      replace hw8 := hw8.symm
      subst hw8
      by_cases hk3 : k = 3
      · have hkb : (k == 3) = true := by rw [beq_iff_eq]; exact hk3
        clear HV
        go_wp2_with fail
        go_ret
        exact ⟨rfl, B7.out⟩
      · have hkb : (k == 3) = false := by rw [beq_eq_false_iff_ne]; exact hk3
        have hv := HV.out hk3
        have hv' : V.tmod 256 = 255 := by rw [Int.tmod_eq_emod_of_nonneg hV0]; exact hv
        clear HV
        go_wp2_with fail
        go_ret
        exact ⟨rfl, B7.out⟩
end Go.Proofs.Ytgeepemhmkoknaa
