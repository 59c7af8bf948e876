/- Two pictures that are the same, held against each other; pictures in boxes. -/
import Derived.Test.YtgeepemhmkoknaaWiInts
import Derived.Test.YtgeepemhmkoknaaBoxWalks
import Derived.Deep.DeepCutAuto
namespace Go.Proofs.Ytgeepemhmkoknaa
open Go.RowKit

theorem drewN_low (w : World) (m : Nat) : Below w.heap.size w (w.drewN m) := ⟨rfl, rfl, rfl, Nat.le_refl _, fun _ _ => rfl⟩

set_option maxHeartbeats 1000000 in
set_option maxRecDepth 20000 in
theorem wiImage_same (k d wd hi : Int) (n m : Nat) (cs ps : List Int) (hn : cs.length = n) (hm : ps.length = m) (hnl : n ≤ 1048576) (hml : m ≤ 1048576) (a : Option Addr) (c : Nat) (b : Option Addr) (cc : Nat) (a' : Option Addr) (c' : Nat) (b' : Option Addr) (cc' : Nat) (w : World) (h1 : Ints w a cs) (h2 : Ints w b ps) (h3 : Ints w a' cs) (h4 : Ints w b' ps) :
    Calls Try.prog 11 #[.agg #[.int .i64 k, .int .i64 d, .int .i64 wd, .int .i64 hi, .slice a n c, .slice b m cc], .agg #[.int .i64 k, .int .i64 d, .int .i64 wd, .int .i64 hi, .slice a' n c', .slice b' m cc']] w fun e w' => e = .returned (.bool true) ∧ Below w.heap.size w w' := by
  obtain ⟨W0, hW0⟩ : ∃ W0, W0 = (w.alloc (.cells #[.int .i64 k, .int .i64 d, .int .i64 wd, .int .i64 hi, .slice a n c, .slice b m cc] 25)).alloc (.cells #[.int .i64 k, .int .i64 d, .int .i64 wd, .int .i64 hi, .slice a' n c', .slice b' m cc'] 25) := ⟨_, rfl⟩
  have hB0 : Below w.heap.size w W0 := by rw [hW0]; exact ((Below.refl _ _).alloc (Nat.le_refl _) _).alloc (by simp) _
  have HC : Hid (∀ w', Ints w' a cs → Ints w' a' cs → Calls Try.prog 39 #[.slice a n c, .slice a' n c'] w' fun e w'' => e = .returned (.bool true) ∧ ∃ m, w'' = w'.drewN m) := fun w' g1 g2 => wiInts_same a c a' c' n cs w' g1 g2 hn (by omega)
  have HP : Hid (∀ w', Ints w' b ps → Ints w' b' ps → Calls Try.prog 39 #[.slice b m cc, .slice b' m cc'] w' fun e w'' => e = .returned (.bool true) ∧ ∃ m, w'' = w'.drewN m) := fun w' g1 g2 => wiInts_same b cc b' cc' m ps w' g1 g2 hm (by omega)
  have HI : Hid (∀ w', Below W0.heap.size W0 w' → Ints w' a cs ∧ Ints w' b ps ∧ Ints w' a' cs ∧ Ints w' b' ps) := fun w' b => ⟨(h1.kept hB0).kept b, (h2.kept hB0).kept b, (h3.kept hB0).kept b, (h4.kept hB0).kept b⟩
  have b0 : W0.cell? ⟨w.heap.size, 0, none⟩ = some (.int .i64 k) ∧ W0.cell? ⟨w.heap.size, 1, none⟩ = some (.int .i64 d) ∧ W0.cell? ⟨w.heap.size, 2, none⟩ = some (.int .i64 wd) ∧ W0.cell? ⟨w.heap.size, 3, none⟩ = some (.int .i64 hi) ∧ W0.cell? ⟨w.heap.size, 4, none⟩ = some (.slice a n c) ∧ W0.cell? ⟨w.heap.size, 5, none⟩ = some (.slice b m cc) := by
    rw [hW0]; exact box_kept (box_new w _ _ _ _ _ _ _) ((Below.refl _ _).alloc (Nat.le_refl _) _) (by simp)
  have b1 : W0.cell? ⟨w.heap.size + 1, 0, none⟩ = some (.int .i64 k) ∧ W0.cell? ⟨w.heap.size + 1, 1, none⟩ = some (.int .i64 d) ∧ W0.cell? ⟨w.heap.size + 1, 2, none⟩ = some (.int .i64 wd) ∧ W0.cell? ⟨w.heap.size + 1, 3, none⟩ = some (.int .i64 hi) ∧ W0.cell? ⟨w.heap.size + 1, 4, none⟩ = some (.slice a' n c') ∧ W0.cell? ⟨w.heap.size + 1, 5, none⟩ = some (.slice b' m cc') := by
    rw [hW0]
    have := box_new (w.alloc (.cells #[.int .i64 k, .int .i64 d, .int .i64 wd, .int .i64 hi, .slice a n c, .slice b m cc] 25)) (.int .i64 k) (.int .i64 d) (.int .i64 wd) (.int .i64 hi) (.slice a' n c') (.slice b' m cc') 25
    rw [World.size_alloc] at this; exact this
  obtain ⟨p0, p1, p2, p3, p4, p5⟩ := b0
  obtain ⟨q0, q1, q2, q3, q4, q5⟩ := b1
  have HB : Hid (Below w.heap.size w W0) := hB0
  clear h1 h2 h3 h4 hn hm hB0
  go_enter Try.func11, Try.ntmps11
  go_upto_region 1 with fail
  rw [← hW0]
  clear hW0
  go_wp2_with fail
  refine (HC.out _ (HI.out _ (Below.refl _ _)).1 (HI.out _ (Below.refl _ _)).2.2.1).mono ?_
  rintro e w1 ⟨rfl, m1, hw1⟩
  subst hw1
  go_wp2_with fail
  refine (HP.out _ (HI.out _ (drewN_low _ _)).2.1 (HI.out _ (drewN_low _ _)).2.2.2).mono ?_
  rintro e w2 ⟨rfl, m2, hw2⟩
  subst hw2
  go_wp2_with fail
  go_ret
  exact ⟨rfl, HB.out.trans ((drewN_low _ _).mono HB.out.size)⟩

/-- a picture in a box, its lists in memory -/
structure PB (w : World) (B : Nat) (k d wd hi : Int) (a : Option Addr) (n c : Nat) (cs : List Int) (b : Option Addr) (m cc : Nat) (ps : List Int) : Prop where
  lt : B < w.heap.size
  box : w.cell? ⟨B, 0, none⟩ = some (.int .i64 k) ∧ w.cell? ⟨B, 1, none⟩ = some (.int .i64 d) ∧ w.cell? ⟨B, 2, none⟩ = some (.int .i64 wd) ∧ w.cell? ⟨B, 3, none⟩ = some (.int .i64 hi) ∧ w.cell? ⟨B, 4, none⟩ = some (.slice a n c) ∧ w.cell? ⟨B, 5, none⟩ = some (.slice b m cc)
  i4 : Ints w a cs
  i5 : Ints w b ps
theorem PB.kept {w w' : World} {B n c m cc : Nat} {k d wd hi : Int} {a b : Option Addr} {cs ps : List Int} (h : PB w B k d wd hi a n c cs b m cc ps) (g : Below w.heap.size w w') : PB w' B k d wd hi a n c cs b m cc ps :=
  ⟨Nat.lt_of_lt_of_le h.lt g.size, box_kept h.box g h.lt, h.i4.kept g, h.i5.kept g⟩
theorem pb_new {w : World} {n c m cc : Nat} {k d wd hi : Int} {a b : Option Addr} {cs ps : List Int} (h4 : Ints w a cs) (h5 : Ints w b ps) : PB (w.alloc (.cells #[.int .i64 k, .int .i64 d, .int .i64 wd, .int .i64 hi, .slice a n c, .slice b m cc] 25)) w.heap.size k d wd hi a n c cs b m cc ps :=
  ⟨by simp, box_new w _ _ _ _ _ _ _, h4.kept ((Below.refl _ _).alloc (Nat.le_refl _) _), h5.kept ((Below.refl _ _).alloc (Nat.le_refl _) _)⟩
end Go.Proofs.Ytgeepemhmkoknaa
