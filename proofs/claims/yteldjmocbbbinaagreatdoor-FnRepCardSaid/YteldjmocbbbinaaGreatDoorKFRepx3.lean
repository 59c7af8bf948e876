/- Texts laid together: LawRep. -/
import Derived.Test.YteldjmocbbbinaaGreatDoorVFRepDrawForm
import Derived.Test.YteldjmocbbbinaaGreatDoorKFRepx0
/- The law on what a format holds, walked. -/
namespace Go.Proofs.YteldjmocbbbinaaGreatDoor
open Go.RowKit

theorem impl_rep_ints (f : Int) {k d wd hi : Int} {a : Option Addr} {n c : Nat} {cs : List Int} {b : Option Addr} {m cc : Nat} {ps : List Int} {w : World} (h4 : Ints w a cs) (l4 : cs.length = n) (n4 : n ≤ 1000) (h5 : Ints w b ps) (l5 : ps.length = m) (n5 : m ≤ 1000) :
    Calls Tryz.prog 5 #[.int .i64 f, .agg #[.int .i64 k, .int .i64 d, .int .i64 wd, .int .i64 hi, .slice a n c, .slice b m cc]] w fun e w' => e = .returned (.bool (Im.okB k d wd hi cs ps && repB f k d n)) ∧ Below w.heap.size w w' :=
  impl_rep f k d wd hi a n c b m cc _ dep_of w fun u bu => impl_imageOk k d wd hi a n c b m cc u cs ps (h4.kept bu) l4 (by omega) (h5.kept bu) l5 (by omega)
theorem spec_rep_ints (f : Int) {k d wd hi : Int} {a : Option Addr} {n c : Nat} {cs : List Int} {b : Option Addr} {m cc : Nat} {ps : List Int} {w : World} (h4 : Ints w a cs) (l4 : cs.length = n) (n4 : n ≤ 1000) (h5 : Ints w b ps) (l5 : ps.length = m) (_n5 : m ≤ 1000) :
    Calls Tryz.prog 6 #[.int .i64 f, .agg #[.int .i64 k, .int .i64 d, .int .i64 wd, .int .i64 hi, .slice a n c, .slice b m cc]] w fun e w' => e = .returned (.bool (Im.okB k d wd hi cs ps && repB f k d n)) ∧ Below w.heap.size w w' :=
  spec_rep f k d wd hi a n c b m cc _ dep_of w fun u bu => spec_imageOk k d wd hi a n c b m cc u cs ps (h4.kept bu) l4 (by omega) (h5.kept bu) l5

set_option linter.unusedSimpArgs false in
set_option maxHeartbeats 8000000 in
set_option maxRecDepth 20000 in
theorem lawRep (ra : Option Addr) (len cap : Nat) (w : World) (h : Code8 w ra len cap) :
    Calls Tryz.prog 3 #[.slice ra len cap] w fun e w' => e = .returned (.bool true) ∧ Below w.heap.size w w' := by
  by_cases hbig : 1048576 < len
  · have d0 : decide ((len : Int) > 1048576) = true := by simp; omega
    clear h
    go_enter Tryz.func3, Tryz.ntmps3
    go_wp2_with fail
    go_ret
    exact ⟨rfl, Below.refl _ _⟩
  have HDR : Hid (Calls Tryz.prog 4 #[.slice ra len cap] w (RepDrawn w)) := drawRep_any ra len cap w h
  have d0 : decide ((len : Int) > 1048576) = false := by simp; omega
  clear h
  go_enter Tryz.func3, Tryz.ntmps3
  go_wp2_with fail
  refine HDR.out.mono ?_
  rintro e w1 ⟨⟨f, k, d, wd, hi, a, n, c, cs, b, m, cc, ps, rfl, hf, P⟩, b1⟩
  have B1 : Hid (Below w.heap.size w w1) := b1
  clear b1 HDR
  obtain ⟨i4, l4, b4, i5, l5, b5, bd⟩ := P
  have P0 : Hid (PicAny w1 w.heap.size k d wd hi a n c cs b m cc ps) := ⟨i4, l4, b4, i5, l5, b5, bd⟩
  have M1 : Hid (PB (w1.alloc (.cells #[.int .i64 k, .int .i64 d, .int .i64 wd, .int .i64 hi, .slice a n c, .slice b m cc] 25)) w1.heap.size k d wd hi a n c cs b m cc ps) := pb_new i4.ints i5.ints
  have B2 : Hid (Below w.heap.size w (w1.alloc (.cells #[.int .i64 k, .int .i64 d, .int .i64 wd, .int .i64 hi, .slice a n c, .slice b m cc] 25))) := B1.out.alloc B1.out.size _
  obtain ⟨r, hr⟩ : ∃ r, r = (Im.okB k d wd hi cs ps && repB f k d n) := ⟨_, rfl⟩
  obtain ⟨o, ho⟩ : ∃ o, o = Im.okB k d wd hi cs ps := ⟨_, rfl⟩
  have HIR : Hid (∀ w1 : World, Ints w1 a cs → Ints w1 b ps → Calls Tryz.prog 5 #[.int .i64 f, .agg #[.int .i64 k, .int .i64 d, .int .i64 wd, .int .i64 hi, .slice a n c, .slice b m cc]] w1 fun e w' => e = .returned (.bool r) ∧ Below w1.heap.size w1 w') := fun w1 g1 g2 => by rw [hr]; exact impl_rep_ints f g1 l4 (by omega) g2 l5 (by omega)
  have HSR : Hid (∀ w1 : World, Ints w1 a cs → Ints w1 b ps → Calls Tryz.prog 6 #[.int .i64 f, .agg #[.int .i64 k, .int .i64 d, .int .i64 wd, .int .i64 hi, .slice a n c, .slice b m cc]] w1 fun e w' => e = .returned (.bool r) ∧ Below w1.heap.size w1 w') := fun w1 g1 g2 => by rw [hr]; exact spec_rep_ints f g1 l4 (by omega) g2 l5 (by omega)
  have HOI : Hid (∀ w1 : World, Ints w1 a cs → Ints w1 b ps → Calls Tryz.prog 7 #[.agg #[.int .i64 k, .int .i64 d, .int .i64 wd, .int .i64 hi, .slice a n c, .slice b m cc]] w1 fun e w' => e = .returned (.bool o) ∧ Below w1.heap.size w1 w') := fun w1 g1 g2 => by rw [ho]; exact impl_imageOk k d wd hi a n c b m cc w1 cs ps g1 l4 (by omega) g2 l5 (by omega)
  have HOS : Hid (∀ w1 : World, Ints w1 a cs → Ints w1 b ps → Calls Tryz.prog 8 #[.agg #[.int .i64 k, .int .i64 d, .int .i64 wd, .int .i64 hi, .slice a n c, .slice b m cc]] w1 fun e w' => e = .returned (.bool o) ∧ Below w1.heap.size w1 w') := fun w1 g1 g2 => by rw [ho]; exact spec_imageOk k d wd hi a n c b m cc w1 cs ps g1 l4 (by omega) g2 l5
  have HL : Hid (cs.length = n ∧ n ≤ 1000 ∧ ps.length = m ∧ m ≤ 1000) := ⟨l4, b4.1, l5, b5.1⟩
  have HO : Hid (o = Im.okB k d wd hi cs ps ∧ r = (o && repB f k d n)) := ⟨ho, by rw [hr, ho]⟩
  clear i4 l4 b4 i5 l5 b5 bd P0 B1 hr ho
  go_upto_region 4 with fail
  generalize w1.heap.size = M at *
  generalize w1.alloc (.cells #[.int .i64 k, .int .i64 d, .int .i64 wd, .int .i64 hi, .slice a n c, .slice b m cc] 25) = w2 at *
  obtain ⟨m10, m11, m12, m13, m14, m15⟩ := M1.out.box
  go_wp2_with fail
  refine (HIR.out _ M1.out.i4 M1.out.i5).mono ?_
  rintro e w3 ⟨rfl, b3⟩
  have M2 : Hid (PB w3 M k d wd hi a n c cs b m cc ps) := M1.out.kept b3
  have B3 : Hid (Below w.heap.size w w3) := B2.out.trans (b3.mono B2.out.size)
  clear b3 M1 B2 HIR m10 m11 m12 m13 m14 m15
  have Md : Hid (PB w3.drew M k d wd hi a n c cs b m cc ps) := M2.out.kept (Below.refl _ _).drew
  have Bd : Hid (Below w.heap.size w w3.drew) := B3.out.drew
  obtain ⟨m20, m21, m22, m23, m24, m25⟩ := M2.out.box
  go_wp2_with fail
  refine wp_region_held_drew (S := fun w' => w'.cell? ⟨M, 0, none⟩ = some (.int .i64 k) ∧ w'.cell? ⟨M, 1, none⟩ = some (.int .i64 d) ∧ w'.cell? ⟨M, 2, none⟩ = some (.int .i64 wd) ∧ w'.cell? ⟨M, 3, none⟩ = some (.int .i64 hi) ∧ w'.cell? ⟨M, 4, none⟩ = some (.slice a n c) ∧ w'.cell? ⟨M, 5, none⟩ = some (.slice b m cc)) (by kernel_rfl) ⟨m20, m21, m22, m23, m24, m25⟩ (fun hHeld => ?_)
  refine wpAnyH_take (i := 0) (v := .bool r) rfl (by kernel_rfl) (by kernel_rfl) (by kernel_rfl) (fun _ _ _ h => h) (Or.inl ⟨by rfl, ?_⟩) hHeld ?_
  · intro w' hSw
    obtain ⟨sm0, sm1, sm2, sm3, sm4, sm5⟩ := hSw
    go_simp
  try simp only [List.getElem_toArray, List.getElem_cons_succ, List.getElem_cons_zero, Act.put, List.setIfInBounds_toArray, List.set_cons_zero, List.set_cons_succ]
  refine wpAnyH_take (i := 1) (v := .int .i64 f) rfl (by kernel_rfl) (by kernel_rfl) (by kernel_rfl) (fun _ _ _ h => h) (Or.inl ⟨by rfl, ?_⟩) hHeld ?_
  · intro w' hSw
    obtain ⟨sm0, sm1, sm2, sm3, sm4, sm5⟩ := hSw
    go_simp
  try simp only [List.getElem_toArray, List.getElem_cons_succ, List.getElem_cons_zero, Act.put, List.setIfInBounds_toArray, List.set_cons_zero, List.set_cons_succ]
  refine wpAnyH_take (i := 2) (v := .agg #[.int .i64 k, .int .i64 d, .int .i64 wd, .int .i64 hi, .slice a n c, .slice b m cc]) rfl (by kernel_rfl) (by kernel_rfl) (by kernel_rfl) (fun _ _ _ h => h) (Or.inl ⟨by rfl, ?_⟩) hHeld ?_
  · intro w' hSw
    obtain ⟨sm0, sm1, sm2, sm3, sm4, sm5⟩ := hSw
    go_simp
  try simp only [List.getElem_toArray, List.getElem_cons_succ, List.getElem_cons_zero, Act.put, List.setIfInBounds_toArray, List.set_cons_zero, List.set_cons_succ]
  refine wpAnyH_ready (rs := [3]) (by kernel_rfl) (by simp) ?_
  refine AllReadyH.cons rfl (fun K hK => ?_) AllReadyH.nil
  go_simp
  refine (HSR.out _ Md.out.i4 Md.out.i5).mono ?_
  rintro e v3 ⟨rfl, b3⟩
  have M3 : Hid (PB v3 M k d wd hi a n c cs b m cc ps) := Md.out.kept b3
  have B3 : Hid (Below w.heap.size w v3) := Bd.out.trans (b3.mono Bd.out.size)
  obtain ⟨mc30, mc31, mc32, mc33, mc34, mc35⟩ := M3.out.box
  refine hK.out _ _ ⟨mc30, mc31, mc32, mc33, mc34, mc35⟩ (fun hHeld => ?_)
  clear hK K
  try simp only [List.getElem_toArray, List.getElem_cons_succ, List.getElem_cons_zero, Act.put, List.setIfInBounds_toArray, List.set_cons_zero, List.set_cons_succ]
  refine wpAnyH_take (i := 4) (v := .bool false) rfl (by kernel_rfl) (by kernel_rfl) (by kernel_rfl) (fun _ _ _ h => h) (Or.inl ⟨by rfl, ?_⟩) hHeld ?_
  · intro w' hSw
    obtain ⟨sm0, sm1, sm2, sm3, sm4, sm5⟩ := hSw
    go_simp
  try simp only [List.getElem_toArray, List.getElem_cons_succ, List.getElem_cons_zero, Act.put, List.setIfInBounds_toArray, List.set_cons_zero, List.set_cons_succ]
  refine wpAnyH_take (i := 5) (v := .bool false) rfl (by kernel_rfl) (by kernel_rfl) (by kernel_rfl) (fun _ _ _ h => h) (Or.inl ⟨by rfl, ?_⟩) hHeld ?_
  · intro w' hSw
    obtain ⟨sm0, sm1, sm2, sm3, sm4, sm5⟩ := hSw
    go_simp
  try simp only [List.getElem_toArray, List.getElem_cons_succ, List.getElem_cons_zero, Act.put, List.setIfInBounds_toArray, List.set_cons_zero, List.set_cons_succ]
  refine wpAnyH_take (i := 6) (v := .agg #[.int .i64 k, .int .i64 d, .int .i64 wd, .int .i64 hi, .slice a n c, .slice b m cc]) rfl (by kernel_rfl) (by kernel_rfl) (by kernel_rfl) (fun _ _ _ h => h) (Or.inl ⟨by rfl, ?_⟩) hHeld ?_
  · intro w' hSw
    obtain ⟨sm0, sm1, sm2, sm3, sm4, sm5⟩ := hSw
    go_simp
  try simp only [List.getElem_toArray, List.getElem_cons_succ, List.getElem_cons_zero, Act.put, List.setIfInBounds_toArray, List.set_cons_zero, List.set_cons_succ]
  refine wpAnyH_take (i := 8) (v := .agg #[.int .i64 k, .int .i64 d, .int .i64 wd, .int .i64 hi, .slice a n c, .slice b m cc]) rfl (by kernel_rfl) (by kernel_rfl) (by kernel_rfl) (fun _ _ _ h => h) (Or.inl ⟨by rfl, ?_⟩) hHeld ?_
  · intro w' hSw
    obtain ⟨sm0, sm1, sm2, sm3, sm4, sm5⟩ := hSw
    go_simp
  try simp only [List.getElem_toArray, List.getElem_cons_succ, List.getElem_cons_zero, Act.put, List.setIfInBounds_toArray, List.set_cons_zero, List.set_cons_succ]
  refine wpAnyH_ready (rs := [7]) (by kernel_rfl) (by simp) ?_
  refine AllReadyH.cons rfl (fun K hK => ?_) AllReadyH.nil
  go_simp
  refine (HOI.out _ M3.out.i4 M3.out.i5).mono ?_
  rintro e v4 ⟨rfl, b4⟩
  have M4 : Hid (PB v4 M k d wd hi a n c cs b m cc ps) := M3.out.kept b4
  have B4 : Hid (Below w.heap.size w v4) := B3.out.trans (b4.mono B3.out.size)
  obtain ⟨mc40, mc41, mc42, mc43, mc44, mc45⟩ := M4.out.box
  refine hK.out _ _ ⟨mc40, mc41, mc42, mc43, mc44, mc45⟩ (fun hHeld => ?_)
  clear hK K
  try simp only [List.getElem_toArray, List.getElem_cons_succ, List.getElem_cons_zero, Act.put, List.setIfInBounds_toArray, List.set_cons_zero, List.set_cons_succ]
  refine wpAnyH_ready (rs := [9]) (by kernel_rfl) (by simp) ?_
  refine AllReadyH.cons rfl (fun K hK => ?_) AllReadyH.nil
  go_simp
  refine (HOS.out _ M4.out.i4 M4.out.i5).mono ?_
  rintro e v5 ⟨rfl, b5⟩
  have M5 : Hid (PB v5 M k d wd hi a n c cs b m cc ps) := M4.out.kept b5
  have B5 : Hid (Below w.heap.size w v5) := B4.out.trans (b5.mono B4.out.size)
  obtain ⟨mc50, mc51, mc52, mc53, mc54, mc55⟩ := M5.out.box
  refine hK.out _ _ ⟨mc50, mc51, mc52, mc53, mc54, mc55⟩ (fun hHeld => ?_)
  clear hK K
  try simp only [List.getElem_toArray, List.getElem_cons_succ, List.getElem_cons_zero, Act.put, List.setIfInBounds_toArray, List.set_cons_zero, List.set_cons_succ]
  refine wpAnyH_take (i := 10) (v := .bool false) rfl (by kernel_rfl) (by kernel_rfl) (by kernel_rfl) (fun _ _ _ h => h) (Or.inl ⟨by rfl, ?_⟩) hHeld ?_
  · intro w' hSw
    obtain ⟨sm0, sm1, sm2, sm3, sm4, sm5⟩ := hSw
    go_simp
  try simp only [List.getElem_toArray, List.getElem_cons_succ, List.getElem_cons_zero, Act.put, List.setIfInBounds_toArray, List.set_cons_zero, List.set_cons_succ]
  refine wpAnyH_take (i := 11) (v := .bool false) rfl (by kernel_rfl) (by kernel_rfl) (by kernel_rfl) (fun _ _ _ h => h) (Or.inl ⟨by rfl, ?_⟩) hHeld ?_
  · intro w' hSw
    obtain ⟨sm0, sm1, sm2, sm3, sm4, sm5⟩ := hSw
    go_simp
  try simp only [List.getElem_toArray, List.getElem_cons_succ, List.getElem_cons_zero, Act.put, List.setIfInBounds_toArray, List.set_cons_zero, List.set_cons_succ]
  refine wpAnyH_done (by kernel_rfl) ?_ _
  try simp only [List.getElem_toArray, List.getElem_cons_succ, List.getElem_cons_zero, Act.put, List.setIfInBounds_toArray, List.set_cons_zero, List.set_cons_succ]
  clear hHeld b3 b4 b5 Md Bd M2 B3 M3 M4 HSR HOI m20 m21 m22 m23 m24 m25 mc30 mc31 mc32 mc33 mc34 mc35 mc40 mc41 mc42 mc43 mc44 mc45
  go_wp2_with fail
  refine (HOS.out _ M5.out.i4 M5.out.i5).mono ?_
  rintro e w6 ⟨rfl, b6⟩
  have M6 : Hid (PB w6 M k d wd hi a n c cs b m cc ps) := M5.out.kept b6
  have B6 : Hid (Below w.heap.size w w6) := B5.out.trans (b6.mono B5.out.size)
  clear b6 M5 B5 HOS mc50 mc51 mc52 mc53 mc54 mc55
  obtain ⟨ho, hr⟩ := HO.out
  cases hoo : o with
  | false =>
    have hrf : r = false := by rw [hr, hoo]; rfl
    subst hrf
    clear hr ho HO
    subst hoo
    go_wp2_with fail
    go_ret
    exact ⟨rfl, B6.out⟩
  | true =>
    have hok : Im.okB k d wd hi cs ps = true := by rw [← ho]; exact hoo
    have hrr : r = repB f k d n := by rw [hr, hoo]; rfl
    clear hr ho HO
    subst hoo
    obtain ⟨_, hw, hh, _, hmm, _⟩ := ok_open hok
    obtain ⟨l4, n4, l5, n5⟩ := HL.out
    obtain ⟨Wd, rfl⟩ := Int.eq_ofNat_of_zero_le (show 0 ≤ wd by omega)
    obtain ⟨Hi, rfl⟩ := Int.eq_ofNat_of_zero_le (show 0 ≤ hi by omega)
    have HI1 : Hid (∀ w1 : World, Ints w1 a cs → Ints w1 b ps → Calls Tryz.prog 5 #[.int .i64 1, .agg #[.int .i64 k, .int .i64 d, .int .i64 (Wd : Int), .int .i64 (Hi : Int), .slice a n c, .slice b m cc]] w1 fun e w' => e = .returned (.bool true) ∧ Below w1.heap.size w1 w') := fun w1 g1 g2 => by
      have h := impl_rep_ints 1 (k := k) (d := d) (wd := (Wd : Int)) (hi := (Hi : Int)) (c := c) (cc := cc) g1 l4 (by omega) g2 l5 (by omega)
      rw [hok] at h
      exact h
    have HFL : Hid (∀ w1 : World, Ints w1 a cs → Ints w1 b ps → Calls Tryz.prog 9 #[.agg #[.int .i64 k, .int .i64 d, .int .i64 (Wd : Int), .int .i64 (Hi : Int), .slice a n c, .slice b m cc]] w1 fun e w' => (∃ x cx y cy, e = .returned (.agg #[.int .i64 k, .int .i64 d, .int .i64 (Wd : Int), .int .i64 (Hi : Int), .slice x n cx, .slice y m cy]) ∧ Ints w' x cs ∧ Ints w' y (flipL Wd Hi ps)) ∧ Below w1.heap.size w1 w') := fun w1 g1 g2 => implFlip_ok k d Wd Hi a n c b m cc cs ps w1 g1 l4 n4 g2 l5 hok
    have HTU : Hid (∀ w1 : World, Ints w1 a cs → Ints w1 b ps → Calls Tryz.prog 10 #[.agg #[.int .i64 k, .int .i64 d, .int .i64 (Wd : Int), .int .i64 (Hi : Int), .slice a n c, .slice b m cc]] w1 fun e w' => (∃ x cx y cy, e = .returned (.agg #[.int .i64 k, .int .i64 d, .int .i64 (Hi : Int), .int .i64 (Wd : Int), .slice x n cx, .slice y m cy]) ∧ Ints w' x cs ∧ Ints w' y (turnL Wd Hi ps)) ∧ Below w1.heap.size w1 w') := fun w1 g1 g2 => implTurn_ok k d Wd Hi a n c b m cc cs ps w1 g1 l4 n4 g2 l5 hok
    have hWH : ((Wd * Hi : Nat) : Int) = (Wd : Int) * (Hi : Int) := by simp
    have hm : m = Wd * Hi := by omega
    have lf : (flipL Wd Hi ps).length = m := by rw [flipL_len, hm]
    have lt : (turnL Wd Hi ps).length = m := by rw [turnL_len, hm, Nat.mul_comm]
    have HIF : Hid (∀ (x : Option Addr) (cx : Nat) (y : Option Addr) (cy : Nat) (w1 : World), Ints w1 x cs → Ints w1 y (flipL Wd Hi ps) → Calls Tryz.prog 5 #[.int .i64 f, .agg #[.int .i64 k, .int .i64 d, .int .i64 (Wd : Int), .int .i64 (Hi : Int), .slice x n cx, .slice y m cy]] w1 fun e w' => e = .returned (.bool r) ∧ Below w1.heap.size w1 w') := fun x cx y cy w1 g1 g2 => by
      have h := impl_rep_ints f (k := k) (d := d) (wd := (Wd : Int)) (hi := (Hi : Int)) (c := cx) (cc := cy) g1 l4 (by omega) g2 lf (by omega)
      rw [ok_flip hok, Bool.true_and, ← hrr] at h
      exact h
    have HIT : Hid (∀ (x : Option Addr) (cx : Nat) (y : Option Addr) (cy : Nat) (w1 : World), Ints w1 x cs → Ints w1 y (turnL Wd Hi ps) → Calls Tryz.prog 5 #[.int .i64 f, .agg #[.int .i64 k, .int .i64 d, .int .i64 (Hi : Int), .int .i64 (Wd : Int), .slice x n cx, .slice y m cy]] w1 fun e w' => e = .returned (.bool r) ∧ Below w1.heap.size w1 w') := fun x cx y cy w1 g1 g2 => by
      have h := impl_rep_ints f (k := k) (d := d) (wd := (Hi : Int)) (hi := (Wd : Int)) (c := cx) (cc := cy) g1 l4 (by omega) g2 lt (by omega)
      rw [ok_turn hok, Bool.true_and, ← hrr] at h
      exact h
    have hrr2 : (r == r) = true := by simp
    clear hrr hok hw hh hmm lf lt hm hWH
    obtain ⟨m60, m61, m62, m63, m64, m65⟩ := M6.out.box
    go_wp2_with fail
    refine (HI1.out _ M6.out.i4 M6.out.i5).mono ?_
    rintro e w7 ⟨rfl, b7⟩
    have M7 : Hid (PB w7 M k d (Wd : Int) (Hi : Int) a n c cs b m cc ps) := M6.out.kept b7
    have B7 : Hid (Below w.heap.size w w7) := B6.out.trans (b7.mono B6.out.size)
    clear b7 M6 B6 HI1 m60 m61 m62 m63 m64 m65
    obtain ⟨m70, m71, m72, m73, m74, m75⟩ := M7.out.box
    go_wp2_with fail
    refine (HFL.out _ M7.out.i4 M7.out.i5).mono ?_
    rintro e w8 ⟨⟨x, cx, y, cy, rfl, gx, gy⟩, b8⟩
    have M8 : Hid (PB w8 M k d (Wd : Int) (Hi : Int) a n c cs b m cc ps) := M7.out.kept b8
    have B8 : Hid (Below w.heap.size w w8) := B7.out.trans (b8.mono B7.out.size)
    clear b8 M7 B7 HFL m70 m71 m72 m73 m74 m75
    go_wp2_with fail
    refine (HIF.out _ _ _ _ _ gx gy).mono ?_
    rintro e w9 ⟨rfl, b9⟩
    have M9 : Hid (PB w9 M k d (Wd : Int) (Hi : Int) a n c cs b m cc ps) := M8.out.kept b9
    have B9 : Hid (Below w.heap.size w w9) := B8.out.trans (b9.mono B8.out.size)
    clear b9 M8 B8 HIF gx gy
    obtain ⟨m90, m91, m92, m93, m94, m95⟩ := M9.out.box
    go_wp2_with fail
    refine (HTU.out _ M9.out.i4 M9.out.i5).mono ?_
    rintro e w10 ⟨⟨x, cx, y, cy, rfl, gx, gy⟩, b10⟩
    have B10 : Hid (Below w.heap.size w w10) := B9.out.trans (b10.mono B9.out.size)
    clear b10 M9 B9 HTU m90 m91 m92 m93 m94 m95
    go_wp2_with fail
    refine (HIT.out _ _ _ _ _ gx gy).mono ?_
    rintro e w11 ⟨rfl, b11⟩
    have B11 : Hid (Below w.heap.size w w11) := B10.out.trans (b11.mono B10.out.size)
    clear b11 B10 HIT gx gy
    go_wp2_with fail
    go_ret
    exact ⟨rfl, B11.out⟩
end Go.Proofs.YteldjmocbbbinaaGreatDoor
