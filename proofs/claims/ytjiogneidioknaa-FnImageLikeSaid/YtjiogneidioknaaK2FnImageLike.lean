/- Texts laid together: LawImageLike. -/
import Derived.Test.YtjiogneidioknaaK1FnImageLike
/- The law on pictures that look the same, walked. -/
namespace Go.Proofs.Ytjiogneidioknaa
open Go.RowKit

set_option linter.unusedSimpArgs false in
set_option maxHeartbeats 8000000 in
set_option maxRecDepth 20000 in
theorem lawImageLike (ra : Option Addr) (len cap : Nat) (w : World) (h : Code8 w ra len cap) :
    Calls Try.prog 4 #[.slice ra len cap] w fun e w' => e = .returned (.bool true) ∧ Below w.heap.size w w' := by
  by_cases hbig : 1048576 < len
  · have hc := h.2.1
    have hc1 := h.1
    unfold maxLen at hc
    clear h
    go_enter Try.func4, Try.ntmps4
    go_wp2_with fail
    go_ret
    exact ⟨rfl, Below.refl _ _⟩
  · go_enter Try.func4, Try.ntmps4
    go_wp2_with fail
    refine (drawImageLike_any ra len cap w h).mono ?_
    rintro e w1 ⟨⟨p, q, rfl, ⟨k, d, wd, hi, a, n, c, cs, b, m, cc, ps, rfl, i4, l4, l4', i5, l5, l5'⟩, ⟨k2, d2, wd2, hi2, aa, nn, ca, cs2, bb, mm, cb, ps2, rfl, j4, g4, g4', j5, g5, g5'⟩⟩, b1⟩
    clear h
    obtain ⟨lk, hlk⟩ : ∃ lk, lk = likeB k d wd hi cs ps k2 d2 wd2 hi2 cs2 ps2 := ⟨_, rfl⟩
    obtain ⟨ok, hok⟩ : ∃ ok, ok = Im.okB k d wd hi cs ps := ⟨_, rfl⟩
    obtain ⟨r1, hr1⟩ : ∃ r, r = rgB k d wd hi cs ps := ⟨_, rfl⟩
    obtain ⟨r2, hr2⟩ : ∃ r, r = rgB k2 d2 wd2 hi2 cs2 ps2 := ⟨_, rfl⟩
    obtain ⟨L1, hL1⟩ : ∃ L, L = rgL k d wd hi cs ps := ⟨_, rfl⟩
    obtain ⟨L2, hL2⟩ : ∃ L, L = rgL k2 d2 wd2 hi2 cs2 ps2 := ⟨_, rfl⟩
    obtain ⟨LX, hLX⟩ : ∃ L, L = L1.length := ⟨_, rfl⟩
    obtain ⟨LY, hLY⟩ : ∃ L, L = L2.length := ⟨_, rfl⟩
    obtain ⟨X0, hX0⟩ : ∃ z, z = rgK k d wd hi cs ps 2 := ⟨_, rfl⟩
    obtain ⟨X1, hX1⟩ : ∃ z, z = rgK k d wd hi cs ps 24 := ⟨_, rfl⟩
    obtain ⟨X2, hX2⟩ : ∃ z, z = rgK k d wd hi cs ps wd := ⟨_, rfl⟩
    obtain ⟨X3, hX3⟩ : ∃ z, z = rgK k d wd hi cs ps hi := ⟨_, rfl⟩
    obtain ⟨Y0, hY0⟩ : ∃ z, z = rgK k2 d2 wd2 hi2 cs2 ps2 2 := ⟨_, rfl⟩
    obtain ⟨Y1, hY1⟩ : ∃ z, z = rgK k2 d2 wd2 hi2 cs2 ps2 24 := ⟨_, rfl⟩
    obtain ⟨Y2, hY2⟩ : ∃ z, z = rgK k2 d2 wd2 hi2 cs2 ps2 wd2 := ⟨_, rfl⟩
    obtain ⟨Y3, hY3⟩ : ∃ z, z = rgK k2 d2 wd2 hi2 cs2 ps2 hi2 := ⟨_, rfl⟩
    have HAB : Hid (∀ w1 : World, Ints w1 a cs → Ints w1 b ps → Ints w1 aa cs2 → Ints w1 bb ps2 → Calls Try.prog 14 #[.agg #[.int .i64 k, .int .i64 d, .int .i64 wd, .int .i64 hi, .slice a n c, .slice b m cc], .agg #[.int .i64 k2, .int .i64 d2, .int .i64 wd2, .int .i64 hi2, .slice aa nn ca, .slice bb mm cb]] w1 fun e w' => e = .returned (.bool lk) ∧ Below w1.heap.size w1 w') := fun w1 g1 g2 g3 g4' => by
      rw [hlk]; exact impl_like k d wd hi a n c b m cc k2 d2 wd2 hi2 aa nn ca bb mm cb cs ps cs2 ps2 w1 g1 l4 (by omega) g2 l5 (by omega) g3 g4 (by omega) g4' g5 (by omega)
    have HSB : Hid (∀ w1 : World, Ints w1 a cs → Ints w1 b ps → Ints w1 aa cs2 → Ints w1 bb ps2 → Calls Try.prog 15 #[.agg #[.int .i64 k, .int .i64 d, .int .i64 wd, .int .i64 hi, .slice a n c, .slice b m cc], .agg #[.int .i64 k2, .int .i64 d2, .int .i64 wd2, .int .i64 hi2, .slice aa nn ca, .slice bb mm cb]] w1 fun e w' => e = .returned (.bool lk) ∧ Below w1.heap.size w1 w') := fun w1 g1 g2 g3 g4' => by
      rw [hlk]; exact spec_like k d wd hi a n c b m cc k2 d2 wd2 hi2 aa nn ca bb mm cb cs ps cs2 ps2 w1 g1 l4 (by omega) g2 l5 (by omega) g3 g4 (by omega) g4' g5 (by omega)
    have HBA : Hid (∀ w1 : World, Ints w1 a cs → Ints w1 b ps → Ints w1 aa cs2 → Ints w1 bb ps2 → Calls Try.prog 14 #[.agg #[.int .i64 k2, .int .i64 d2, .int .i64 wd2, .int .i64 hi2, .slice aa nn ca, .slice bb mm cb], .agg #[.int .i64 k, .int .i64 d, .int .i64 wd, .int .i64 hi, .slice a n c, .slice b m cc]] w1 fun e w' => e = .returned (.bool lk) ∧ Below w1.heap.size w1 w') := fun w1 g1 g2 g3 g4' => by
      rw [hlk, like_sym]; exact impl_like k2 d2 wd2 hi2 aa nn ca bb mm cb k d wd hi a n c b m cc cs2 ps2 cs ps w1 g3 g4 (by omega) g4' g5 (by omega) g1 l4 (by omega) g2 l5 (by omega)
    have HAA : Hid (∀ w1 : World, Ints w1 a cs → Ints w1 b ps → Calls Try.prog 14 #[.agg #[.int .i64 k, .int .i64 d, .int .i64 wd, .int .i64 hi, .slice a n c, .slice b m cc], .agg #[.int .i64 k, .int .i64 d, .int .i64 wd, .int .i64 hi, .slice a n c, .slice b m cc]] w1 fun e w' => e = .returned (.bool ok) ∧ Below w1.heap.size w1 w') := fun w1 g1 g2 => by
      rw [hok, ← like_self]; exact impl_like k d wd hi a n c b m cc k d wd hi a n c b m cc cs ps cs ps w1 g1 l4 (by omega) g2 l5 (by omega) g1 l4 (by omega) g2 l5 (by omega)
    have HOI : Hid (∀ w1 : World, Ints w1 a cs → Ints w1 b ps → Calls Try.prog 16 #[.agg #[.int .i64 k, .int .i64 d, .int .i64 wd, .int .i64 hi, .slice a n c, .slice b m cc]] w1 fun e w' => e = .returned (.bool ok) ∧ Below w1.heap.size w1 w') := fun w1 g1 g2 => by
      rw [hok]; exact impl_imageOk k d wd hi a n c b m cc w1 cs ps g1 l4 (by omega) g2 l5 (by omega)
    have HOS : Hid (∀ w1 : World, Ints w1 a cs → Ints w1 b ps → Calls Try.prog 17 #[.agg #[.int .i64 k, .int .i64 d, .int .i64 wd, .int .i64 hi, .slice a n c, .slice b m cc]] w1 fun e w' => e = .returned (.bool ok) ∧ Below w1.heap.size w1 w') := fun w1 g1 g2 => by
      rw [hok]; exact spec_imageOk k d wd hi a n c b m cc w1 cs ps g1 l4 (by omega) g2 l5
    have HRA : Hid (∀ w1 : World, Ints w1 a cs → Ints w1 b ps → Calls Try.prog 18 #[.agg #[.int .i64 k, .int .i64 d, .int .i64 wd, .int .i64 hi, .slice a n c, .slice b m cc]] w1 fun e w' => (∃ x cx y cy, e = .returned (.tuple #[.agg #[.int .i64 X0, .int .i64 X1, .int .i64 X2, .int .i64 X3, .slice x 0 cx, .slice y LX cy], .bool r1]) ∧ Ints w' x [] ∧ Ints w' y L1) ∧ Below w1.heap.size w1 w') := fun w1 g1 g2 => by
      refine (impl_rgb k d wd hi a n c b m cc cs ps w1 g1 l4 (by omega) g2 l5 (by omega)).mono ?_
      rintro e w' ⟨⟨x, cx, y, cy, rfl, hP⟩, b⟩
      refine ⟨⟨x, cx, y, cy, ?_, ?_⟩, b⟩
      · rw [hX0, hX1, hX2, hX3, hr1, hLX, hL1]
      · rw [hL1]; exact pair_ints hP
    have HRB : Hid (∀ w1 : World, Ints w1 aa cs2 → Ints w1 bb ps2 → Calls Try.prog 18 #[.agg #[.int .i64 k2, .int .i64 d2, .int .i64 wd2, .int .i64 hi2, .slice aa nn ca, .slice bb mm cb]] w1 fun e w' => (∃ x cx y cy, e = .returned (.tuple #[.agg #[.int .i64 Y0, .int .i64 Y1, .int .i64 Y2, .int .i64 Y3, .slice x 0 cx, .slice y LY cy], .bool r2]) ∧ Ints w' x [] ∧ Ints w' y L2) ∧ Below w1.heap.size w1 w') := fun w1 g1 g2 => by
      refine (impl_rgb k2 d2 wd2 hi2 aa nn ca bb mm cb cs2 ps2 w1 g1 g4 (by omega) g2 g5 (by omega)).mono ?_
      rintro e w' ⟨⟨x, cx, y, cy, rfl, hP⟩, b⟩
      refine ⟨⟨x, cx, y, cy, ?_, ?_⟩, b⟩
      · rw [hY0, hY1, hY2, hY3, hr2, hLY, hL2]
      · rw [hL2]; exact pair_ints hP
    have HWI : Hid (r1 = true → r2 = true → ∀ (x : Option Addr) (cx : Nat) (y : Option Addr) (cy : Nat) (x2 : Option Addr) (cx2 : Nat) (y2 : Option Addr) (cy2 : Nat) (w1 : World), Ints w1 x [] → Ints w1 y L1 → Ints w1 x2 [] → Ints w1 y2 L2 → Calls Try.prog 20 #[.agg #[.int .i64 X0, .int .i64 X1, .int .i64 X2, .int .i64 X3, .slice x 0 cx, .slice y LX cy], .agg #[.int .i64 Y0, .int .i64 Y1, .int .i64 Y2, .int .i64 Y3, .slice x2 0 cx2, .slice y2 LY cy2]] w1 fun e w' => e = .returned (.bool lk) ∧ Below w1.heap.size w1 w') := fun e1 e2 x cx y cy x2 cx2 y2 cy2 w1 g1 g2 g3 g4' => by
      have hB1 : rgB k d wd hi cs ps = true := by rw [← hr1]; exact e1
      have hB2 : rgB k2 d2 wd2 hi2 cs2 ps2 = true := by rw [← hr2]; exact e2
      have K1 : ∀ v, rgK k d wd hi cs ps v = v := fun v => by unfold rgK; rw [hB1]; rfl
      have K2 : ∀ v, rgK k2 d2 wd2 hi2 cs2 ps2 v = v := fun v => by unfold rgK; rw [hB2]; rfl
      rw [hL1] at g2
      rw [hL2] at g4'
      rw [hX0, hX1, hX2, hX3, hY0, hY1, hY2, hY3, K1, K1, K1, K1, K2, K2, K2, K2, hLX, hLY, hL1, hL2, hlk]
      exact wi_like hB1 hB2 x cx y cy x2 cx2 y2 cy2 w1 g1 g2 g3 g4'
    have HFK : Hid (lk = true → ∃ PF QF : List Int, (∀ w1 : World, Ints w1 a cs → Ints w1 b ps → Calls Try.prog 19 #[.agg #[.int .i64 k, .int .i64 d, .int .i64 wd, .int .i64 hi, .slice a n c, .slice b m cc]] w1 fun e w' => (∃ fx fcx fy fcy, e = .returned (.agg #[.int .i64 k, .int .i64 d, .int .i64 wd, .int .i64 hi, .slice fx n fcx, .slice fy m fcy]) ∧ Ints w' fx cs ∧ Ints w' fy PF) ∧ Below w1.heap.size w1 w') ∧ (∀ w1 : World, Ints w1 aa cs2 → Ints w1 bb ps2 → Calls Try.prog 19 #[.agg #[.int .i64 k2, .int .i64 d2, .int .i64 wd2, .int .i64 hi2, .slice aa nn ca, .slice bb mm cb]] w1 fun e w' => (∃ fx2 fcx2 fy2 fcy2, e = .returned (.agg #[.int .i64 k2, .int .i64 d2, .int .i64 wd2, .int .i64 hi2, .slice fx2 nn fcx2, .slice fy2 mm fcy2]) ∧ Ints w' fx2 cs2 ∧ Ints w' fy2 QF) ∧ Below w1.heap.size w1 w') ∧ (∀ (fx : Option Addr) (fcx : Nat) (fy : Option Addr) (fcy : Nat) (fx2 : Option Addr) (fcx2 : Nat) (fy2 : Option Addr) (fcy2 : Nat) (w1 : World), Ints w1 fx cs → Ints w1 fy PF → Ints w1 fx2 cs2 → Ints w1 fy2 QF → Calls Try.prog 14 #[.agg #[.int .i64 k, .int .i64 d, .int .i64 wd, .int .i64 hi, .slice fx n fcx, .slice fy m fcy], .agg #[.int .i64 k2, .int .i64 d2, .int .i64 wd2, .int .i64 hi2, .slice fx2 nn fcx2, .slice fy2 mm fcy2]] w1 fun e w' => e = .returned (.bool true) ∧ Below w1.heap.size w1 w')) := fun e1 => by
      rw [hlk] at e1
      obtain ⟨Wd, Hi, D, D2, rfl, rfl, rfl, rfl, rfl, rfl, o1, o2, hcol, p1, p2⟩ := like_open e1
      refine ⟨flipL Wd Hi ps, flipL Wd Hi ps2, fun w1 g1 g2 => implFlip_ok k D Wd Hi a n c b m cc cs ps w1 g1 l4 l4' g2 l5 o1, fun w1 g1 g2 => implFlip_ok k2 D2 Wd Hi aa nn ca bb mm cb cs2 ps2 w1 g1 g4 g4' g2 g5 o2, fun fx fcx fy fcy fx2 fcx2 fy2 fcy2 w1 g1 g2 g3 g6 => ?_⟩
      have h := impl_like k D Wd Hi fx n fcx fy m fcy k2 D2 Wd Hi fx2 nn fcx2 fy2 mm fcy2 cs (flipL Wd Hi ps) cs2 (flipL Wd Hi ps2) w1 g1 l4 (by omega) g2 (by rw [flipL_len, ← p1, l5]) (by omega) g3 g4 (by omega) g6 (by rw [flipL_len, ← p2, g5]) (by omega)
      rw [like_flip o1 o2 hcol p1 p2] at h
      exact h
    have M1 : Hid (PB ((w1.alloc (.cells #[.int .i64 k, .int .i64 d, .int .i64 wd, .int .i64 hi, .slice a n c, .slice b m cc] 26)).alloc (.cells #[.int .i64 k2, .int .i64 d2, .int .i64 wd2, .int .i64 hi2, .slice aa nn ca, .slice bb mm cb] 26)) w1.heap.size k d wd hi a n c cs b m cc ps) := (pb_new i4.ints i5.ints).kept ((Below.refl _ _).alloc (Nat.le_refl _) _)
    have Q1 : Hid (PB ((w1.alloc (.cells #[.int .i64 k, .int .i64 d, .int .i64 wd, .int .i64 hi, .slice a n c, .slice b m cc] 26)).alloc (.cells #[.int .i64 k2, .int .i64 d2, .int .i64 wd2, .int .i64 hi2, .slice aa nn ca, .slice bb mm cb] 26)) (w1.heap.size + 1) k2 d2 wd2 hi2 aa nn ca cs2 bb mm cb ps2) := by
      have h1 := pb_new (w := w1.alloc (.cells #[.int .i64 k, .int .i64 d, .int .i64 wd, .int .i64 hi, .slice a n c, .slice b m cc] 26)) (k := k2) (d := d2) (wd := wd2) (hi := hi2) (n := nn) (c := ca) (m := mm) (cc := cb) (j4.ints.kept ((Below.refl _ _).alloc (Nat.le_refl _) _)) (j5.ints.kept ((Below.refl _ _).alloc (Nat.le_refl _) _))
      rw [World.size_alloc] at h1; exact h1
    have B1 : Hid (Below w.heap.size w ((w1.alloc (.cells #[.int .i64 k, .int .i64 d, .int .i64 wd, .int .i64 hi, .slice a n c, .slice b m cc] 26)).alloc (.cells #[.int .i64 k2, .int .i64 d2, .int .i64 wd2, .int .i64 hi2, .slice aa nn ca, .slice bb mm cb] 26))) := (b1.alloc b1.size _).alloc (by rw [World.size_alloc]; exact Nat.le_succ_of_le b1.size) _
    clear i4 i5 l4 l5 l4' l5' j4 j5 g4 g5 g4' g5' b1 hlk hok hr1 hr2 hL1 hL2 hLX hLY hX0 hX1 hX2 hX3 hY0 hY1 hY2 hY3
    go_upto_region 4 with fail
    generalize hW1 : (w1.alloc (.cells #[.int .i64 k, .int .i64 d, .int .i64 wd, .int .i64 hi, .slice a n c, .slice b m cc] 26)).alloc (.cells #[.int .i64 k2, .int .i64 d2, .int .i64 wd2, .int .i64 hi2, .slice aa nn ca, .slice bb mm cb] 26) = W1 at *
    clear hW1
    generalize w1.heap.size + 1 = QB at *
    generalize w1.heap.size = MB at *
    obtain ⟨m10, m11, m12, m13, m14, m15⟩ := M1.out.box
    obtain ⟨q10, q11, q12, q13, q14, q15⟩ := Q1.out.box
    go_wp2_with fail
    refine (HAB.out _ M1.out.i4 M1.out.i5 Q1.out.i4 Q1.out.i5).mono ?_
    rintro e w2 ⟨rfl, b2⟩
    have M2 : Hid (PB w2 MB k d wd hi a n c cs b m cc ps) := M1.out.kept b2
    have Q2 : Hid (PB w2 QB k2 d2 wd2 hi2 aa nn ca cs2 bb mm cb ps2) := Q1.out.kept b2
    have B2 : Hid (Below w.heap.size w w2) := B1.out.trans (b2.mono B1.out.size)
    clear b2 M1 Q1 B1 HAB m10 m11 m12 m13 m14 m15 q10 q11 q12 q13 q14 q15
    have Md : Hid (PB w2.drew MB k d wd hi a n c cs b m cc ps) := M2.out.kept (Below.refl _ _).drew
    have Qd : Hid (PB w2.drew QB k2 d2 wd2 hi2 aa nn ca cs2 bb mm cb ps2) := Q2.out.kept (Below.refl _ _).drew
    have Bd : Hid (Below w.heap.size w w2.drew) := B2.out.drew
    obtain ⟨m20, m21, m22, m23, m24, m25⟩ := M2.out.box
    obtain ⟨q20, q21, q22, q23, q24, q25⟩ := Q2.out.box
    go_wp2_with fail
    refine wp_region_held_drew (S := fun w' => w'.cell? ⟨MB, 0, none⟩ = some (.int .i64 k) ∧ w'.cell? ⟨MB, 1, none⟩ = some (.int .i64 d) ∧ w'.cell? ⟨MB, 2, none⟩ = some (.int .i64 wd) ∧ w'.cell? ⟨MB, 3, none⟩ = some (.int .i64 hi) ∧ w'.cell? ⟨MB, 4, none⟩ = some (.slice a n c) ∧ w'.cell? ⟨MB, 5, none⟩ = some (.slice b m cc) ∧ w'.cell? ⟨QB, 0, none⟩ = some (.int .i64 k2) ∧ w'.cell? ⟨QB, 1, none⟩ = some (.int .i64 d2) ∧ w'.cell? ⟨QB, 2, none⟩ = some (.int .i64 wd2) ∧ w'.cell? ⟨QB, 3, none⟩ = some (.int .i64 hi2) ∧ w'.cell? ⟨QB, 4, none⟩ = some (.slice aa nn ca) ∧ w'.cell? ⟨QB, 5, none⟩ = some (.slice bb mm cb)) (by kernel_rfl) ⟨m20, m21, m22, m23, m24, m25, q20, q21, q22, q23, q24, q25⟩ (fun hHeld => ?_)
    refine wpAnyH_take (i := 0) (v := .bool lk) rfl (by kernel_rfl) (by kernel_rfl) (by kernel_rfl) (fun _ _ _ h => h) (Or.inl ⟨by rfl, ?_⟩) hHeld ?_
    · intro w' hSw
      obtain ⟨sm0, sm1, sm2, sm3, sm4, sm5, sq0, sq1, sq2, sq3, sq4, sq5⟩ := hSw
      go_simp
    try simp only [List.getElem_toArray, List.getElem_cons_succ, List.getElem_cons_zero, Act.put, List.setIfInBounds_toArray, List.set_cons_zero, List.set_cons_succ]
    refine wpAnyH_take (i := 1) (v := .agg #[.int .i64 k, .int .i64 d, .int .i64 wd, .int .i64 hi, .slice a n c, .slice b m cc]) rfl (by kernel_rfl) (by kernel_rfl) (by kernel_rfl) (fun _ _ _ h => h) (Or.inl ⟨by rfl, ?_⟩) hHeld ?_
    · intro w' hSw
      obtain ⟨sm0, sm1, sm2, sm3, sm4, sm5, sq0, sq1, sq2, sq3, sq4, sq5⟩ := hSw
      go_simp
    try simp only [List.getElem_toArray, List.getElem_cons_succ, List.getElem_cons_zero, Act.put, List.setIfInBounds_toArray, List.set_cons_zero, List.set_cons_succ]
    refine wpAnyH_take (i := 2) (v := .agg #[.int .i64 k2, .int .i64 d2, .int .i64 wd2, .int .i64 hi2, .slice aa nn ca, .slice bb mm cb]) rfl (by kernel_rfl) (by kernel_rfl) (by kernel_rfl) (fun _ _ _ h => h) (Or.inl ⟨by rfl, ?_⟩) hHeld ?_
    · intro w' hSw
      obtain ⟨sm0, sm1, sm2, sm3, sm4, sm5, sq0, sq1, sq2, sq3, sq4, sq5⟩ := hSw
      go_simp
    try simp only [List.getElem_toArray, List.getElem_cons_succ, List.getElem_cons_zero, Act.put, List.setIfInBounds_toArray, List.set_cons_zero, List.set_cons_succ]
    refine wpAnyH_ready (rs := [3]) (by kernel_rfl) (by simp) ?_
    refine AllReadyH.cons rfl (fun K hK => ?_) AllReadyH.nil
    go_simp
    refine (HSB.out _ Md.out.i4 Md.out.i5 Qd.out.i4 Qd.out.i5).mono ?_
    rintro e v3 ⟨rfl, b3⟩
    have M3 : Hid (PB v3 MB k d wd hi a n c cs b m cc ps) := Md.out.kept b3
    have Q3 : Hid (PB v3 QB k2 d2 wd2 hi2 aa nn ca cs2 bb mm cb ps2) := Qd.out.kept b3
    have B3 : Hid (Below w.heap.size w v3) := Bd.out.trans (b3.mono Bd.out.size)
    obtain ⟨mc30, mc31, mc32, mc33, mc34, mc35⟩ := M3.out.box
    obtain ⟨qc30, qc31, qc32, qc33, qc34, qc35⟩ := Q3.out.box
    refine hK.out _ _ ⟨mc30, mc31, mc32, mc33, mc34, mc35, qc30, qc31, qc32, qc33, qc34, qc35⟩ (fun hHeld => ?_)
    clear hK K
    try simp only [List.getElem_toArray, List.getElem_cons_succ, List.getElem_cons_zero, Act.put, List.setIfInBounds_toArray, List.set_cons_zero, List.set_cons_succ]
    refine wpAnyH_take (i := 4) (v := .bool false) rfl (by kernel_rfl) (by kernel_rfl) (by kernel_rfl) (fun _ _ _ h => h) (Or.inl ⟨by rfl, ?_⟩) hHeld ?_
    · intro w' hSw
      obtain ⟨sm0, sm1, sm2, sm3, sm4, sm5, sq0, sq1, sq2, sq3, sq4, sq5⟩ := hSw
      go_simp
    try simp only [List.getElem_toArray, List.getElem_cons_succ, List.getElem_cons_zero, Act.put, List.setIfInBounds_toArray, List.set_cons_zero, List.set_cons_succ]
    refine wpAnyH_take (i := 5) (v := .bool false) rfl (by kernel_rfl) (by kernel_rfl) (by kernel_rfl) (fun _ _ _ h => h) (Or.inl ⟨by rfl, ?_⟩) hHeld ?_
    · intro w' hSw
      obtain ⟨sm0, sm1, sm2, sm3, sm4, sm5, sq0, sq1, sq2, sq3, sq4, sq5⟩ := hSw
      go_simp
    try simp only [List.getElem_toArray, List.getElem_cons_succ, List.getElem_cons_zero, Act.put, List.setIfInBounds_toArray, List.set_cons_zero, List.set_cons_succ]
    refine wpAnyH_take (i := 6) (v := .bool lk) rfl (by kernel_rfl) (by kernel_rfl) (by kernel_rfl) (fun _ _ _ h => h) (Or.inl ⟨by rfl, ?_⟩) hHeld ?_
    · intro w' hSw
      obtain ⟨sm0, sm1, sm2, sm3, sm4, sm5, sq0, sq1, sq2, sq3, sq4, sq5⟩ := hSw
      go_simp
    try simp only [List.getElem_toArray, List.getElem_cons_succ, List.getElem_cons_zero, Act.put, List.setIfInBounds_toArray, List.set_cons_zero, List.set_cons_succ]
    refine wpAnyH_take (i := 7) (v := .agg #[.int .i64 k2, .int .i64 d2, .int .i64 wd2, .int .i64 hi2, .slice aa nn ca, .slice bb mm cb]) rfl (by kernel_rfl) (by kernel_rfl) (by kernel_rfl) (fun _ _ _ h => h) (Or.inl ⟨by rfl, ?_⟩) hHeld ?_
    · intro w' hSw
      obtain ⟨sm0, sm1, sm2, sm3, sm4, sm5, sq0, sq1, sq2, sq3, sq4, sq5⟩ := hSw
      go_simp
    try simp only [List.getElem_toArray, List.getElem_cons_succ, List.getElem_cons_zero, Act.put, List.setIfInBounds_toArray, List.set_cons_zero, List.set_cons_succ]
    refine wpAnyH_take (i := 8) (v := .agg #[.int .i64 k, .int .i64 d, .int .i64 wd, .int .i64 hi, .slice a n c, .slice b m cc]) rfl (by kernel_rfl) (by kernel_rfl) (by kernel_rfl) (fun _ _ _ h => h) (Or.inl ⟨by rfl, ?_⟩) hHeld ?_
    · intro w' hSw
      obtain ⟨sm0, sm1, sm2, sm3, sm4, sm5, sq0, sq1, sq2, sq3, sq4, sq5⟩ := hSw
      go_simp
    try simp only [List.getElem_toArray, List.getElem_cons_succ, List.getElem_cons_zero, Act.put, List.setIfInBounds_toArray, List.set_cons_zero, List.set_cons_succ]
    refine wpAnyH_ready (rs := [9]) (by kernel_rfl) (by simp) ?_
    refine AllReadyH.cons rfl (fun K hK => ?_) AllReadyH.nil
    go_simp
    refine (HBA.out _ M3.out.i4 M3.out.i5 Q3.out.i4 Q3.out.i5).mono ?_
    rintro e v4 ⟨rfl, b4⟩
    have M4 : Hid (PB v4 MB k d wd hi a n c cs b m cc ps) := M3.out.kept b4
    have Q4 : Hid (PB v4 QB k2 d2 wd2 hi2 aa nn ca cs2 bb mm cb ps2) := Q3.out.kept b4
    have B4 : Hid (Below w.heap.size w v4) := B3.out.trans (b4.mono B3.out.size)
    obtain ⟨mc40, mc41, mc42, mc43, mc44, mc45⟩ := M4.out.box
    obtain ⟨qc40, qc41, qc42, qc43, qc44, qc45⟩ := Q4.out.box
    refine hK.out _ _ ⟨mc40, mc41, mc42, mc43, mc44, mc45, qc40, qc41, qc42, qc43, qc44, qc45⟩ (fun hHeld => ?_)
    clear hK K
    try simp only [List.getElem_toArray, List.getElem_cons_succ, List.getElem_cons_zero, Act.put, List.setIfInBounds_toArray, List.set_cons_zero, List.set_cons_succ]
    refine wpAnyH_take (i := 10) (v := .bool false) rfl (by kernel_rfl) (by kernel_rfl) (by kernel_rfl) (fun _ _ _ h => h) (Or.inl ⟨by rfl, ?_⟩) hHeld ?_
    · intro w' hSw
      obtain ⟨sm0, sm1, sm2, sm3, sm4, sm5, sq0, sq1, sq2, sq3, sq4, sq5⟩ := hSw
      go_simp
    try simp only [List.getElem_toArray, List.getElem_cons_succ, List.getElem_cons_zero, Act.put, List.setIfInBounds_toArray, List.set_cons_zero, List.set_cons_succ]
    refine wpAnyH_take (i := 11) (v := .bool false) rfl (by kernel_rfl) (by kernel_rfl) (by kernel_rfl) (fun _ _ _ h => h) (Or.inl ⟨by rfl, ?_⟩) hHeld ?_
    · intro w' hSw
      obtain ⟨sm0, sm1, sm2, sm3, sm4, sm5, sq0, sq1, sq2, sq3, sq4, sq5⟩ := hSw
      go_simp
    try simp only [List.getElem_toArray, List.getElem_cons_succ, List.getElem_cons_zero, Act.put, List.setIfInBounds_toArray, List.set_cons_zero, List.set_cons_succ]
    refine wpAnyH_take (i := 12) (v := .bool false) rfl (by kernel_rfl) (by kernel_rfl) (by kernel_rfl) (fun _ _ _ h => h) (Or.inl ⟨by rfl, ?_⟩) hHeld ?_
    · intro w' hSw
      obtain ⟨sm0, sm1, sm2, sm3, sm4, sm5, sq0, sq1, sq2, sq3, sq4, sq5⟩ := hSw
      go_simp
    try simp only [List.getElem_toArray, List.getElem_cons_succ, List.getElem_cons_zero, Act.put, List.setIfInBounds_toArray, List.set_cons_zero, List.set_cons_succ]
    refine wpAnyH_take (i := 13) (v := .agg #[.int .i64 k, .int .i64 d, .int .i64 wd, .int .i64 hi, .slice a n c, .slice b m cc]) rfl (by kernel_rfl) (by kernel_rfl) (by kernel_rfl) (fun _ _ _ h => h) (Or.inl ⟨by rfl, ?_⟩) hHeld ?_
    · intro w' hSw
      obtain ⟨sm0, sm1, sm2, sm3, sm4, sm5, sq0, sq1, sq2, sq3, sq4, sq5⟩ := hSw
      go_simp
    try simp only [List.getElem_toArray, List.getElem_cons_succ, List.getElem_cons_zero, Act.put, List.setIfInBounds_toArray, List.set_cons_zero, List.set_cons_succ]
    refine wpAnyH_take (i := 15) (v := .agg #[.int .i64 k, .int .i64 d, .int .i64 wd, .int .i64 hi, .slice a n c, .slice b m cc]) rfl (by kernel_rfl) (by kernel_rfl) (by kernel_rfl) (fun _ _ _ h => h) (Or.inl ⟨by rfl, ?_⟩) hHeld ?_
    · intro w' hSw
      obtain ⟨sm0, sm1, sm2, sm3, sm4, sm5, sq0, sq1, sq2, sq3, sq4, sq5⟩ := hSw
      go_simp
    try simp only [List.getElem_toArray, List.getElem_cons_succ, List.getElem_cons_zero, Act.put, List.setIfInBounds_toArray, List.set_cons_zero, List.set_cons_succ]
    refine wpAnyH_ready (rs := [14]) (by kernel_rfl) (by simp) ?_
    refine AllReadyH.cons rfl (fun K hK => ?_) AllReadyH.nil
    go_simp
    refine (HOI.out _ M4.out.i4 M4.out.i5).mono ?_
    rintro e v5 ⟨rfl, b5⟩
    have M5 : Hid (PB v5 MB k d wd hi a n c cs b m cc ps) := M4.out.kept b5
    have Q5 : Hid (PB v5 QB k2 d2 wd2 hi2 aa nn ca cs2 bb mm cb ps2) := Q4.out.kept b5
    have B5 : Hid (Below w.heap.size w v5) := B4.out.trans (b5.mono B4.out.size)
    obtain ⟨mc50, mc51, mc52, mc53, mc54, mc55⟩ := M5.out.box
    obtain ⟨qc50, qc51, qc52, qc53, qc54, qc55⟩ := Q5.out.box
    refine hK.out _ _ ⟨mc50, mc51, mc52, mc53, mc54, mc55, qc50, qc51, qc52, qc53, qc54, qc55⟩ (fun hHeld => ?_)
    clear hK K
    try simp only [List.getElem_toArray, List.getElem_cons_succ, List.getElem_cons_zero, Act.put, List.setIfInBounds_toArray, List.set_cons_zero, List.set_cons_succ]
    refine wpAnyH_ready (rs := [16]) (by kernel_rfl) (by simp) ?_
    refine AllReadyH.cons rfl (fun K hK => ?_) AllReadyH.nil
    go_simp
    refine (HOS.out _ M5.out.i4 M5.out.i5).mono ?_
    rintro e v6 ⟨rfl, b6⟩
    have M6 : Hid (PB v6 MB k d wd hi a n c cs b m cc ps) := M5.out.kept b6
    have Q6 : Hid (PB v6 QB k2 d2 wd2 hi2 aa nn ca cs2 bb mm cb ps2) := Q5.out.kept b6
    have B6 : Hid (Below w.heap.size w v6) := B5.out.trans (b6.mono B5.out.size)
    obtain ⟨mc60, mc61, mc62, mc63, mc64, mc65⟩ := M6.out.box
    obtain ⟨qc60, qc61, qc62, qc63, qc64, qc65⟩ := Q6.out.box
    refine hK.out _ _ ⟨mc60, mc61, mc62, mc63, mc64, mc65, qc60, qc61, qc62, qc63, qc64, qc65⟩ (fun hHeld => ?_)
    clear hK K
    try simp only [List.getElem_toArray, List.getElem_cons_succ, List.getElem_cons_zero, Act.put, List.setIfInBounds_toArray, List.set_cons_zero, List.set_cons_succ]
    refine wpAnyH_take (i := 17) (v := .bool false) rfl (by kernel_rfl) (by kernel_rfl) (by kernel_rfl) (fun _ _ _ h => h) (Or.inl ⟨by rfl, ?_⟩) hHeld ?_
    · intro w' hSw
      obtain ⟨sm0, sm1, sm2, sm3, sm4, sm5, sq0, sq1, sq2, sq3, sq4, sq5⟩ := hSw
      go_simp
    try simp only [List.getElem_toArray, List.getElem_cons_succ, List.getElem_cons_zero, Act.put, List.setIfInBounds_toArray, List.set_cons_zero, List.set_cons_succ]
    refine wpAnyH_take (i := 18) (v := .bool false) rfl (by kernel_rfl) (by kernel_rfl) (by kernel_rfl) (fun _ _ _ h => h) (Or.inl ⟨by rfl, ?_⟩) hHeld ?_
    · intro w' hSw
      obtain ⟨sm0, sm1, sm2, sm3, sm4, sm5, sq0, sq1, sq2, sq3, sq4, sq5⟩ := hSw
      go_simp
    try simp only [List.getElem_toArray, List.getElem_cons_succ, List.getElem_cons_zero, Act.put, List.setIfInBounds_toArray, List.set_cons_zero, List.set_cons_succ]
    refine wpAnyH_done (by kernel_rfl) ?_ _
    try simp only [List.getElem_toArray, List.getElem_cons_succ, List.getElem_cons_zero, Act.put, List.setIfInBounds_toArray, List.set_cons_zero, List.set_cons_succ]
    clear hHeld b3 b4 b5 b6 Md Qd Bd M2 Q2 B2 M3 Q3 B3 M4 Q4 B4 M5 Q5 B5 HSB HBA HOI m20 m21 m22 m23 m24 m25 q20 q21 q22 q23 q24 q25 mc30 mc31 mc32 mc33 mc34 mc35 mc40 mc41 mc42 mc43 mc44 mc45 mc50 mc51 mc52 mc53 mc54 mc55 qc30 qc31 qc32 qc33 qc34 qc35 qc40 qc41 qc42 qc43 qc44 qc45 qc50 qc51 qc52 qc53 qc54 qc55 qc60 qc61 qc62 qc63 qc64 qc65
    go_wp2_with fail
    refine (HRA.out _ M6.out.i4 M6.out.i5).mono ?_
    rintro e w7 ⟨⟨x, cx, y, cy, rfl, gx, gy⟩, b7⟩
    have M8 : Hid (PB (w7.alloc (.cells #[.int .i64 X0, .int .i64 X1, .int .i64 X2, .int .i64 X3, .slice x 0 cx, .slice y LX cy] 26)) MB k d wd hi a n c cs b m cc ps) := (M6.out.kept b7).kept ((Below.refl _ _).alloc (Nat.le_refl _) _)
    have Q8 : Hid (PB (w7.alloc (.cells #[.int .i64 X0, .int .i64 X1, .int .i64 X2, .int .i64 X3, .slice x 0 cx, .slice y LX cy] 26)) QB k2 d2 wd2 hi2 aa nn ca cs2 bb mm cb ps2) := (Q6.out.kept b7).kept ((Below.refl _ _).alloc (Nat.le_refl _) _)
    have X8 : Hid (PB (w7.alloc (.cells #[.int .i64 X0, .int .i64 X1, .int .i64 X2, .int .i64 X3, .slice x 0 cx, .slice y LX cy] 26)) w7.heap.size X0 X1 X2 X3 x 0 cx [] y LX cy L1) := pb_new gx gy
    have B8 : Hid (Below w.heap.size w (w7.alloc (.cells #[.int .i64 X0, .int .i64 X1, .int .i64 X2, .int .i64 X3, .slice x 0 cx, .slice y LX cy] 26))) := (B6.out.trans (b7.mono B6.out.size)).alloc (Nat.le_trans B6.out.size b7.size) _
    clear b7 M6 Q6 B6 HRA gx gy mc60 mc61 mc62 mc63 mc64 mc65
    go_upto_region 8 with fail
    generalize hW8 : w7.alloc (.cells #[.int .i64 X0, .int .i64 X1, .int .i64 X2, .int .i64 X3, .slice x 0 cx, .slice y LX cy] 26) = W8 at *
    clear hW8
    generalize w7.heap.size = XB at *
    obtain ⟨q80, q81, q82, q83, q84, q85⟩ := Q8.out.box
    go_wp2_with fail
    refine (HRB.out _ Q8.out.i4 Q8.out.i5).mono ?_
    rintro e w9 ⟨⟨x2, cx2, y2, cy2, rfl, gx, gy⟩, b9⟩
    have M10 : Hid (PB (w9.alloc (.cells #[.int .i64 Y0, .int .i64 Y1, .int .i64 Y2, .int .i64 Y3, .slice x2 0 cx2, .slice y2 LY cy2] 26)) MB k d wd hi a n c cs b m cc ps) := (M8.out.kept b9).kept ((Below.refl _ _).alloc (Nat.le_refl _) _)
    have Q10 : Hid (PB (w9.alloc (.cells #[.int .i64 Y0, .int .i64 Y1, .int .i64 Y2, .int .i64 Y3, .slice x2 0 cx2, .slice y2 LY cy2] 26)) QB k2 d2 wd2 hi2 aa nn ca cs2 bb mm cb ps2) := (Q8.out.kept b9).kept ((Below.refl _ _).alloc (Nat.le_refl _) _)
    have X10 : Hid (PB (w9.alloc (.cells #[.int .i64 Y0, .int .i64 Y1, .int .i64 Y2, .int .i64 Y3, .slice x2 0 cx2, .slice y2 LY cy2] 26)) XB X0 X1 X2 X3 x 0 cx [] y LX cy L1) := (X8.out.kept b9).kept ((Below.refl _ _).alloc (Nat.le_refl _) _)
    have Y10 : Hid (PB (w9.alloc (.cells #[.int .i64 Y0, .int .i64 Y1, .int .i64 Y2, .int .i64 Y3, .slice x2 0 cx2, .slice y2 LY cy2] 26)) w9.heap.size Y0 Y1 Y2 Y3 x2 0 cx2 [] y2 LY cy2 L2) := pb_new gx gy
    have B10 : Hid (Below w.heap.size w (w9.alloc (.cells #[.int .i64 Y0, .int .i64 Y1, .int .i64 Y2, .int .i64 Y3, .slice x2 0 cx2, .slice y2 LY cy2] 26))) := (B8.out.trans (b9.mono B8.out.size)).alloc (Nat.le_trans B8.out.size b9.size) _
    clear b9 M8 Q8 X8 B8 HRB gx gy q80 q81 q82 q83 q84 q85
    go_upto_region 9 with fail
    generalize hW10 : w9.alloc (.cells #[.int .i64 Y0, .int .i64 Y1, .int .i64 Y2, .int .i64 Y3, .slice x2 0 cx2, .slice y2 LY cy2] 26) = W10 at *
    clear hW10
    generalize w9.heap.size = YB at *
    have Md : Hid (PB W10.drew MB k d wd hi a n c cs b m cc ps) := M10.out.kept (Below.refl _ _).drew
    have Qd : Hid (PB W10.drew QB k2 d2 wd2 hi2 aa nn ca cs2 bb mm cb ps2) := Q10.out.kept (Below.refl _ _).drew
    have Xd : Hid (PB W10.drew XB X0 X1 X2 X3 x 0 cx [] y LX cy L1) := X10.out.kept (Below.refl _ _).drew
    have Yd : Hid (PB W10.drew YB Y0 Y1 Y2 Y3 x2 0 cx2 [] y2 LY cy2 L2) := Y10.out.kept (Below.refl _ _).drew
    have Bd : Hid (Below w.heap.size w W10.drew) := B10.out.drew
    obtain ⟨m100, m101, m102, m103, m104, m105⟩ := M10.out.box
    obtain ⟨q100, q101, q102, q103, q104, q105⟩ := Q10.out.box
    obtain ⟨x100, x101, x102, x103, x104, x105⟩ := X10.out.box
    obtain ⟨y100, y101, y102, y103, y104, y105⟩ := Y10.out.box
    cases lk with
    | false =>
      cases r1 with
      | false =>
        cases r2 with
        | false =>
          clear HFK HWI
          go_wp2_with fail
          refine wp_region_held_drew (S := fun w' => w'.cell? ⟨MB, 0, none⟩ = some (.int .i64 k) ∧ w'.cell? ⟨MB, 1, none⟩ = some (.int .i64 d) ∧ w'.cell? ⟨MB, 2, none⟩ = some (.int .i64 wd) ∧ w'.cell? ⟨MB, 3, none⟩ = some (.int .i64 hi) ∧ w'.cell? ⟨MB, 4, none⟩ = some (.slice a n c) ∧ w'.cell? ⟨MB, 5, none⟩ = some (.slice b m cc) ∧ w'.cell? ⟨QB, 0, none⟩ = some (.int .i64 k2) ∧ w'.cell? ⟨QB, 1, none⟩ = some (.int .i64 d2) ∧ w'.cell? ⟨QB, 2, none⟩ = some (.int .i64 wd2) ∧ w'.cell? ⟨QB, 3, none⟩ = some (.int .i64 hi2) ∧ w'.cell? ⟨QB, 4, none⟩ = some (.slice aa nn ca) ∧ w'.cell? ⟨QB, 5, none⟩ = some (.slice bb mm cb) ∧ w'.cell? ⟨XB, 0, none⟩ = some (.int .i64 X0) ∧ w'.cell? ⟨XB, 1, none⟩ = some (.int .i64 X1) ∧ w'.cell? ⟨XB, 2, none⟩ = some (.int .i64 X2) ∧ w'.cell? ⟨XB, 3, none⟩ = some (.int .i64 X3) ∧ w'.cell? ⟨XB, 4, none⟩ = some (.slice x 0 cx) ∧ w'.cell? ⟨XB, 5, none⟩ = some (.slice y LX cy) ∧ w'.cell? ⟨YB, 0, none⟩ = some (.int .i64 Y0) ∧ w'.cell? ⟨YB, 1, none⟩ = some (.int .i64 Y1) ∧ w'.cell? ⟨YB, 2, none⟩ = some (.int .i64 Y2) ∧ w'.cell? ⟨YB, 3, none⟩ = some (.int .i64 Y3) ∧ w'.cell? ⟨YB, 4, none⟩ = some (.slice x2 0 cx2) ∧ w'.cell? ⟨YB, 5, none⟩ = some (.slice y2 LY cy2)) (by kernel_rfl) ⟨m100, m101, m102, m103, m104, m105, q100, q101, q102, q103, q104, q105, x100, x101, x102, x103, x104, x105, y100, y101, y102, y103, y104, y105⟩ (fun hHeld => ?_)
          refine wpAnyH_take (i := 0) (v := .agg #[.int .i64 k, .int .i64 d, .int .i64 wd, .int .i64 hi, .slice a n c, .slice b m cc]) rfl (by kernel_rfl) (by kernel_rfl) (by kernel_rfl) (fun _ _ _ h => h) (Or.inl ⟨by rfl, ?_⟩) hHeld ?_
          · intro w' hSw
            obtain ⟨sm0, sm1, sm2, sm3, sm4, sm5, sq0, sq1, sq2, sq3, sq4, sq5, sx0, sx1, sx2, sx3, sx4, sx5, sy0, sy1, sy2, sy3, sy4, sy5⟩ := hSw
            go_simp
          try simp only [List.getElem_toArray, List.getElem_cons_succ, List.getElem_cons_zero, Act.put, List.setIfInBounds_toArray, List.set_cons_zero, List.set_cons_succ]
          refine wpAnyH_take (i := 1) (v := .agg #[.int .i64 k, .int .i64 d, .int .i64 wd, .int .i64 hi, .slice a n c, .slice b m cc]) rfl (by kernel_rfl) (by kernel_rfl) (by kernel_rfl) (fun _ _ _ h => h) (Or.inl ⟨by rfl, ?_⟩) hHeld ?_
          · intro w' hSw
            obtain ⟨sm0, sm1, sm2, sm3, sm4, sm5, sq0, sq1, sq2, sq3, sq4, sq5, sx0, sx1, sx2, sx3, sx4, sx5, sy0, sy1, sy2, sy3, sy4, sy5⟩ := hSw
            go_simp
          try simp only [List.getElem_toArray, List.getElem_cons_succ, List.getElem_cons_zero, Act.put, List.setIfInBounds_toArray, List.set_cons_zero, List.set_cons_succ]
          refine wpAnyH_take (i := 3) (v := .agg #[.int .i64 k, .int .i64 d, .int .i64 wd, .int .i64 hi, .slice a n c, .slice b m cc]) rfl (by kernel_rfl) (by kernel_rfl) (by kernel_rfl) (fun _ _ _ h => h) (Or.inl ⟨by rfl, ?_⟩) hHeld ?_
          · intro w' hSw
            obtain ⟨sm0, sm1, sm2, sm3, sm4, sm5, sq0, sq1, sq2, sq3, sq4, sq5, sx0, sx1, sx2, sx3, sx4, sx5, sy0, sy1, sy2, sy3, sy4, sy5⟩ := hSw
            go_simp
          try simp only [List.getElem_toArray, List.getElem_cons_succ, List.getElem_cons_zero, Act.put, List.setIfInBounds_toArray, List.set_cons_zero, List.set_cons_succ]
          refine wpAnyH_ready (rs := [2]) (by kernel_rfl) (by simp) ?_
          refine AllReadyH.cons rfl (fun K hK => ?_) AllReadyH.nil
          go_simp
          refine (HAA.out _ Md.out.i4 Md.out.i5).mono ?_
          rintro e v11 ⟨rfl, b11⟩
          have M11 : Hid (PB v11 MB k d wd hi a n c cs b m cc ps) := Md.out.kept b11
          have Q11 : Hid (PB v11 QB k2 d2 wd2 hi2 aa nn ca cs2 bb mm cb ps2) := Qd.out.kept b11
          have X11 : Hid (PB v11 XB X0 X1 X2 X3 x 0 cx [] y LX cy L1) := Xd.out.kept b11
          have Y11 : Hid (PB v11 YB Y0 Y1 Y2 Y3 x2 0 cx2 [] y2 LY cy2 L2) := Yd.out.kept b11
          have B11 : Hid (Below w.heap.size w v11) := Bd.out.trans (b11.mono Bd.out.size)
          obtain ⟨mc110, mc111, mc112, mc113, mc114, mc115⟩ := M11.out.box
          obtain ⟨qc110, qc111, qc112, qc113, qc114, qc115⟩ := Q11.out.box
          obtain ⟨xc110, xc111, xc112, xc113, xc114, xc115⟩ := X11.out.box
          obtain ⟨yc110, yc111, yc112, yc113, yc114, yc115⟩ := Y11.out.box
          refine hK.out _ _ ⟨mc110, mc111, mc112, mc113, mc114, mc115, qc110, qc111, qc112, qc113, qc114, qc115, xc110, xc111, xc112, xc113, xc114, xc115, yc110, yc111, yc112, yc113, yc114, yc115⟩ (fun hHeld => ?_)
          clear hK K
          try simp only [List.getElem_toArray, List.getElem_cons_succ, List.getElem_cons_zero, Act.put, List.setIfInBounds_toArray, List.set_cons_zero, List.set_cons_succ]
          refine wpAnyH_ready (rs := [4]) (by kernel_rfl) (by simp) ?_
          refine AllReadyH.cons rfl (fun K hK => ?_) AllReadyH.nil
          go_simp
          refine (HOS.out _ M11.out.i4 M11.out.i5).mono ?_
          rintro e v12 ⟨rfl, b12⟩
          have M12 : Hid (PB v12 MB k d wd hi a n c cs b m cc ps) := M11.out.kept b12
          have Q12 : Hid (PB v12 QB k2 d2 wd2 hi2 aa nn ca cs2 bb mm cb ps2) := Q11.out.kept b12
          have X12 : Hid (PB v12 XB X0 X1 X2 X3 x 0 cx [] y LX cy L1) := X11.out.kept b12
          have Y12 : Hid (PB v12 YB Y0 Y1 Y2 Y3 x2 0 cx2 [] y2 LY cy2 L2) := Y11.out.kept b12
          have B12 : Hid (Below w.heap.size w v12) := B11.out.trans (b12.mono B11.out.size)
          obtain ⟨mc120, mc121, mc122, mc123, mc124, mc125⟩ := M12.out.box
          obtain ⟨qc120, qc121, qc122, qc123, qc124, qc125⟩ := Q12.out.box
          obtain ⟨xc120, xc121, xc122, xc123, xc124, xc125⟩ := X12.out.box
          obtain ⟨yc120, yc121, yc122, yc123, yc124, yc125⟩ := Y12.out.box
          refine hK.out _ _ ⟨mc120, mc121, mc122, mc123, mc124, mc125, qc120, qc121, qc122, qc123, qc124, qc125, xc120, xc121, xc122, xc123, xc124, xc125, yc120, yc121, yc122, yc123, yc124, yc125⟩ (fun hHeld => ?_)
          clear hK K
          try simp only [List.getElem_toArray, List.getElem_cons_succ, List.getElem_cons_zero, Act.put, List.setIfInBounds_toArray, List.set_cons_zero, List.set_cons_succ]
          refine wpAnyH_take (i := 5) (v := .bool true) rfl (by kernel_rfl) (by kernel_rfl) (by kernel_rfl) (fun _ _ _ h => h) (Or.inl ⟨by rfl, ?_⟩) hHeld ?_
          · intro w' hSw
            obtain ⟨sm0, sm1, sm2, sm3, sm4, sm5, sq0, sq1, sq2, sq3, sq4, sq5, sx0, sx1, sx2, sx3, sx4, sx5, sy0, sy1, sy2, sy3, sy4, sy5⟩ := hSw
            go_simp
          try simp only [List.getElem_toArray, List.getElem_cons_succ, List.getElem_cons_zero, Act.put, List.setIfInBounds_toArray, List.set_cons_zero, List.set_cons_succ]
          refine wpAnyH_take (i := 6) (v := .bool true) rfl (by kernel_rfl) (by kernel_rfl) (by kernel_rfl) (fun _ _ _ h => h) (Or.inl ⟨by rfl, ?_⟩) hHeld ?_
          · intro w' hSw
            obtain ⟨sm0, sm1, sm2, sm3, sm4, sm5, sq0, sq1, sq2, sq3, sq4, sq5, sx0, sx1, sx2, sx3, sx4, sx5, sy0, sy1, sy2, sy3, sy4, sy5⟩ := hSw
            go_simp
          try simp only [List.getElem_toArray, List.getElem_cons_succ, List.getElem_cons_zero, Act.put, List.setIfInBounds_toArray, List.set_cons_zero, List.set_cons_succ]
          refine wpAnyH_take (i := 7) (v := .bool false) rfl (by kernel_rfl) (by kernel_rfl) (by kernel_rfl) (fun _ _ _ h => h) (Or.inl ⟨by rfl, ?_⟩) hHeld ?_
          · intro w' hSw
            obtain ⟨sm0, sm1, sm2, sm3, sm4, sm5, sq0, sq1, sq2, sq3, sq4, sq5, sx0, sx1, sx2, sx3, sx4, sx5, sy0, sy1, sy2, sy3, sy4, sy5⟩ := hSw
            go_simp
          try simp only [List.getElem_toArray, List.getElem_cons_succ, List.getElem_cons_zero, Act.put, List.setIfInBounds_toArray, List.set_cons_zero, List.set_cons_succ]
          refine wpAnyH_take (i := 8) (v := .bool true) rfl (by kernel_rfl) (by kernel_rfl) (by kernel_rfl) (fun _ _ _ h => h) (Or.inl ⟨by rfl, ?_⟩) hHeld ?_
          · intro w' hSw
            obtain ⟨sm0, sm1, sm2, sm3, sm4, sm5, sq0, sq1, sq2, sq3, sq4, sq5, sx0, sx1, sx2, sx3, sx4, sx5, sy0, sy1, sy2, sy3, sy4, sy5⟩ := hSw
            go_simp
          try simp only [List.getElem_toArray, List.getElem_cons_succ, List.getElem_cons_zero, Act.put, List.setIfInBounds_toArray, List.set_cons_zero, List.set_cons_succ]
          refine wpAnyH_take (i := 9) (v := .bool true) rfl (by kernel_rfl) (by kernel_rfl) (by kernel_rfl) (fun _ _ _ h => h) (Or.inl ⟨by rfl, ?_⟩) hHeld ?_
          · intro w' hSw
            obtain ⟨sm0, sm1, sm2, sm3, sm4, sm5, sq0, sq1, sq2, sq3, sq4, sq5, sx0, sx1, sx2, sx3, sx4, sx5, sy0, sy1, sy2, sy3, sy4, sy5⟩ := hSw
            go_simp
          try simp only [List.getElem_toArray, List.getElem_cons_succ, List.getElem_cons_zero, Act.put, List.setIfInBounds_toArray, List.set_cons_zero, List.set_cons_succ]
          refine wpAnyH_take (i := 10) (v := undef) rfl (by kernel_rfl) (by kernel_rfl) (by kernel_rfl) (fun _ _ _ h => h) (Or.inr ⟨by kernel_rfl, rfl⟩) hHeld ?_
          try simp only [List.getElem_toArray, List.getElem_cons_succ, List.getElem_cons_zero, Act.put, List.setIfInBounds_toArray, List.set_cons_zero, List.set_cons_succ]
          refine wpAnyH_take (i := 11) (v := undef) rfl (by kernel_rfl) (by kernel_rfl) (by kernel_rfl) (fun _ _ _ h => h) (Or.inr ⟨by kernel_rfl, rfl⟩) hHeld ?_
          try simp only [List.getElem_toArray, List.getElem_cons_succ, List.getElem_cons_zero, Act.put, List.setIfInBounds_toArray, List.set_cons_zero, List.set_cons_succ]
          refine wpAnyH_take (i := 12) (v := undef) rfl (by kernel_rfl) (by kernel_rfl) (by kernel_rfl) (fun _ _ _ h => h) (Or.inr ⟨by kernel_rfl, rfl⟩) hHeld ?_
          try simp only [List.getElem_toArray, List.getElem_cons_succ, List.getElem_cons_zero, Act.put, List.setIfInBounds_toArray, List.set_cons_zero, List.set_cons_succ]
          refine wpAnyH_take (i := 13) (v := undef) rfl (by kernel_rfl) (by kernel_rfl) (by kernel_rfl) (fun _ _ _ h => h) (Or.inr ⟨by kernel_rfl, rfl⟩) hHeld ?_
          try simp only [List.getElem_toArray, List.getElem_cons_succ, List.getElem_cons_zero, Act.put, List.setIfInBounds_toArray, List.set_cons_zero, List.set_cons_succ]
          refine wpAnyH_take (i := 14) (v := undef) rfl (by kernel_rfl) (by kernel_rfl) (by kernel_rfl) (fun _ _ _ h => h) (Or.inr ⟨by kernel_rfl, rfl⟩) hHeld ?_
          try simp only [List.getElem_toArray, List.getElem_cons_succ, List.getElem_cons_zero, Act.put, List.setIfInBounds_toArray, List.set_cons_zero, List.set_cons_succ]
          refine wpAnyH_take (i := 15) (v := .bool true) rfl (by kernel_rfl) (by kernel_rfl) (by kernel_rfl) (fun _ _ _ h => h) (Or.inl ⟨by rfl, ?_⟩) hHeld ?_
          · intro w' hSw
            obtain ⟨sm0, sm1, sm2, sm3, sm4, sm5, sq0, sq1, sq2, sq3, sq4, sq5, sx0, sx1, sx2, sx3, sx4, sx5, sy0, sy1, sy2, sy3, sy4, sy5⟩ := hSw
            go_simp
          try simp only [List.getElem_toArray, List.getElem_cons_succ, List.getElem_cons_zero, Act.put, List.setIfInBounds_toArray, List.set_cons_zero, List.set_cons_succ]
          refine wpAnyH_take (i := 16) (v := .bool true) rfl (by kernel_rfl) (by kernel_rfl) (by kernel_rfl) (fun _ _ _ h => h) (Or.inl ⟨by rfl, ?_⟩) hHeld ?_
          · intro w' hSw
            obtain ⟨sm0, sm1, sm2, sm3, sm4, sm5, sq0, sq1, sq2, sq3, sq4, sq5, sx0, sx1, sx2, sx3, sx4, sx5, sy0, sy1, sy2, sy3, sy4, sy5⟩ := hSw
            go_simp
          try simp only [List.getElem_toArray, List.getElem_cons_succ, List.getElem_cons_zero, Act.put, List.setIfInBounds_toArray, List.set_cons_zero, List.set_cons_succ]
          refine wpAnyH_take (i := 17) (v := .bool true) rfl (by kernel_rfl) (by kernel_rfl) (by kernel_rfl) (fun _ _ _ h => h) (Or.inl ⟨by rfl, ?_⟩) hHeld ?_
          · intro w' hSw
            obtain ⟨sm0, sm1, sm2, sm3, sm4, sm5, sq0, sq1, sq2, sq3, sq4, sq5, sx0, sx1, sx2, sx3, sx4, sx5, sy0, sy1, sy2, sy3, sy4, sy5⟩ := hSw
            go_simp
          try simp only [List.getElem_toArray, List.getElem_cons_succ, List.getElem_cons_zero, Act.put, List.setIfInBounds_toArray, List.set_cons_zero, List.set_cons_succ]
          refine wpAnyH_take (i := 18) (v := .bool false) rfl (by kernel_rfl) (by kernel_rfl) (by kernel_rfl) (fun _ _ _ h => h) (Or.inl ⟨by rfl, ?_⟩) hHeld ?_
          · intro w' hSw
            obtain ⟨sm0, sm1, sm2, sm3, sm4, sm5, sq0, sq1, sq2, sq3, sq4, sq5, sx0, sx1, sx2, sx3, sx4, sx5, sy0, sy1, sy2, sy3, sy4, sy5⟩ := hSw
            go_simp
          try simp only [List.getElem_toArray, List.getElem_cons_succ, List.getElem_cons_zero, Act.put, List.setIfInBounds_toArray, List.set_cons_zero, List.set_cons_succ]
          refine wpAnyH_take (i := 19) (v := .bool true) rfl (by kernel_rfl) (by kernel_rfl) (by kernel_rfl) (fun _ _ _ h => h) (Or.inl ⟨by rfl, ?_⟩) hHeld ?_
          · intro w' hSw
            obtain ⟨sm0, sm1, sm2, sm3, sm4, sm5, sq0, sq1, sq2, sq3, sq4, sq5, sx0, sx1, sx2, sx3, sx4, sx5, sy0, sy1, sy2, sy3, sy4, sy5⟩ := hSw
            go_simp
          try simp only [List.getElem_toArray, List.getElem_cons_succ, List.getElem_cons_zero, Act.put, List.setIfInBounds_toArray, List.set_cons_zero, List.set_cons_succ]
          refine wpAnyH_take (i := 20) (v := .bool true) rfl (by kernel_rfl) (by kernel_rfl) (by kernel_rfl) (fun _ _ _ h => h) (Or.inl ⟨by rfl, ?_⟩) hHeld ?_
          · intro w' hSw
            obtain ⟨sm0, sm1, sm2, sm3, sm4, sm5, sq0, sq1, sq2, sq3, sq4, sq5, sx0, sx1, sx2, sx3, sx4, sx5, sy0, sy1, sy2, sy3, sy4, sy5⟩ := hSw
            go_simp
          try simp only [List.getElem_toArray, List.getElem_cons_succ, List.getElem_cons_zero, Act.put, List.setIfInBounds_toArray, List.set_cons_zero, List.set_cons_succ]
          refine wpAnyH_take (i := 21) (v := undef) rfl (by kernel_rfl) (by kernel_rfl) (by kernel_rfl) (fun _ _ _ h => h) (Or.inr ⟨by kernel_rfl, rfl⟩) hHeld ?_
          try simp only [List.getElem_toArray, List.getElem_cons_succ, List.getElem_cons_zero, Act.put, List.setIfInBounds_toArray, List.set_cons_zero, List.set_cons_succ]
          refine wpAnyH_take (i := 22) (v := undef) rfl (by kernel_rfl) (by kernel_rfl) (by kernel_rfl) (fun _ _ _ h => h) (Or.inr ⟨by kernel_rfl, rfl⟩) hHeld ?_
          try simp only [List.getElem_toArray, List.getElem_cons_succ, List.getElem_cons_zero, Act.put, List.setIfInBounds_toArray, List.set_cons_zero, List.set_cons_succ]
          refine wpAnyH_take (i := 23) (v := .bool true) rfl (by kernel_rfl) (by kernel_rfl) (by kernel_rfl) (fun _ _ _ h => h) (Or.inl ⟨by rfl, ?_⟩) hHeld ?_
          · intro w' hSw
            obtain ⟨sm0, sm1, sm2, sm3, sm4, sm5, sq0, sq1, sq2, sq3, sq4, sq5, sx0, sx1, sx2, sx3, sx4, sx5, sy0, sy1, sy2, sy3, sy4, sy5⟩ := hSw
            go_simp
          try simp only [List.getElem_toArray, List.getElem_cons_succ, List.getElem_cons_zero, Act.put, List.setIfInBounds_toArray, List.set_cons_zero, List.set_cons_succ]
          refine wpAnyH_take (i := 24) (v := .bool true) rfl (by kernel_rfl) (by kernel_rfl) (by kernel_rfl) (fun _ _ _ h => h) (Or.inl ⟨by rfl, ?_⟩) hHeld ?_
          · intro w' hSw
            obtain ⟨sm0, sm1, sm2, sm3, sm4, sm5, sq0, sq1, sq2, sq3, sq4, sq5, sx0, sx1, sx2, sx3, sx4, sx5, sy0, sy1, sy2, sy3, sy4, sy5⟩ := hSw
            go_simp
          try simp only [List.getElem_toArray, List.getElem_cons_succ, List.getElem_cons_zero, Act.put, List.setIfInBounds_toArray, List.set_cons_zero, List.set_cons_succ]
          refine wpAnyH_take (i := 25) (v := undef) rfl (by kernel_rfl) (by kernel_rfl) (by kernel_rfl) (fun _ _ _ h => h) (Or.inr ⟨by kernel_rfl, rfl⟩) hHeld ?_
          try simp only [List.getElem_toArray, List.getElem_cons_succ, List.getElem_cons_zero, Act.put, List.setIfInBounds_toArray, List.set_cons_zero, List.set_cons_succ]
          refine wpAnyH_take (i := 26) (v := undef) rfl (by kernel_rfl) (by kernel_rfl) (by kernel_rfl) (fun _ _ _ h => h) (Or.inr ⟨by kernel_rfl, rfl⟩) hHeld ?_
          try simp only [List.getElem_toArray, List.getElem_cons_succ, List.getElem_cons_zero, Act.put, List.setIfInBounds_toArray, List.set_cons_zero, List.set_cons_succ]
          refine wpAnyH_take (i := 27) (v := undef) rfl (by kernel_rfl) (by kernel_rfl) (by kernel_rfl) (fun _ _ _ h => h) (Or.inr ⟨by kernel_rfl, rfl⟩) hHeld ?_
          try simp only [List.getElem_toArray, List.getElem_cons_succ, List.getElem_cons_zero, Act.put, List.setIfInBounds_toArray, List.set_cons_zero, List.set_cons_succ]
          refine wpAnyH_take (i := 28) (v := undef) rfl (by kernel_rfl) (by kernel_rfl) (by kernel_rfl) (fun _ _ _ h => h) (Or.inr ⟨by kernel_rfl, rfl⟩) hHeld ?_
          try simp only [List.getElem_toArray, List.getElem_cons_succ, List.getElem_cons_zero, Act.put, List.setIfInBounds_toArray, List.set_cons_zero, List.set_cons_succ]
          refine wpAnyH_take (i := 29) (v := undef) rfl (by kernel_rfl) (by kernel_rfl) (by kernel_rfl) (fun _ _ _ h => h) (Or.inr ⟨by kernel_rfl, rfl⟩) hHeld ?_
          try simp only [List.getElem_toArray, List.getElem_cons_succ, List.getElem_cons_zero, Act.put, List.setIfInBounds_toArray, List.set_cons_zero, List.set_cons_succ]
          refine wpAnyH_take (i := 30) (v := .bool true) rfl (by kernel_rfl) (by kernel_rfl) (by kernel_rfl) (fun _ _ _ h => h) (Or.inl ⟨by rfl, ?_⟩) hHeld ?_
          · intro w' hSw
            obtain ⟨sm0, sm1, sm2, sm3, sm4, sm5, sq0, sq1, sq2, sq3, sq4, sq5, sx0, sx1, sx2, sx3, sx4, sx5, sy0, sy1, sy2, sy3, sy4, sy5⟩ := hSw
            go_simp
          try simp only [List.getElem_toArray, List.getElem_cons_succ, List.getElem_cons_zero, Act.put, List.setIfInBounds_toArray, List.set_cons_zero, List.set_cons_succ]
          refine wpAnyH_take (i := 31) (v := .bool true) rfl (by kernel_rfl) (by kernel_rfl) (by kernel_rfl) (fun _ _ _ h => h) (Or.inl ⟨by rfl, ?_⟩) hHeld ?_
          · intro w' hSw
            obtain ⟨sm0, sm1, sm2, sm3, sm4, sm5, sq0, sq1, sq2, sq3, sq4, sq5, sx0, sx1, sx2, sx3, sx4, sx5, sy0, sy1, sy2, sy3, sy4, sy5⟩ := hSw
            go_simp
          try simp only [List.getElem_toArray, List.getElem_cons_succ, List.getElem_cons_zero, Act.put, List.setIfInBounds_toArray, List.set_cons_zero, List.set_cons_succ]
          refine wpAnyH_take (i := 32) (v := .bool true) rfl (by kernel_rfl) (by kernel_rfl) (by kernel_rfl) (fun _ _ _ h => h) (Or.inl ⟨by rfl, ?_⟩) hHeld ?_
          · intro w' hSw
            obtain ⟨sm0, sm1, sm2, sm3, sm4, sm5, sq0, sq1, sq2, sq3, sq4, sq5, sx0, sx1, sx2, sx3, sx4, sx5, sy0, sy1, sy2, sy3, sy4, sy5⟩ := hSw
            go_simp
          try simp only [List.getElem_toArray, List.getElem_cons_succ, List.getElem_cons_zero, Act.put, List.setIfInBounds_toArray, List.set_cons_zero, List.set_cons_succ]
          refine wpAnyH_done (by kernel_rfl) ?_ _
          try simp only [List.getElem_toArray, List.getElem_cons_succ, List.getElem_cons_zero, Act.put, List.setIfInBounds_toArray, List.set_cons_zero, List.set_cons_succ]
          have BF := B12
          clear hHeld
          go_wp2_with fail
          go_ret
          exact ⟨rfl, BF.out⟩
        | true =>
          clear HFK HWI
          go_wp2_with fail
          refine wp_region_held_drew (S := fun w' => w'.cell? ⟨MB, 0, none⟩ = some (.int .i64 k) ∧ w'.cell? ⟨MB, 1, none⟩ = some (.int .i64 d) ∧ w'.cell? ⟨MB, 2, none⟩ = some (.int .i64 wd) ∧ w'.cell? ⟨MB, 3, none⟩ = some (.int .i64 hi) ∧ w'.cell? ⟨MB, 4, none⟩ = some (.slice a n c) ∧ w'.cell? ⟨MB, 5, none⟩ = some (.slice b m cc) ∧ w'.cell? ⟨QB, 0, none⟩ = some (.int .i64 k2) ∧ w'.cell? ⟨QB, 1, none⟩ = some (.int .i64 d2) ∧ w'.cell? ⟨QB, 2, none⟩ = some (.int .i64 wd2) ∧ w'.cell? ⟨QB, 3, none⟩ = some (.int .i64 hi2) ∧ w'.cell? ⟨QB, 4, none⟩ = some (.slice aa nn ca) ∧ w'.cell? ⟨QB, 5, none⟩ = some (.slice bb mm cb) ∧ w'.cell? ⟨XB, 0, none⟩ = some (.int .i64 X0) ∧ w'.cell? ⟨XB, 1, none⟩ = some (.int .i64 X1) ∧ w'.cell? ⟨XB, 2, none⟩ = some (.int .i64 X2) ∧ w'.cell? ⟨XB, 3, none⟩ = some (.int .i64 X3) ∧ w'.cell? ⟨XB, 4, none⟩ = some (.slice x 0 cx) ∧ w'.cell? ⟨XB, 5, none⟩ = some (.slice y LX cy) ∧ w'.cell? ⟨YB, 0, none⟩ = some (.int .i64 Y0) ∧ w'.cell? ⟨YB, 1, none⟩ = some (.int .i64 Y1) ∧ w'.cell? ⟨YB, 2, none⟩ = some (.int .i64 Y2) ∧ w'.cell? ⟨YB, 3, none⟩ = some (.int .i64 Y3) ∧ w'.cell? ⟨YB, 4, none⟩ = some (.slice x2 0 cx2) ∧ w'.cell? ⟨YB, 5, none⟩ = some (.slice y2 LY cy2)) (by kernel_rfl) ⟨m100, m101, m102, m103, m104, m105, q100, q101, q102, q103, q104, q105, x100, x101, x102, x103, x104, x105, y100, y101, y102, y103, y104, y105⟩ (fun hHeld => ?_)
          refine wpAnyH_take (i := 0) (v := .agg #[.int .i64 k, .int .i64 d, .int .i64 wd, .int .i64 hi, .slice a n c, .slice b m cc]) rfl (by kernel_rfl) (by kernel_rfl) (by kernel_rfl) (fun _ _ _ h => h) (Or.inl ⟨by rfl, ?_⟩) hHeld ?_
          · intro w' hSw
            obtain ⟨sm0, sm1, sm2, sm3, sm4, sm5, sq0, sq1, sq2, sq3, sq4, sq5, sx0, sx1, sx2, sx3, sx4, sx5, sy0, sy1, sy2, sy3, sy4, sy5⟩ := hSw
            go_simp
          try simp only [List.getElem_toArray, List.getElem_cons_succ, List.getElem_cons_zero, Act.put, List.setIfInBounds_toArray, List.set_cons_zero, List.set_cons_succ]
          refine wpAnyH_take (i := 1) (v := .agg #[.int .i64 k, .int .i64 d, .int .i64 wd, .int .i64 hi, .slice a n c, .slice b m cc]) rfl (by kernel_rfl) (by kernel_rfl) (by kernel_rfl) (fun _ _ _ h => h) (Or.inl ⟨by rfl, ?_⟩) hHeld ?_
          · intro w' hSw
            obtain ⟨sm0, sm1, sm2, sm3, sm4, sm5, sq0, sq1, sq2, sq3, sq4, sq5, sx0, sx1, sx2, sx3, sx4, sx5, sy0, sy1, sy2, sy3, sy4, sy5⟩ := hSw
            go_simp
          try simp only [List.getElem_toArray, List.getElem_cons_succ, List.getElem_cons_zero, Act.put, List.setIfInBounds_toArray, List.set_cons_zero, List.set_cons_succ]
          refine wpAnyH_take (i := 3) (v := .agg #[.int .i64 k, .int .i64 d, .int .i64 wd, .int .i64 hi, .slice a n c, .slice b m cc]) rfl (by kernel_rfl) (by kernel_rfl) (by kernel_rfl) (fun _ _ _ h => h) (Or.inl ⟨by rfl, ?_⟩) hHeld ?_
          · intro w' hSw
            obtain ⟨sm0, sm1, sm2, sm3, sm4, sm5, sq0, sq1, sq2, sq3, sq4, sq5, sx0, sx1, sx2, sx3, sx4, sx5, sy0, sy1, sy2, sy3, sy4, sy5⟩ := hSw
            go_simp
          try simp only [List.getElem_toArray, List.getElem_cons_succ, List.getElem_cons_zero, Act.put, List.setIfInBounds_toArray, List.set_cons_zero, List.set_cons_succ]
          refine wpAnyH_ready (rs := [2]) (by kernel_rfl) (by simp) ?_
          refine AllReadyH.cons rfl (fun K hK => ?_) AllReadyH.nil
          go_simp
          refine (HAA.out _ Md.out.i4 Md.out.i5).mono ?_
          rintro e v11 ⟨rfl, b11⟩
          have M11 : Hid (PB v11 MB k d wd hi a n c cs b m cc ps) := Md.out.kept b11
          have Q11 : Hid (PB v11 QB k2 d2 wd2 hi2 aa nn ca cs2 bb mm cb ps2) := Qd.out.kept b11
          have X11 : Hid (PB v11 XB X0 X1 X2 X3 x 0 cx [] y LX cy L1) := Xd.out.kept b11
          have Y11 : Hid (PB v11 YB Y0 Y1 Y2 Y3 x2 0 cx2 [] y2 LY cy2 L2) := Yd.out.kept b11
          have B11 : Hid (Below w.heap.size w v11) := Bd.out.trans (b11.mono Bd.out.size)
          obtain ⟨mc110, mc111, mc112, mc113, mc114, mc115⟩ := M11.out.box
          obtain ⟨qc110, qc111, qc112, qc113, qc114, qc115⟩ := Q11.out.box
          obtain ⟨xc110, xc111, xc112, xc113, xc114, xc115⟩ := X11.out.box
          obtain ⟨yc110, yc111, yc112, yc113, yc114, yc115⟩ := Y11.out.box
          refine hK.out _ _ ⟨mc110, mc111, mc112, mc113, mc114, mc115, qc110, qc111, qc112, qc113, qc114, qc115, xc110, xc111, xc112, xc113, xc114, xc115, yc110, yc111, yc112, yc113, yc114, yc115⟩ (fun hHeld => ?_)
          clear hK K
          try simp only [List.getElem_toArray, List.getElem_cons_succ, List.getElem_cons_zero, Act.put, List.setIfInBounds_toArray, List.set_cons_zero, List.set_cons_succ]
          refine wpAnyH_ready (rs := [4]) (by kernel_rfl) (by simp) ?_
          refine AllReadyH.cons rfl (fun K hK => ?_) AllReadyH.nil
          go_simp
          refine (HOS.out _ M11.out.i4 M11.out.i5).mono ?_
          rintro e v12 ⟨rfl, b12⟩
          have M12 : Hid (PB v12 MB k d wd hi a n c cs b m cc ps) := M11.out.kept b12
          have Q12 : Hid (PB v12 QB k2 d2 wd2 hi2 aa nn ca cs2 bb mm cb ps2) := Q11.out.kept b12
          have X12 : Hid (PB v12 XB X0 X1 X2 X3 x 0 cx [] y LX cy L1) := X11.out.kept b12
          have Y12 : Hid (PB v12 YB Y0 Y1 Y2 Y3 x2 0 cx2 [] y2 LY cy2 L2) := Y11.out.kept b12
          have B12 : Hid (Below w.heap.size w v12) := B11.out.trans (b12.mono B11.out.size)
          obtain ⟨mc120, mc121, mc122, mc123, mc124, mc125⟩ := M12.out.box
          obtain ⟨qc120, qc121, qc122, qc123, qc124, qc125⟩ := Q12.out.box
          obtain ⟨xc120, xc121, xc122, xc123, xc124, xc125⟩ := X12.out.box
          obtain ⟨yc120, yc121, yc122, yc123, yc124, yc125⟩ := Y12.out.box
          refine hK.out _ _ ⟨mc120, mc121, mc122, mc123, mc124, mc125, qc120, qc121, qc122, qc123, qc124, qc125, xc120, xc121, xc122, xc123, xc124, xc125, yc120, yc121, yc122, yc123, yc124, yc125⟩ (fun hHeld => ?_)
          clear hK K
          try simp only [List.getElem_toArray, List.getElem_cons_succ, List.getElem_cons_zero, Act.put, List.setIfInBounds_toArray, List.set_cons_zero, List.set_cons_succ]
          refine wpAnyH_take (i := 5) (v := .bool true) rfl (by kernel_rfl) (by kernel_rfl) (by kernel_rfl) (fun _ _ _ h => h) (Or.inl ⟨by rfl, ?_⟩) hHeld ?_
          · intro w' hSw
            obtain ⟨sm0, sm1, sm2, sm3, sm4, sm5, sq0, sq1, sq2, sq3, sq4, sq5, sx0, sx1, sx2, sx3, sx4, sx5, sy0, sy1, sy2, sy3, sy4, sy5⟩ := hSw
            go_simp
          try simp only [List.getElem_toArray, List.getElem_cons_succ, List.getElem_cons_zero, Act.put, List.setIfInBounds_toArray, List.set_cons_zero, List.set_cons_succ]
          refine wpAnyH_take (i := 6) (v := .bool true) rfl (by kernel_rfl) (by kernel_rfl) (by kernel_rfl) (fun _ _ _ h => h) (Or.inl ⟨by rfl, ?_⟩) hHeld ?_
          · intro w' hSw
            obtain ⟨sm0, sm1, sm2, sm3, sm4, sm5, sq0, sq1, sq2, sq3, sq4, sq5, sx0, sx1, sx2, sx3, sx4, sx5, sy0, sy1, sy2, sy3, sy4, sy5⟩ := hSw
            go_simp
          try simp only [List.getElem_toArray, List.getElem_cons_succ, List.getElem_cons_zero, Act.put, List.setIfInBounds_toArray, List.set_cons_zero, List.set_cons_succ]
          refine wpAnyH_take (i := 7) (v := .bool false) rfl (by kernel_rfl) (by kernel_rfl) (by kernel_rfl) (fun _ _ _ h => h) (Or.inl ⟨by rfl, ?_⟩) hHeld ?_
          · intro w' hSw
            obtain ⟨sm0, sm1, sm2, sm3, sm4, sm5, sq0, sq1, sq2, sq3, sq4, sq5, sx0, sx1, sx2, sx3, sx4, sx5, sy0, sy1, sy2, sy3, sy4, sy5⟩ := hSw
            go_simp
          try simp only [List.getElem_toArray, List.getElem_cons_succ, List.getElem_cons_zero, Act.put, List.setIfInBounds_toArray, List.set_cons_zero, List.set_cons_succ]
          refine wpAnyH_take (i := 8) (v := .bool true) rfl (by kernel_rfl) (by kernel_rfl) (by kernel_rfl) (fun _ _ _ h => h) (Or.inl ⟨by rfl, ?_⟩) hHeld ?_
          · intro w' hSw
            obtain ⟨sm0, sm1, sm2, sm3, sm4, sm5, sq0, sq1, sq2, sq3, sq4, sq5, sx0, sx1, sx2, sx3, sx4, sx5, sy0, sy1, sy2, sy3, sy4, sy5⟩ := hSw
            go_simp
          try simp only [List.getElem_toArray, List.getElem_cons_succ, List.getElem_cons_zero, Act.put, List.setIfInBounds_toArray, List.set_cons_zero, List.set_cons_succ]
          refine wpAnyH_take (i := 9) (v := .bool true) rfl (by kernel_rfl) (by kernel_rfl) (by kernel_rfl) (fun _ _ _ h => h) (Or.inl ⟨by rfl, ?_⟩) hHeld ?_
          · intro w' hSw
            obtain ⟨sm0, sm1, sm2, sm3, sm4, sm5, sq0, sq1, sq2, sq3, sq4, sq5, sx0, sx1, sx2, sx3, sx4, sx5, sy0, sy1, sy2, sy3, sy4, sy5⟩ := hSw
            go_simp
          try simp only [List.getElem_toArray, List.getElem_cons_succ, List.getElem_cons_zero, Act.put, List.setIfInBounds_toArray, List.set_cons_zero, List.set_cons_succ]
          refine wpAnyH_take (i := 10) (v := undef) rfl (by kernel_rfl) (by kernel_rfl) (by kernel_rfl) (fun _ _ _ h => h) (Or.inr ⟨by kernel_rfl, rfl⟩) hHeld ?_
          try simp only [List.getElem_toArray, List.getElem_cons_succ, List.getElem_cons_zero, Act.put, List.setIfInBounds_toArray, List.set_cons_zero, List.set_cons_succ]
          refine wpAnyH_take (i := 11) (v := undef) rfl (by kernel_rfl) (by kernel_rfl) (by kernel_rfl) (fun _ _ _ h => h) (Or.inr ⟨by kernel_rfl, rfl⟩) hHeld ?_
          try simp only [List.getElem_toArray, List.getElem_cons_succ, List.getElem_cons_zero, Act.put, List.setIfInBounds_toArray, List.set_cons_zero, List.set_cons_succ]
          refine wpAnyH_take (i := 12) (v := undef) rfl (by kernel_rfl) (by kernel_rfl) (by kernel_rfl) (fun _ _ _ h => h) (Or.inr ⟨by kernel_rfl, rfl⟩) hHeld ?_
          try simp only [List.getElem_toArray, List.getElem_cons_succ, List.getElem_cons_zero, Act.put, List.setIfInBounds_toArray, List.set_cons_zero, List.set_cons_succ]
          refine wpAnyH_take (i := 13) (v := undef) rfl (by kernel_rfl) (by kernel_rfl) (by kernel_rfl) (fun _ _ _ h => h) (Or.inr ⟨by kernel_rfl, rfl⟩) hHeld ?_
          try simp only [List.getElem_toArray, List.getElem_cons_succ, List.getElem_cons_zero, Act.put, List.setIfInBounds_toArray, List.set_cons_zero, List.set_cons_succ]
          refine wpAnyH_take (i := 14) (v := undef) rfl (by kernel_rfl) (by kernel_rfl) (by kernel_rfl) (fun _ _ _ h => h) (Or.inr ⟨by kernel_rfl, rfl⟩) hHeld ?_
          try simp only [List.getElem_toArray, List.getElem_cons_succ, List.getElem_cons_zero, Act.put, List.setIfInBounds_toArray, List.set_cons_zero, List.set_cons_succ]
          refine wpAnyH_take (i := 15) (v := .bool true) rfl (by kernel_rfl) (by kernel_rfl) (by kernel_rfl) (fun _ _ _ h => h) (Or.inl ⟨by rfl, ?_⟩) hHeld ?_
          · intro w' hSw
            obtain ⟨sm0, sm1, sm2, sm3, sm4, sm5, sq0, sq1, sq2, sq3, sq4, sq5, sx0, sx1, sx2, sx3, sx4, sx5, sy0, sy1, sy2, sy3, sy4, sy5⟩ := hSw
            go_simp
          try simp only [List.getElem_toArray, List.getElem_cons_succ, List.getElem_cons_zero, Act.put, List.setIfInBounds_toArray, List.set_cons_zero, List.set_cons_succ]
          refine wpAnyH_take (i := 16) (v := .bool true) rfl (by kernel_rfl) (by kernel_rfl) (by kernel_rfl) (fun _ _ _ h => h) (Or.inl ⟨by rfl, ?_⟩) hHeld ?_
          · intro w' hSw
            obtain ⟨sm0, sm1, sm2, sm3, sm4, sm5, sq0, sq1, sq2, sq3, sq4, sq5, sx0, sx1, sx2, sx3, sx4, sx5, sy0, sy1, sy2, sy3, sy4, sy5⟩ := hSw
            go_simp
          try simp only [List.getElem_toArray, List.getElem_cons_succ, List.getElem_cons_zero, Act.put, List.setIfInBounds_toArray, List.set_cons_zero, List.set_cons_succ]
          refine wpAnyH_take (i := 17) (v := .bool true) rfl (by kernel_rfl) (by kernel_rfl) (by kernel_rfl) (fun _ _ _ h => h) (Or.inl ⟨by rfl, ?_⟩) hHeld ?_
          · intro w' hSw
            obtain ⟨sm0, sm1, sm2, sm3, sm4, sm5, sq0, sq1, sq2, sq3, sq4, sq5, sx0, sx1, sx2, sx3, sx4, sx5, sy0, sy1, sy2, sy3, sy4, sy5⟩ := hSw
            go_simp
          try simp only [List.getElem_toArray, List.getElem_cons_succ, List.getElem_cons_zero, Act.put, List.setIfInBounds_toArray, List.set_cons_zero, List.set_cons_succ]
          refine wpAnyH_take (i := 18) (v := .bool false) rfl (by kernel_rfl) (by kernel_rfl) (by kernel_rfl) (fun _ _ _ h => h) (Or.inl ⟨by rfl, ?_⟩) hHeld ?_
          · intro w' hSw
            obtain ⟨sm0, sm1, sm2, sm3, sm4, sm5, sq0, sq1, sq2, sq3, sq4, sq5, sx0, sx1, sx2, sx3, sx4, sx5, sy0, sy1, sy2, sy3, sy4, sy5⟩ := hSw
            go_simp
          try simp only [List.getElem_toArray, List.getElem_cons_succ, List.getElem_cons_zero, Act.put, List.setIfInBounds_toArray, List.set_cons_zero, List.set_cons_succ]
          refine wpAnyH_take (i := 19) (v := .bool true) rfl (by kernel_rfl) (by kernel_rfl) (by kernel_rfl) (fun _ _ _ h => h) (Or.inl ⟨by rfl, ?_⟩) hHeld ?_
          · intro w' hSw
            obtain ⟨sm0, sm1, sm2, sm3, sm4, sm5, sq0, sq1, sq2, sq3, sq4, sq5, sx0, sx1, sx2, sx3, sx4, sx5, sy0, sy1, sy2, sy3, sy4, sy5⟩ := hSw
            go_simp
          try simp only [List.getElem_toArray, List.getElem_cons_succ, List.getElem_cons_zero, Act.put, List.setIfInBounds_toArray, List.set_cons_zero, List.set_cons_succ]
          refine wpAnyH_take (i := 20) (v := .bool true) rfl (by kernel_rfl) (by kernel_rfl) (by kernel_rfl) (fun _ _ _ h => h) (Or.inl ⟨by rfl, ?_⟩) hHeld ?_
          · intro w' hSw
            obtain ⟨sm0, sm1, sm2, sm3, sm4, sm5, sq0, sq1, sq2, sq3, sq4, sq5, sx0, sx1, sx2, sx3, sx4, sx5, sy0, sy1, sy2, sy3, sy4, sy5⟩ := hSw
            go_simp
          try simp only [List.getElem_toArray, List.getElem_cons_succ, List.getElem_cons_zero, Act.put, List.setIfInBounds_toArray, List.set_cons_zero, List.set_cons_succ]
          refine wpAnyH_take (i := 21) (v := undef) rfl (by kernel_rfl) (by kernel_rfl) (by kernel_rfl) (fun _ _ _ h => h) (Or.inr ⟨by kernel_rfl, rfl⟩) hHeld ?_
          try simp only [List.getElem_toArray, List.getElem_cons_succ, List.getElem_cons_zero, Act.put, List.setIfInBounds_toArray, List.set_cons_zero, List.set_cons_succ]
          refine wpAnyH_take (i := 22) (v := undef) rfl (by kernel_rfl) (by kernel_rfl) (by kernel_rfl) (fun _ _ _ h => h) (Or.inr ⟨by kernel_rfl, rfl⟩) hHeld ?_
          try simp only [List.getElem_toArray, List.getElem_cons_succ, List.getElem_cons_zero, Act.put, List.setIfInBounds_toArray, List.set_cons_zero, List.set_cons_succ]
          refine wpAnyH_take (i := 23) (v := .bool true) rfl (by kernel_rfl) (by kernel_rfl) (by kernel_rfl) (fun _ _ _ h => h) (Or.inl ⟨by rfl, ?_⟩) hHeld ?_
          · intro w' hSw
            obtain ⟨sm0, sm1, sm2, sm3, sm4, sm5, sq0, sq1, sq2, sq3, sq4, sq5, sx0, sx1, sx2, sx3, sx4, sx5, sy0, sy1, sy2, sy3, sy4, sy5⟩ := hSw
            go_simp
          try simp only [List.getElem_toArray, List.getElem_cons_succ, List.getElem_cons_zero, Act.put, List.setIfInBounds_toArray, List.set_cons_zero, List.set_cons_succ]
          refine wpAnyH_take (i := 24) (v := .bool true) rfl (by kernel_rfl) (by kernel_rfl) (by kernel_rfl) (fun _ _ _ h => h) (Or.inl ⟨by rfl, ?_⟩) hHeld ?_
          · intro w' hSw
            obtain ⟨sm0, sm1, sm2, sm3, sm4, sm5, sq0, sq1, sq2, sq3, sq4, sq5, sx0, sx1, sx2, sx3, sx4, sx5, sy0, sy1, sy2, sy3, sy4, sy5⟩ := hSw
            go_simp
          try simp only [List.getElem_toArray, List.getElem_cons_succ, List.getElem_cons_zero, Act.put, List.setIfInBounds_toArray, List.set_cons_zero, List.set_cons_succ]
          refine wpAnyH_take (i := 25) (v := undef) rfl (by kernel_rfl) (by kernel_rfl) (by kernel_rfl) (fun _ _ _ h => h) (Or.inr ⟨by kernel_rfl, rfl⟩) hHeld ?_
          try simp only [List.getElem_toArray, List.getElem_cons_succ, List.getElem_cons_zero, Act.put, List.setIfInBounds_toArray, List.set_cons_zero, List.set_cons_succ]
          refine wpAnyH_take (i := 26) (v := undef) rfl (by kernel_rfl) (by kernel_rfl) (by kernel_rfl) (fun _ _ _ h => h) (Or.inr ⟨by kernel_rfl, rfl⟩) hHeld ?_
          try simp only [List.getElem_toArray, List.getElem_cons_succ, List.getElem_cons_zero, Act.put, List.setIfInBounds_toArray, List.set_cons_zero, List.set_cons_succ]
          refine wpAnyH_take (i := 27) (v := undef) rfl (by kernel_rfl) (by kernel_rfl) (by kernel_rfl) (fun _ _ _ h => h) (Or.inr ⟨by kernel_rfl, rfl⟩) hHeld ?_
          try simp only [List.getElem_toArray, List.getElem_cons_succ, List.getElem_cons_zero, Act.put, List.setIfInBounds_toArray, List.set_cons_zero, List.set_cons_succ]
          refine wpAnyH_take (i := 28) (v := undef) rfl (by kernel_rfl) (by kernel_rfl) (by kernel_rfl) (fun _ _ _ h => h) (Or.inr ⟨by kernel_rfl, rfl⟩) hHeld ?_
          try simp only [List.getElem_toArray, List.getElem_cons_succ, List.getElem_cons_zero, Act.put, List.setIfInBounds_toArray, List.set_cons_zero, List.set_cons_succ]
          refine wpAnyH_take (i := 29) (v := undef) rfl (by kernel_rfl) (by kernel_rfl) (by kernel_rfl) (fun _ _ _ h => h) (Or.inr ⟨by kernel_rfl, rfl⟩) hHeld ?_
          try simp only [List.getElem_toArray, List.getElem_cons_succ, List.getElem_cons_zero, Act.put, List.setIfInBounds_toArray, List.set_cons_zero, List.set_cons_succ]
          refine wpAnyH_take (i := 30) (v := .bool true) rfl (by kernel_rfl) (by kernel_rfl) (by kernel_rfl) (fun _ _ _ h => h) (Or.inl ⟨by rfl, ?_⟩) hHeld ?_
          · intro w' hSw
            obtain ⟨sm0, sm1, sm2, sm3, sm4, sm5, sq0, sq1, sq2, sq3, sq4, sq5, sx0, sx1, sx2, sx3, sx4, sx5, sy0, sy1, sy2, sy3, sy4, sy5⟩ := hSw
            go_simp
          try simp only [List.getElem_toArray, List.getElem_cons_succ, List.getElem_cons_zero, Act.put, List.setIfInBounds_toArray, List.set_cons_zero, List.set_cons_succ]
          refine wpAnyH_take (i := 31) (v := .bool true) rfl (by kernel_rfl) (by kernel_rfl) (by kernel_rfl) (fun _ _ _ h => h) (Or.inl ⟨by rfl, ?_⟩) hHeld ?_
          · intro w' hSw
            obtain ⟨sm0, sm1, sm2, sm3, sm4, sm5, sq0, sq1, sq2, sq3, sq4, sq5, sx0, sx1, sx2, sx3, sx4, sx5, sy0, sy1, sy2, sy3, sy4, sy5⟩ := hSw
            go_simp
          try simp only [List.getElem_toArray, List.getElem_cons_succ, List.getElem_cons_zero, Act.put, List.setIfInBounds_toArray, List.set_cons_zero, List.set_cons_succ]
          refine wpAnyH_take (i := 32) (v := .bool true) rfl (by kernel_rfl) (by kernel_rfl) (by kernel_rfl) (fun _ _ _ h => h) (Or.inl ⟨by rfl, ?_⟩) hHeld ?_
          · intro w' hSw
            obtain ⟨sm0, sm1, sm2, sm3, sm4, sm5, sq0, sq1, sq2, sq3, sq4, sq5, sx0, sx1, sx2, sx3, sx4, sx5, sy0, sy1, sy2, sy3, sy4, sy5⟩ := hSw
            go_simp
          try simp only [List.getElem_toArray, List.getElem_cons_succ, List.getElem_cons_zero, Act.put, List.setIfInBounds_toArray, List.set_cons_zero, List.set_cons_succ]
          refine wpAnyH_done (by kernel_rfl) ?_ _
          try simp only [List.getElem_toArray, List.getElem_cons_succ, List.getElem_cons_zero, Act.put, List.setIfInBounds_toArray, List.set_cons_zero, List.set_cons_succ]
          have BF := B12
          clear hHeld
          go_wp2_with fail
          go_ret
          exact ⟨rfl, BF.out⟩
      | true =>
        cases r2 with
        | false =>
          clear HFK HWI
          go_wp2_with fail
          refine wp_region_held_drew (S := fun w' => w'.cell? ⟨MB, 0, none⟩ = some (.int .i64 k) ∧ w'.cell? ⟨MB, 1, none⟩ = some (.int .i64 d) ∧ w'.cell? ⟨MB, 2, none⟩ = some (.int .i64 wd) ∧ w'.cell? ⟨MB, 3, none⟩ = some (.int .i64 hi) ∧ w'.cell? ⟨MB, 4, none⟩ = some (.slice a n c) ∧ w'.cell? ⟨MB, 5, none⟩ = some (.slice b m cc) ∧ w'.cell? ⟨QB, 0, none⟩ = some (.int .i64 k2) ∧ w'.cell? ⟨QB, 1, none⟩ = some (.int .i64 d2) ∧ w'.cell? ⟨QB, 2, none⟩ = some (.int .i64 wd2) ∧ w'.cell? ⟨QB, 3, none⟩ = some (.int .i64 hi2) ∧ w'.cell? ⟨QB, 4, none⟩ = some (.slice aa nn ca) ∧ w'.cell? ⟨QB, 5, none⟩ = some (.slice bb mm cb) ∧ w'.cell? ⟨XB, 0, none⟩ = some (.int .i64 X0) ∧ w'.cell? ⟨XB, 1, none⟩ = some (.int .i64 X1) ∧ w'.cell? ⟨XB, 2, none⟩ = some (.int .i64 X2) ∧ w'.cell? ⟨XB, 3, none⟩ = some (.int .i64 X3) ∧ w'.cell? ⟨XB, 4, none⟩ = some (.slice x 0 cx) ∧ w'.cell? ⟨XB, 5, none⟩ = some (.slice y LX cy) ∧ w'.cell? ⟨YB, 0, none⟩ = some (.int .i64 Y0) ∧ w'.cell? ⟨YB, 1, none⟩ = some (.int .i64 Y1) ∧ w'.cell? ⟨YB, 2, none⟩ = some (.int .i64 Y2) ∧ w'.cell? ⟨YB, 3, none⟩ = some (.int .i64 Y3) ∧ w'.cell? ⟨YB, 4, none⟩ = some (.slice x2 0 cx2) ∧ w'.cell? ⟨YB, 5, none⟩ = some (.slice y2 LY cy2)) (by kernel_rfl) ⟨m100, m101, m102, m103, m104, m105, q100, q101, q102, q103, q104, q105, x100, x101, x102, x103, x104, x105, y100, y101, y102, y103, y104, y105⟩ (fun hHeld => ?_)
          refine wpAnyH_take (i := 0) (v := .agg #[.int .i64 k, .int .i64 d, .int .i64 wd, .int .i64 hi, .slice a n c, .slice b m cc]) rfl (by kernel_rfl) (by kernel_rfl) (by kernel_rfl) (fun _ _ _ h => h) (Or.inl ⟨by rfl, ?_⟩) hHeld ?_
          · intro w' hSw
            obtain ⟨sm0, sm1, sm2, sm3, sm4, sm5, sq0, sq1, sq2, sq3, sq4, sq5, sx0, sx1, sx2, sx3, sx4, sx5, sy0, sy1, sy2, sy3, sy4, sy5⟩ := hSw
            go_simp
          try simp only [List.getElem_toArray, List.getElem_cons_succ, List.getElem_cons_zero, Act.put, List.setIfInBounds_toArray, List.set_cons_zero, List.set_cons_succ]
          refine wpAnyH_take (i := 1) (v := .agg #[.int .i64 k, .int .i64 d, .int .i64 wd, .int .i64 hi, .slice a n c, .slice b m cc]) rfl (by kernel_rfl) (by kernel_rfl) (by kernel_rfl) (fun _ _ _ h => h) (Or.inl ⟨by rfl, ?_⟩) hHeld ?_
          · intro w' hSw
            obtain ⟨sm0, sm1, sm2, sm3, sm4, sm5, sq0, sq1, sq2, sq3, sq4, sq5, sx0, sx1, sx2, sx3, sx4, sx5, sy0, sy1, sy2, sy3, sy4, sy5⟩ := hSw
            go_simp
          try simp only [List.getElem_toArray, List.getElem_cons_succ, List.getElem_cons_zero, Act.put, List.setIfInBounds_toArray, List.set_cons_zero, List.set_cons_succ]
          refine wpAnyH_take (i := 3) (v := .agg #[.int .i64 k, .int .i64 d, .int .i64 wd, .int .i64 hi, .slice a n c, .slice b m cc]) rfl (by kernel_rfl) (by kernel_rfl) (by kernel_rfl) (fun _ _ _ h => h) (Or.inl ⟨by rfl, ?_⟩) hHeld ?_
          · intro w' hSw
            obtain ⟨sm0, sm1, sm2, sm3, sm4, sm5, sq0, sq1, sq2, sq3, sq4, sq5, sx0, sx1, sx2, sx3, sx4, sx5, sy0, sy1, sy2, sy3, sy4, sy5⟩ := hSw
            go_simp
          try simp only [List.getElem_toArray, List.getElem_cons_succ, List.getElem_cons_zero, Act.put, List.setIfInBounds_toArray, List.set_cons_zero, List.set_cons_succ]
          refine wpAnyH_ready (rs := [2]) (by kernel_rfl) (by simp) ?_
          refine AllReadyH.cons rfl (fun K hK => ?_) AllReadyH.nil
          go_simp
          refine (HAA.out _ Md.out.i4 Md.out.i5).mono ?_
          rintro e v11 ⟨rfl, b11⟩
          have M11 : Hid (PB v11 MB k d wd hi a n c cs b m cc ps) := Md.out.kept b11
          have Q11 : Hid (PB v11 QB k2 d2 wd2 hi2 aa nn ca cs2 bb mm cb ps2) := Qd.out.kept b11
          have X11 : Hid (PB v11 XB X0 X1 X2 X3 x 0 cx [] y LX cy L1) := Xd.out.kept b11
          have Y11 : Hid (PB v11 YB Y0 Y1 Y2 Y3 x2 0 cx2 [] y2 LY cy2 L2) := Yd.out.kept b11
          have B11 : Hid (Below w.heap.size w v11) := Bd.out.trans (b11.mono Bd.out.size)
          obtain ⟨mc110, mc111, mc112, mc113, mc114, mc115⟩ := M11.out.box
          obtain ⟨qc110, qc111, qc112, qc113, qc114, qc115⟩ := Q11.out.box
          obtain ⟨xc110, xc111, xc112, xc113, xc114, xc115⟩ := X11.out.box
          obtain ⟨yc110, yc111, yc112, yc113, yc114, yc115⟩ := Y11.out.box
          refine hK.out _ _ ⟨mc110, mc111, mc112, mc113, mc114, mc115, qc110, qc111, qc112, qc113, qc114, qc115, xc110, xc111, xc112, xc113, xc114, xc115, yc110, yc111, yc112, yc113, yc114, yc115⟩ (fun hHeld => ?_)
          clear hK K
          try simp only [List.getElem_toArray, List.getElem_cons_succ, List.getElem_cons_zero, Act.put, List.setIfInBounds_toArray, List.set_cons_zero, List.set_cons_succ]
          refine wpAnyH_ready (rs := [4]) (by kernel_rfl) (by simp) ?_
          refine AllReadyH.cons rfl (fun K hK => ?_) AllReadyH.nil
          go_simp
          refine (HOS.out _ M11.out.i4 M11.out.i5).mono ?_
          rintro e v12 ⟨rfl, b12⟩
          have M12 : Hid (PB v12 MB k d wd hi a n c cs b m cc ps) := M11.out.kept b12
          have Q12 : Hid (PB v12 QB k2 d2 wd2 hi2 aa nn ca cs2 bb mm cb ps2) := Q11.out.kept b12
          have X12 : Hid (PB v12 XB X0 X1 X2 X3 x 0 cx [] y LX cy L1) := X11.out.kept b12
          have Y12 : Hid (PB v12 YB Y0 Y1 Y2 Y3 x2 0 cx2 [] y2 LY cy2 L2) := Y11.out.kept b12
          have B12 : Hid (Below w.heap.size w v12) := B11.out.trans (b12.mono B11.out.size)
          obtain ⟨mc120, mc121, mc122, mc123, mc124, mc125⟩ := M12.out.box
          obtain ⟨qc120, qc121, qc122, qc123, qc124, qc125⟩ := Q12.out.box
          obtain ⟨xc120, xc121, xc122, xc123, xc124, xc125⟩ := X12.out.box
          obtain ⟨yc120, yc121, yc122, yc123, yc124, yc125⟩ := Y12.out.box
          refine hK.out _ _ ⟨mc120, mc121, mc122, mc123, mc124, mc125, qc120, qc121, qc122, qc123, qc124, qc125, xc120, xc121, xc122, xc123, xc124, xc125, yc120, yc121, yc122, yc123, yc124, yc125⟩ (fun hHeld => ?_)
          clear hK K
          try simp only [List.getElem_toArray, List.getElem_cons_succ, List.getElem_cons_zero, Act.put, List.setIfInBounds_toArray, List.set_cons_zero, List.set_cons_succ]
          refine wpAnyH_take (i := 5) (v := .bool true) rfl (by kernel_rfl) (by kernel_rfl) (by kernel_rfl) (fun _ _ _ h => h) (Or.inl ⟨by rfl, ?_⟩) hHeld ?_
          · intro w' hSw
            obtain ⟨sm0, sm1, sm2, sm3, sm4, sm5, sq0, sq1, sq2, sq3, sq4, sq5, sx0, sx1, sx2, sx3, sx4, sx5, sy0, sy1, sy2, sy3, sy4, sy5⟩ := hSw
            go_simp
          try simp only [List.getElem_toArray, List.getElem_cons_succ, List.getElem_cons_zero, Act.put, List.setIfInBounds_toArray, List.set_cons_zero, List.set_cons_succ]
          refine wpAnyH_take (i := 6) (v := .bool true) rfl (by kernel_rfl) (by kernel_rfl) (by kernel_rfl) (fun _ _ _ h => h) (Or.inl ⟨by rfl, ?_⟩) hHeld ?_
          · intro w' hSw
            obtain ⟨sm0, sm1, sm2, sm3, sm4, sm5, sq0, sq1, sq2, sq3, sq4, sq5, sx0, sx1, sx2, sx3, sx4, sx5, sy0, sy1, sy2, sy3, sy4, sy5⟩ := hSw
            go_simp
          try simp only [List.getElem_toArray, List.getElem_cons_succ, List.getElem_cons_zero, Act.put, List.setIfInBounds_toArray, List.set_cons_zero, List.set_cons_succ]
          refine wpAnyH_take (i := 7) (v := .bool false) rfl (by kernel_rfl) (by kernel_rfl) (by kernel_rfl) (fun _ _ _ h => h) (Or.inl ⟨by rfl, ?_⟩) hHeld ?_
          · intro w' hSw
            obtain ⟨sm0, sm1, sm2, sm3, sm4, sm5, sq0, sq1, sq2, sq3, sq4, sq5, sx0, sx1, sx2, sx3, sx4, sx5, sy0, sy1, sy2, sy3, sy4, sy5⟩ := hSw
            go_simp
          try simp only [List.getElem_toArray, List.getElem_cons_succ, List.getElem_cons_zero, Act.put, List.setIfInBounds_toArray, List.set_cons_zero, List.set_cons_succ]
          refine wpAnyH_take (i := 8) (v := .bool true) rfl (by kernel_rfl) (by kernel_rfl) (by kernel_rfl) (fun _ _ _ h => h) (Or.inl ⟨by rfl, ?_⟩) hHeld ?_
          · intro w' hSw
            obtain ⟨sm0, sm1, sm2, sm3, sm4, sm5, sq0, sq1, sq2, sq3, sq4, sq5, sx0, sx1, sx2, sx3, sx4, sx5, sy0, sy1, sy2, sy3, sy4, sy5⟩ := hSw
            go_simp
          try simp only [List.getElem_toArray, List.getElem_cons_succ, List.getElem_cons_zero, Act.put, List.setIfInBounds_toArray, List.set_cons_zero, List.set_cons_succ]
          refine wpAnyH_take (i := 9) (v := .bool true) rfl (by kernel_rfl) (by kernel_rfl) (by kernel_rfl) (fun _ _ _ h => h) (Or.inl ⟨by rfl, ?_⟩) hHeld ?_
          · intro w' hSw
            obtain ⟨sm0, sm1, sm2, sm3, sm4, sm5, sq0, sq1, sq2, sq3, sq4, sq5, sx0, sx1, sx2, sx3, sx4, sx5, sy0, sy1, sy2, sy3, sy4, sy5⟩ := hSw
            go_simp
          try simp only [List.getElem_toArray, List.getElem_cons_succ, List.getElem_cons_zero, Act.put, List.setIfInBounds_toArray, List.set_cons_zero, List.set_cons_succ]
          refine wpAnyH_take (i := 10) (v := undef) rfl (by kernel_rfl) (by kernel_rfl) (by kernel_rfl) (fun _ _ _ h => h) (Or.inr ⟨by kernel_rfl, rfl⟩) hHeld ?_
          try simp only [List.getElem_toArray, List.getElem_cons_succ, List.getElem_cons_zero, Act.put, List.setIfInBounds_toArray, List.set_cons_zero, List.set_cons_succ]
          refine wpAnyH_take (i := 11) (v := undef) rfl (by kernel_rfl) (by kernel_rfl) (by kernel_rfl) (fun _ _ _ h => h) (Or.inr ⟨by kernel_rfl, rfl⟩) hHeld ?_
          try simp only [List.getElem_toArray, List.getElem_cons_succ, List.getElem_cons_zero, Act.put, List.setIfInBounds_toArray, List.set_cons_zero, List.set_cons_succ]
          refine wpAnyH_take (i := 12) (v := undef) rfl (by kernel_rfl) (by kernel_rfl) (by kernel_rfl) (fun _ _ _ h => h) (Or.inr ⟨by kernel_rfl, rfl⟩) hHeld ?_
          try simp only [List.getElem_toArray, List.getElem_cons_succ, List.getElem_cons_zero, Act.put, List.setIfInBounds_toArray, List.set_cons_zero, List.set_cons_succ]
          refine wpAnyH_take (i := 13) (v := undef) rfl (by kernel_rfl) (by kernel_rfl) (by kernel_rfl) (fun _ _ _ h => h) (Or.inr ⟨by kernel_rfl, rfl⟩) hHeld ?_
          try simp only [List.getElem_toArray, List.getElem_cons_succ, List.getElem_cons_zero, Act.put, List.setIfInBounds_toArray, List.set_cons_zero, List.set_cons_succ]
          refine wpAnyH_take (i := 14) (v := undef) rfl (by kernel_rfl) (by kernel_rfl) (by kernel_rfl) (fun _ _ _ h => h) (Or.inr ⟨by kernel_rfl, rfl⟩) hHeld ?_
          try simp only [List.getElem_toArray, List.getElem_cons_succ, List.getElem_cons_zero, Act.put, List.setIfInBounds_toArray, List.set_cons_zero, List.set_cons_succ]
          refine wpAnyH_take (i := 15) (v := .bool true) rfl (by kernel_rfl) (by kernel_rfl) (by kernel_rfl) (fun _ _ _ h => h) (Or.inl ⟨by rfl, ?_⟩) hHeld ?_
          · intro w' hSw
            obtain ⟨sm0, sm1, sm2, sm3, sm4, sm5, sq0, sq1, sq2, sq3, sq4, sq5, sx0, sx1, sx2, sx3, sx4, sx5, sy0, sy1, sy2, sy3, sy4, sy5⟩ := hSw
            go_simp
          try simp only [List.getElem_toArray, List.getElem_cons_succ, List.getElem_cons_zero, Act.put, List.setIfInBounds_toArray, List.set_cons_zero, List.set_cons_succ]
          refine wpAnyH_take (i := 16) (v := .bool true) rfl (by kernel_rfl) (by kernel_rfl) (by kernel_rfl) (fun _ _ _ h => h) (Or.inl ⟨by rfl, ?_⟩) hHeld ?_
          · intro w' hSw
            obtain ⟨sm0, sm1, sm2, sm3, sm4, sm5, sq0, sq1, sq2, sq3, sq4, sq5, sx0, sx1, sx2, sx3, sx4, sx5, sy0, sy1, sy2, sy3, sy4, sy5⟩ := hSw
            go_simp
          try simp only [List.getElem_toArray, List.getElem_cons_succ, List.getElem_cons_zero, Act.put, List.setIfInBounds_toArray, List.set_cons_zero, List.set_cons_succ]
          refine wpAnyH_take (i := 17) (v := .bool true) rfl (by kernel_rfl) (by kernel_rfl) (by kernel_rfl) (fun _ _ _ h => h) (Or.inl ⟨by rfl, ?_⟩) hHeld ?_
          · intro w' hSw
            obtain ⟨sm0, sm1, sm2, sm3, sm4, sm5, sq0, sq1, sq2, sq3, sq4, sq5, sx0, sx1, sx2, sx3, sx4, sx5, sy0, sy1, sy2, sy3, sy4, sy5⟩ := hSw
            go_simp
          try simp only [List.getElem_toArray, List.getElem_cons_succ, List.getElem_cons_zero, Act.put, List.setIfInBounds_toArray, List.set_cons_zero, List.set_cons_succ]
          refine wpAnyH_take (i := 18) (v := .bool true) rfl (by kernel_rfl) (by kernel_rfl) (by kernel_rfl) (fun _ _ _ h => h) (Or.inl ⟨by rfl, ?_⟩) hHeld ?_
          · intro w' hSw
            obtain ⟨sm0, sm1, sm2, sm3, sm4, sm5, sq0, sq1, sq2, sq3, sq4, sq5, sx0, sx1, sx2, sx3, sx4, sx5, sy0, sy1, sy2, sy3, sy4, sy5⟩ := hSw
            go_simp
          try simp only [List.getElem_toArray, List.getElem_cons_succ, List.getElem_cons_zero, Act.put, List.setIfInBounds_toArray, List.set_cons_zero, List.set_cons_succ]
          refine wpAnyH_take (i := 19) (v := .bool false) rfl (by kernel_rfl) (by kernel_rfl) (by kernel_rfl) (fun _ _ _ h => h) (Or.inl ⟨by rfl, ?_⟩) hHeld ?_
          · intro w' hSw
            obtain ⟨sm0, sm1, sm2, sm3, sm4, sm5, sq0, sq1, sq2, sq3, sq4, sq5, sx0, sx1, sx2, sx3, sx4, sx5, sy0, sy1, sy2, sy3, sy4, sy5⟩ := hSw
            go_simp
          try simp only [List.getElem_toArray, List.getElem_cons_succ, List.getElem_cons_zero, Act.put, List.setIfInBounds_toArray, List.set_cons_zero, List.set_cons_succ]
          refine wpAnyH_take (i := 20) (v := .bool false) rfl (by kernel_rfl) (by kernel_rfl) (by kernel_rfl) (fun _ _ _ h => h) (Or.inl ⟨by rfl, ?_⟩) hHeld ?_
          · intro w' hSw
            obtain ⟨sm0, sm1, sm2, sm3, sm4, sm5, sq0, sq1, sq2, sq3, sq4, sq5, sx0, sx1, sx2, sx3, sx4, sx5, sy0, sy1, sy2, sy3, sy4, sy5⟩ := hSw
            go_simp
          try simp only [List.getElem_toArray, List.getElem_cons_succ, List.getElem_cons_zero, Act.put, List.setIfInBounds_toArray, List.set_cons_zero, List.set_cons_succ]
          refine wpAnyH_take (i := 21) (v := .bool false) rfl (by kernel_rfl) (by kernel_rfl) (by kernel_rfl) (fun _ _ _ h => h) (Or.inl ⟨by rfl, ?_⟩) hHeld ?_
          · intro w' hSw
            obtain ⟨sm0, sm1, sm2, sm3, sm4, sm5, sq0, sq1, sq2, sq3, sq4, sq5, sx0, sx1, sx2, sx3, sx4, sx5, sy0, sy1, sy2, sy3, sy4, sy5⟩ := hSw
            go_simp
          try simp only [List.getElem_toArray, List.getElem_cons_succ, List.getElem_cons_zero, Act.put, List.setIfInBounds_toArray, List.set_cons_zero, List.set_cons_succ]
          refine wpAnyH_take (i := 22) (v := .bool true) rfl (by kernel_rfl) (by kernel_rfl) (by kernel_rfl) (fun _ _ _ h => h) (Or.inl ⟨by rfl, ?_⟩) hHeld ?_
          · intro w' hSw
            obtain ⟨sm0, sm1, sm2, sm3, sm4, sm5, sq0, sq1, sq2, sq3, sq4, sq5, sx0, sx1, sx2, sx3, sx4, sx5, sy0, sy1, sy2, sy3, sy4, sy5⟩ := hSw
            go_simp
          try simp only [List.getElem_toArray, List.getElem_cons_succ, List.getElem_cons_zero, Act.put, List.setIfInBounds_toArray, List.set_cons_zero, List.set_cons_succ]
          refine wpAnyH_take (i := 23) (v := .bool true) rfl (by kernel_rfl) (by kernel_rfl) (by kernel_rfl) (fun _ _ _ h => h) (Or.inl ⟨by rfl, ?_⟩) hHeld ?_
          · intro w' hSw
            obtain ⟨sm0, sm1, sm2, sm3, sm4, sm5, sq0, sq1, sq2, sq3, sq4, sq5, sx0, sx1, sx2, sx3, sx4, sx5, sy0, sy1, sy2, sy3, sy4, sy5⟩ := hSw
            go_simp
          try simp only [List.getElem_toArray, List.getElem_cons_succ, List.getElem_cons_zero, Act.put, List.setIfInBounds_toArray, List.set_cons_zero, List.set_cons_succ]
          refine wpAnyH_take (i := 24) (v := .bool true) rfl (by kernel_rfl) (by kernel_rfl) (by kernel_rfl) (fun _ _ _ h => h) (Or.inl ⟨by rfl, ?_⟩) hHeld ?_
          · intro w' hSw
            obtain ⟨sm0, sm1, sm2, sm3, sm4, sm5, sq0, sq1, sq2, sq3, sq4, sq5, sx0, sx1, sx2, sx3, sx4, sx5, sy0, sy1, sy2, sy3, sy4, sy5⟩ := hSw
            go_simp
          try simp only [List.getElem_toArray, List.getElem_cons_succ, List.getElem_cons_zero, Act.put, List.setIfInBounds_toArray, List.set_cons_zero, List.set_cons_succ]
          refine wpAnyH_take (i := 25) (v := undef) rfl (by kernel_rfl) (by kernel_rfl) (by kernel_rfl) (fun _ _ _ h => h) (Or.inr ⟨by kernel_rfl, rfl⟩) hHeld ?_
          try simp only [List.getElem_toArray, List.getElem_cons_succ, List.getElem_cons_zero, Act.put, List.setIfInBounds_toArray, List.set_cons_zero, List.set_cons_succ]
          refine wpAnyH_take (i := 26) (v := undef) rfl (by kernel_rfl) (by kernel_rfl) (by kernel_rfl) (fun _ _ _ h => h) (Or.inr ⟨by kernel_rfl, rfl⟩) hHeld ?_
          try simp only [List.getElem_toArray, List.getElem_cons_succ, List.getElem_cons_zero, Act.put, List.setIfInBounds_toArray, List.set_cons_zero, List.set_cons_succ]
          refine wpAnyH_take (i := 27) (v := undef) rfl (by kernel_rfl) (by kernel_rfl) (by kernel_rfl) (fun _ _ _ h => h) (Or.inr ⟨by kernel_rfl, rfl⟩) hHeld ?_
          try simp only [List.getElem_toArray, List.getElem_cons_succ, List.getElem_cons_zero, Act.put, List.setIfInBounds_toArray, List.set_cons_zero, List.set_cons_succ]
          refine wpAnyH_take (i := 28) (v := undef) rfl (by kernel_rfl) (by kernel_rfl) (by kernel_rfl) (fun _ _ _ h => h) (Or.inr ⟨by kernel_rfl, rfl⟩) hHeld ?_
          try simp only [List.getElem_toArray, List.getElem_cons_succ, List.getElem_cons_zero, Act.put, List.setIfInBounds_toArray, List.set_cons_zero, List.set_cons_succ]
          refine wpAnyH_take (i := 29) (v := undef) rfl (by kernel_rfl) (by kernel_rfl) (by kernel_rfl) (fun _ _ _ h => h) (Or.inr ⟨by kernel_rfl, rfl⟩) hHeld ?_
          try simp only [List.getElem_toArray, List.getElem_cons_succ, List.getElem_cons_zero, Act.put, List.setIfInBounds_toArray, List.set_cons_zero, List.set_cons_succ]
          refine wpAnyH_take (i := 30) (v := .bool true) rfl (by kernel_rfl) (by kernel_rfl) (by kernel_rfl) (fun _ _ _ h => h) (Or.inl ⟨by rfl, ?_⟩) hHeld ?_
          · intro w' hSw
            obtain ⟨sm0, sm1, sm2, sm3, sm4, sm5, sq0, sq1, sq2, sq3, sq4, sq5, sx0, sx1, sx2, sx3, sx4, sx5, sy0, sy1, sy2, sy3, sy4, sy5⟩ := hSw
            go_simp
          try simp only [List.getElem_toArray, List.getElem_cons_succ, List.getElem_cons_zero, Act.put, List.setIfInBounds_toArray, List.set_cons_zero, List.set_cons_succ]
          refine wpAnyH_take (i := 31) (v := .bool true) rfl (by kernel_rfl) (by kernel_rfl) (by kernel_rfl) (fun _ _ _ h => h) (Or.inl ⟨by rfl, ?_⟩) hHeld ?_
          · intro w' hSw
            obtain ⟨sm0, sm1, sm2, sm3, sm4, sm5, sq0, sq1, sq2, sq3, sq4, sq5, sx0, sx1, sx2, sx3, sx4, sx5, sy0, sy1, sy2, sy3, sy4, sy5⟩ := hSw
            go_simp
          try simp only [List.getElem_toArray, List.getElem_cons_succ, List.getElem_cons_zero, Act.put, List.setIfInBounds_toArray, List.set_cons_zero, List.set_cons_succ]
          refine wpAnyH_take (i := 32) (v := .bool true) rfl (by kernel_rfl) (by kernel_rfl) (by kernel_rfl) (fun _ _ _ h => h) (Or.inl ⟨by rfl, ?_⟩) hHeld ?_
          · intro w' hSw
            obtain ⟨sm0, sm1, sm2, sm3, sm4, sm5, sq0, sq1, sq2, sq3, sq4, sq5, sx0, sx1, sx2, sx3, sx4, sx5, sy0, sy1, sy2, sy3, sy4, sy5⟩ := hSw
            go_simp
          try simp only [List.getElem_toArray, List.getElem_cons_succ, List.getElem_cons_zero, Act.put, List.setIfInBounds_toArray, List.set_cons_zero, List.set_cons_succ]
          refine wpAnyH_done (by kernel_rfl) ?_ _
          try simp only [List.getElem_toArray, List.getElem_cons_succ, List.getElem_cons_zero, Act.put, List.setIfInBounds_toArray, List.set_cons_zero, List.set_cons_succ]
          have BF := B12
          clear hHeld
          go_wp2_with fail
          go_ret
          exact ⟨rfl, BF.out⟩
        | true =>
          have HW : Hid (∀ (x : Option Addr) (cx : Nat) (y : Option Addr) (cy : Nat) (x2 : Option Addr) (cx2 : Nat) (y2 : Option Addr) (cy2 : Nat) (w1 : World), Ints w1 x [] → Ints w1 y L1 → Ints w1 x2 [] → Ints w1 y2 L2 → Calls Try.prog 20 #[.agg #[.int .i64 X0, .int .i64 X1, .int .i64 X2, .int .i64 X3, .slice x 0 cx, .slice y LX cy], .agg #[.int .i64 Y0, .int .i64 Y1, .int .i64 Y2, .int .i64 Y3, .slice x2 0 cx2, .slice y2 LY cy2]] w1 fun e w' => e = .returned (.bool false) ∧ Below w1.heap.size w1 w') := HWI.out rfl rfl
          clear HFK HWI
          go_wp2_with fail
          refine wp_region_held_drew (S := fun w' => w'.cell? ⟨MB, 0, none⟩ = some (.int .i64 k) ∧ w'.cell? ⟨MB, 1, none⟩ = some (.int .i64 d) ∧ w'.cell? ⟨MB, 2, none⟩ = some (.int .i64 wd) ∧ w'.cell? ⟨MB, 3, none⟩ = some (.int .i64 hi) ∧ w'.cell? ⟨MB, 4, none⟩ = some (.slice a n c) ∧ w'.cell? ⟨MB, 5, none⟩ = some (.slice b m cc) ∧ w'.cell? ⟨QB, 0, none⟩ = some (.int .i64 k2) ∧ w'.cell? ⟨QB, 1, none⟩ = some (.int .i64 d2) ∧ w'.cell? ⟨QB, 2, none⟩ = some (.int .i64 wd2) ∧ w'.cell? ⟨QB, 3, none⟩ = some (.int .i64 hi2) ∧ w'.cell? ⟨QB, 4, none⟩ = some (.slice aa nn ca) ∧ w'.cell? ⟨QB, 5, none⟩ = some (.slice bb mm cb) ∧ w'.cell? ⟨XB, 0, none⟩ = some (.int .i64 X0) ∧ w'.cell? ⟨XB, 1, none⟩ = some (.int .i64 X1) ∧ w'.cell? ⟨XB, 2, none⟩ = some (.int .i64 X2) ∧ w'.cell? ⟨XB, 3, none⟩ = some (.int .i64 X3) ∧ w'.cell? ⟨XB, 4, none⟩ = some (.slice x 0 cx) ∧ w'.cell? ⟨XB, 5, none⟩ = some (.slice y LX cy) ∧ w'.cell? ⟨YB, 0, none⟩ = some (.int .i64 Y0) ∧ w'.cell? ⟨YB, 1, none⟩ = some (.int .i64 Y1) ∧ w'.cell? ⟨YB, 2, none⟩ = some (.int .i64 Y2) ∧ w'.cell? ⟨YB, 3, none⟩ = some (.int .i64 Y3) ∧ w'.cell? ⟨YB, 4, none⟩ = some (.slice x2 0 cx2) ∧ w'.cell? ⟨YB, 5, none⟩ = some (.slice y2 LY cy2)) (by kernel_rfl) ⟨m100, m101, m102, m103, m104, m105, q100, q101, q102, q103, q104, q105, x100, x101, x102, x103, x104, x105, y100, y101, y102, y103, y104, y105⟩ (fun hHeld => ?_)
          refine wpAnyH_take (i := 0) (v := .agg #[.int .i64 k, .int .i64 d, .int .i64 wd, .int .i64 hi, .slice a n c, .slice b m cc]) rfl (by kernel_rfl) (by kernel_rfl) (by kernel_rfl) (fun _ _ _ h => h) (Or.inl ⟨by rfl, ?_⟩) hHeld ?_
          · intro w' hSw
            obtain ⟨sm0, sm1, sm2, sm3, sm4, sm5, sq0, sq1, sq2, sq3, sq4, sq5, sx0, sx1, sx2, sx3, sx4, sx5, sy0, sy1, sy2, sy3, sy4, sy5⟩ := hSw
            go_simp
          try simp only [List.getElem_toArray, List.getElem_cons_succ, List.getElem_cons_zero, Act.put, List.setIfInBounds_toArray, List.set_cons_zero, List.set_cons_succ]
          refine wpAnyH_take (i := 1) (v := .agg #[.int .i64 k, .int .i64 d, .int .i64 wd, .int .i64 hi, .slice a n c, .slice b m cc]) rfl (by kernel_rfl) (by kernel_rfl) (by kernel_rfl) (fun _ _ _ h => h) (Or.inl ⟨by rfl, ?_⟩) hHeld ?_
          · intro w' hSw
            obtain ⟨sm0, sm1, sm2, sm3, sm4, sm5, sq0, sq1, sq2, sq3, sq4, sq5, sx0, sx1, sx2, sx3, sx4, sx5, sy0, sy1, sy2, sy3, sy4, sy5⟩ := hSw
            go_simp
          try simp only [List.getElem_toArray, List.getElem_cons_succ, List.getElem_cons_zero, Act.put, List.setIfInBounds_toArray, List.set_cons_zero, List.set_cons_succ]
          refine wpAnyH_take (i := 3) (v := .agg #[.int .i64 k, .int .i64 d, .int .i64 wd, .int .i64 hi, .slice a n c, .slice b m cc]) rfl (by kernel_rfl) (by kernel_rfl) (by kernel_rfl) (fun _ _ _ h => h) (Or.inl ⟨by rfl, ?_⟩) hHeld ?_
          · intro w' hSw
            obtain ⟨sm0, sm1, sm2, sm3, sm4, sm5, sq0, sq1, sq2, sq3, sq4, sq5, sx0, sx1, sx2, sx3, sx4, sx5, sy0, sy1, sy2, sy3, sy4, sy5⟩ := hSw
            go_simp
          try simp only [List.getElem_toArray, List.getElem_cons_succ, List.getElem_cons_zero, Act.put, List.setIfInBounds_toArray, List.set_cons_zero, List.set_cons_succ]
          refine wpAnyH_ready (rs := [2]) (by kernel_rfl) (by simp) ?_
          refine AllReadyH.cons rfl (fun K hK => ?_) AllReadyH.nil
          go_simp
          refine (HAA.out _ Md.out.i4 Md.out.i5).mono ?_
          rintro e v11 ⟨rfl, b11⟩
          have M11 : Hid (PB v11 MB k d wd hi a n c cs b m cc ps) := Md.out.kept b11
          have Q11 : Hid (PB v11 QB k2 d2 wd2 hi2 aa nn ca cs2 bb mm cb ps2) := Qd.out.kept b11
          have X11 : Hid (PB v11 XB X0 X1 X2 X3 x 0 cx [] y LX cy L1) := Xd.out.kept b11
          have Y11 : Hid (PB v11 YB Y0 Y1 Y2 Y3 x2 0 cx2 [] y2 LY cy2 L2) := Yd.out.kept b11
          have B11 : Hid (Below w.heap.size w v11) := Bd.out.trans (b11.mono Bd.out.size)
          obtain ⟨mc110, mc111, mc112, mc113, mc114, mc115⟩ := M11.out.box
          obtain ⟨qc110, qc111, qc112, qc113, qc114, qc115⟩ := Q11.out.box
          obtain ⟨xc110, xc111, xc112, xc113, xc114, xc115⟩ := X11.out.box
          obtain ⟨yc110, yc111, yc112, yc113, yc114, yc115⟩ := Y11.out.box
          refine hK.out _ _ ⟨mc110, mc111, mc112, mc113, mc114, mc115, qc110, qc111, qc112, qc113, qc114, qc115, xc110, xc111, xc112, xc113, xc114, xc115, yc110, yc111, yc112, yc113, yc114, yc115⟩ (fun hHeld => ?_)
          clear hK K
          try simp only [List.getElem_toArray, List.getElem_cons_succ, List.getElem_cons_zero, Act.put, List.setIfInBounds_toArray, List.set_cons_zero, List.set_cons_succ]
          refine wpAnyH_ready (rs := [4]) (by kernel_rfl) (by simp) ?_
          refine AllReadyH.cons rfl (fun K hK => ?_) AllReadyH.nil
          go_simp
          refine (HOS.out _ M11.out.i4 M11.out.i5).mono ?_
          rintro e v12 ⟨rfl, b12⟩
          have M12 : Hid (PB v12 MB k d wd hi a n c cs b m cc ps) := M11.out.kept b12
          have Q12 : Hid (PB v12 QB k2 d2 wd2 hi2 aa nn ca cs2 bb mm cb ps2) := Q11.out.kept b12
          have X12 : Hid (PB v12 XB X0 X1 X2 X3 x 0 cx [] y LX cy L1) := X11.out.kept b12
          have Y12 : Hid (PB v12 YB Y0 Y1 Y2 Y3 x2 0 cx2 [] y2 LY cy2 L2) := Y11.out.kept b12
          have B12 : Hid (Below w.heap.size w v12) := B11.out.trans (b12.mono B11.out.size)
          obtain ⟨mc120, mc121, mc122, mc123, mc124, mc125⟩ := M12.out.box
          obtain ⟨qc120, qc121, qc122, qc123, qc124, qc125⟩ := Q12.out.box
          obtain ⟨xc120, xc121, xc122, xc123, xc124, xc125⟩ := X12.out.box
          obtain ⟨yc120, yc121, yc122, yc123, yc124, yc125⟩ := Y12.out.box
          refine hK.out _ _ ⟨mc120, mc121, mc122, mc123, mc124, mc125, qc120, qc121, qc122, qc123, qc124, qc125, xc120, xc121, xc122, xc123, xc124, xc125, yc120, yc121, yc122, yc123, yc124, yc125⟩ (fun hHeld => ?_)
          clear hK K
          try simp only [List.getElem_toArray, List.getElem_cons_succ, List.getElem_cons_zero, Act.put, List.setIfInBounds_toArray, List.set_cons_zero, List.set_cons_succ]
          refine wpAnyH_take (i := 5) (v := .bool true) rfl (by kernel_rfl) (by kernel_rfl) (by kernel_rfl) (fun _ _ _ h => h) (Or.inl ⟨by rfl, ?_⟩) hHeld ?_
          · intro w' hSw
            obtain ⟨sm0, sm1, sm2, sm3, sm4, sm5, sq0, sq1, sq2, sq3, sq4, sq5, sx0, sx1, sx2, sx3, sx4, sx5, sy0, sy1, sy2, sy3, sy4, sy5⟩ := hSw
            go_simp
          try simp only [List.getElem_toArray, List.getElem_cons_succ, List.getElem_cons_zero, Act.put, List.setIfInBounds_toArray, List.set_cons_zero, List.set_cons_succ]
          refine wpAnyH_take (i := 6) (v := .bool true) rfl (by kernel_rfl) (by kernel_rfl) (by kernel_rfl) (fun _ _ _ h => h) (Or.inl ⟨by rfl, ?_⟩) hHeld ?_
          · intro w' hSw
            obtain ⟨sm0, sm1, sm2, sm3, sm4, sm5, sq0, sq1, sq2, sq3, sq4, sq5, sx0, sx1, sx2, sx3, sx4, sx5, sy0, sy1, sy2, sy3, sy4, sy5⟩ := hSw
            go_simp
          try simp only [List.getElem_toArray, List.getElem_cons_succ, List.getElem_cons_zero, Act.put, List.setIfInBounds_toArray, List.set_cons_zero, List.set_cons_succ]
          refine wpAnyH_take (i := 7) (v := .bool false) rfl (by kernel_rfl) (by kernel_rfl) (by kernel_rfl) (fun _ _ _ h => h) (Or.inl ⟨by rfl, ?_⟩) hHeld ?_
          · intro w' hSw
            obtain ⟨sm0, sm1, sm2, sm3, sm4, sm5, sq0, sq1, sq2, sq3, sq4, sq5, sx0, sx1, sx2, sx3, sx4, sx5, sy0, sy1, sy2, sy3, sy4, sy5⟩ := hSw
            go_simp
          try simp only [List.getElem_toArray, List.getElem_cons_succ, List.getElem_cons_zero, Act.put, List.setIfInBounds_toArray, List.set_cons_zero, List.set_cons_succ]
          refine wpAnyH_take (i := 8) (v := .bool true) rfl (by kernel_rfl) (by kernel_rfl) (by kernel_rfl) (fun _ _ _ h => h) (Or.inl ⟨by rfl, ?_⟩) hHeld ?_
          · intro w' hSw
            obtain ⟨sm0, sm1, sm2, sm3, sm4, sm5, sq0, sq1, sq2, sq3, sq4, sq5, sx0, sx1, sx2, sx3, sx4, sx5, sy0, sy1, sy2, sy3, sy4, sy5⟩ := hSw
            go_simp
          try simp only [List.getElem_toArray, List.getElem_cons_succ, List.getElem_cons_zero, Act.put, List.setIfInBounds_toArray, List.set_cons_zero, List.set_cons_succ]
          refine wpAnyH_take (i := 9) (v := .bool true) rfl (by kernel_rfl) (by kernel_rfl) (by kernel_rfl) (fun _ _ _ h => h) (Or.inl ⟨by rfl, ?_⟩) hHeld ?_
          · intro w' hSw
            obtain ⟨sm0, sm1, sm2, sm3, sm4, sm5, sq0, sq1, sq2, sq3, sq4, sq5, sx0, sx1, sx2, sx3, sx4, sx5, sy0, sy1, sy2, sy3, sy4, sy5⟩ := hSw
            go_simp
          try simp only [List.getElem_toArray, List.getElem_cons_succ, List.getElem_cons_zero, Act.put, List.setIfInBounds_toArray, List.set_cons_zero, List.set_cons_succ]
          refine wpAnyH_take (i := 10) (v := undef) rfl (by kernel_rfl) (by kernel_rfl) (by kernel_rfl) (fun _ _ _ h => h) (Or.inr ⟨by kernel_rfl, rfl⟩) hHeld ?_
          try simp only [List.getElem_toArray, List.getElem_cons_succ, List.getElem_cons_zero, Act.put, List.setIfInBounds_toArray, List.set_cons_zero, List.set_cons_succ]
          refine wpAnyH_take (i := 11) (v := undef) rfl (by kernel_rfl) (by kernel_rfl) (by kernel_rfl) (fun _ _ _ h => h) (Or.inr ⟨by kernel_rfl, rfl⟩) hHeld ?_
          try simp only [List.getElem_toArray, List.getElem_cons_succ, List.getElem_cons_zero, Act.put, List.setIfInBounds_toArray, List.set_cons_zero, List.set_cons_succ]
          refine wpAnyH_take (i := 12) (v := undef) rfl (by kernel_rfl) (by kernel_rfl) (by kernel_rfl) (fun _ _ _ h => h) (Or.inr ⟨by kernel_rfl, rfl⟩) hHeld ?_
          try simp only [List.getElem_toArray, List.getElem_cons_succ, List.getElem_cons_zero, Act.put, List.setIfInBounds_toArray, List.set_cons_zero, List.set_cons_succ]
          refine wpAnyH_take (i := 13) (v := undef) rfl (by kernel_rfl) (by kernel_rfl) (by kernel_rfl) (fun _ _ _ h => h) (Or.inr ⟨by kernel_rfl, rfl⟩) hHeld ?_
          try simp only [List.getElem_toArray, List.getElem_cons_succ, List.getElem_cons_zero, Act.put, List.setIfInBounds_toArray, List.set_cons_zero, List.set_cons_succ]
          refine wpAnyH_take (i := 14) (v := undef) rfl (by kernel_rfl) (by kernel_rfl) (by kernel_rfl) (fun _ _ _ h => h) (Or.inr ⟨by kernel_rfl, rfl⟩) hHeld ?_
          try simp only [List.getElem_toArray, List.getElem_cons_succ, List.getElem_cons_zero, Act.put, List.setIfInBounds_toArray, List.set_cons_zero, List.set_cons_succ]
          refine wpAnyH_take (i := 15) (v := .bool true) rfl (by kernel_rfl) (by kernel_rfl) (by kernel_rfl) (fun _ _ _ h => h) (Or.inl ⟨by rfl, ?_⟩) hHeld ?_
          · intro w' hSw
            obtain ⟨sm0, sm1, sm2, sm3, sm4, sm5, sq0, sq1, sq2, sq3, sq4, sq5, sx0, sx1, sx2, sx3, sx4, sx5, sy0, sy1, sy2, sy3, sy4, sy5⟩ := hSw
            go_simp
          try simp only [List.getElem_toArray, List.getElem_cons_succ, List.getElem_cons_zero, Act.put, List.setIfInBounds_toArray, List.set_cons_zero, List.set_cons_succ]
          refine wpAnyH_take (i := 16) (v := .bool true) rfl (by kernel_rfl) (by kernel_rfl) (by kernel_rfl) (fun _ _ _ h => h) (Or.inl ⟨by rfl, ?_⟩) hHeld ?_
          · intro w' hSw
            obtain ⟨sm0, sm1, sm2, sm3, sm4, sm5, sq0, sq1, sq2, sq3, sq4, sq5, sx0, sx1, sx2, sx3, sx4, sx5, sy0, sy1, sy2, sy3, sy4, sy5⟩ := hSw
            go_simp
          try simp only [List.getElem_toArray, List.getElem_cons_succ, List.getElem_cons_zero, Act.put, List.setIfInBounds_toArray, List.set_cons_zero, List.set_cons_succ]
          refine wpAnyH_take (i := 17) (v := .bool true) rfl (by kernel_rfl) (by kernel_rfl) (by kernel_rfl) (fun _ _ _ h => h) (Or.inl ⟨by rfl, ?_⟩) hHeld ?_
          · intro w' hSw
            obtain ⟨sm0, sm1, sm2, sm3, sm4, sm5, sq0, sq1, sq2, sq3, sq4, sq5, sx0, sx1, sx2, sx3, sx4, sx5, sy0, sy1, sy2, sy3, sy4, sy5⟩ := hSw
            go_simp
          try simp only [List.getElem_toArray, List.getElem_cons_succ, List.getElem_cons_zero, Act.put, List.setIfInBounds_toArray, List.set_cons_zero, List.set_cons_succ]
          refine wpAnyH_take (i := 18) (v := .bool true) rfl (by kernel_rfl) (by kernel_rfl) (by kernel_rfl) (fun _ _ _ h => h) (Or.inl ⟨by rfl, ?_⟩) hHeld ?_
          · intro w' hSw
            obtain ⟨sm0, sm1, sm2, sm3, sm4, sm5, sq0, sq1, sq2, sq3, sq4, sq5, sx0, sx1, sx2, sx3, sx4, sx5, sy0, sy1, sy2, sy3, sy4, sy5⟩ := hSw
            go_simp
          try simp only [List.getElem_toArray, List.getElem_cons_succ, List.getElem_cons_zero, Act.put, List.setIfInBounds_toArray, List.set_cons_zero, List.set_cons_succ]
          refine wpAnyH_take (i := 19) (v := .bool false) rfl (by kernel_rfl) (by kernel_rfl) (by kernel_rfl) (fun _ _ _ h => h) (Or.inl ⟨by rfl, ?_⟩) hHeld ?_
          · intro w' hSw
            obtain ⟨sm0, sm1, sm2, sm3, sm4, sm5, sq0, sq1, sq2, sq3, sq4, sq5, sx0, sx1, sx2, sx3, sx4, sx5, sy0, sy1, sy2, sy3, sy4, sy5⟩ := hSw
            go_simp
          try simp only [List.getElem_toArray, List.getElem_cons_succ, List.getElem_cons_zero, Act.put, List.setIfInBounds_toArray, List.set_cons_zero, List.set_cons_succ]
          refine wpAnyH_take (i := 20) (v := .bool false) rfl (by kernel_rfl) (by kernel_rfl) (by kernel_rfl) (fun _ _ _ h => h) (Or.inl ⟨by rfl, ?_⟩) hHeld ?_
          · intro w' hSw
            obtain ⟨sm0, sm1, sm2, sm3, sm4, sm5, sq0, sq1, sq2, sq3, sq4, sq5, sx0, sx1, sx2, sx3, sx4, sx5, sy0, sy1, sy2, sy3, sy4, sy5⟩ := hSw
            go_simp
          try simp only [List.getElem_toArray, List.getElem_cons_succ, List.getElem_cons_zero, Act.put, List.setIfInBounds_toArray, List.set_cons_zero, List.set_cons_succ]
          refine wpAnyH_take (i := 21) (v := .bool true) rfl (by kernel_rfl) (by kernel_rfl) (by kernel_rfl) (fun _ _ _ h => h) (Or.inl ⟨by rfl, ?_⟩) hHeld ?_
          · intro w' hSw
            obtain ⟨sm0, sm1, sm2, sm3, sm4, sm5, sq0, sq1, sq2, sq3, sq4, sq5, sx0, sx1, sx2, sx3, sx4, sx5, sy0, sy1, sy2, sy3, sy4, sy5⟩ := hSw
            go_simp
          try simp only [List.getElem_toArray, List.getElem_cons_succ, List.getElem_cons_zero, Act.put, List.setIfInBounds_toArray, List.set_cons_zero, List.set_cons_succ]
          refine wpAnyH_take (i := 22) (v := .bool false) rfl (by kernel_rfl) (by kernel_rfl) (by kernel_rfl) (fun _ _ _ h => h) (Or.inl ⟨by rfl, ?_⟩) hHeld ?_
          · intro w' hSw
            obtain ⟨sm0, sm1, sm2, sm3, sm4, sm5, sq0, sq1, sq2, sq3, sq4, sq5, sx0, sx1, sx2, sx3, sx4, sx5, sy0, sy1, sy2, sy3, sy4, sy5⟩ := hSw
            go_simp
          try simp only [List.getElem_toArray, List.getElem_cons_succ, List.getElem_cons_zero, Act.put, List.setIfInBounds_toArray, List.set_cons_zero, List.set_cons_succ]
          refine wpAnyH_take (i := 23) (v := .bool false) rfl (by kernel_rfl) (by kernel_rfl) (by kernel_rfl) (fun _ _ _ h => h) (Or.inl ⟨by rfl, ?_⟩) hHeld ?_
          · intro w' hSw
            obtain ⟨sm0, sm1, sm2, sm3, sm4, sm5, sq0, sq1, sq2, sq3, sq4, sq5, sx0, sx1, sx2, sx3, sx4, sx5, sy0, sy1, sy2, sy3, sy4, sy5⟩ := hSw
            go_simp
          try simp only [List.getElem_toArray, List.getElem_cons_succ, List.getElem_cons_zero, Act.put, List.setIfInBounds_toArray, List.set_cons_zero, List.set_cons_succ]
          refine wpAnyH_take (i := 24) (v := .bool false) rfl (by kernel_rfl) (by kernel_rfl) (by kernel_rfl) (fun _ _ _ h => h) (Or.inl ⟨by rfl, ?_⟩) hHeld ?_
          · intro w' hSw
            obtain ⟨sm0, sm1, sm2, sm3, sm4, sm5, sq0, sq1, sq2, sq3, sq4, sq5, sx0, sx1, sx2, sx3, sx4, sx5, sy0, sy1, sy2, sy3, sy4, sy5⟩ := hSw
            go_simp
          try simp only [List.getElem_toArray, List.getElem_cons_succ, List.getElem_cons_zero, Act.put, List.setIfInBounds_toArray, List.set_cons_zero, List.set_cons_succ]
          refine wpAnyH_take (i := 25) (v := .bool false) rfl (by kernel_rfl) (by kernel_rfl) (by kernel_rfl) (fun _ _ _ h => h) (Or.inl ⟨by rfl, ?_⟩) hHeld ?_
          · intro w' hSw
            obtain ⟨sm0, sm1, sm2, sm3, sm4, sm5, sq0, sq1, sq2, sq3, sq4, sq5, sx0, sx1, sx2, sx3, sx4, sx5, sy0, sy1, sy2, sy3, sy4, sy5⟩ := hSw
            go_simp
          try simp only [List.getElem_toArray, List.getElem_cons_succ, List.getElem_cons_zero, Act.put, List.setIfInBounds_toArray, List.set_cons_zero, List.set_cons_succ]
          refine wpAnyH_take (i := 26) (v := .agg #[.int .i64 X0, .int .i64 X1, .int .i64 X2, .int .i64 X3, .slice x 0 cx, .slice y LX cy]) rfl (by kernel_rfl) (by kernel_rfl) (by kernel_rfl) (fun _ _ _ h => h) (Or.inl ⟨by rfl, ?_⟩) hHeld ?_
          · intro w' hSw
            obtain ⟨sm0, sm1, sm2, sm3, sm4, sm5, sq0, sq1, sq2, sq3, sq4, sq5, sx0, sx1, sx2, sx3, sx4, sx5, sy0, sy1, sy2, sy3, sy4, sy5⟩ := hSw
            go_simp
          try simp only [List.getElem_toArray, List.getElem_cons_succ, List.getElem_cons_zero, Act.put, List.setIfInBounds_toArray, List.set_cons_zero, List.set_cons_succ]
          refine wpAnyH_take (i := 27) (v := .agg #[.int .i64 Y0, .int .i64 Y1, .int .i64 Y2, .int .i64 Y3, .slice x2 0 cx2, .slice y2 LY cy2]) rfl (by kernel_rfl) (by kernel_rfl) (by kernel_rfl) (fun _ _ _ h => h) (Or.inl ⟨by rfl, ?_⟩) hHeld ?_
          · intro w' hSw
            obtain ⟨sm0, sm1, sm2, sm3, sm4, sm5, sq0, sq1, sq2, sq3, sq4, sq5, sx0, sx1, sx2, sx3, sx4, sx5, sy0, sy1, sy2, sy3, sy4, sy5⟩ := hSw
            go_simp
          try simp only [List.getElem_toArray, List.getElem_cons_succ, List.getElem_cons_zero, Act.put, List.setIfInBounds_toArray, List.set_cons_zero, List.set_cons_succ]
          refine wpAnyH_ready (rs := [28]) (by kernel_rfl) (by simp) ?_
          refine AllReadyH.cons rfl (fun K hK => ?_) AllReadyH.nil
          go_simp
          refine (HW.out x cx y cy x2 cx2 y2 cy2 _ X12.out.i4 X12.out.i5 Y12.out.i4 Y12.out.i5).mono ?_
          rintro e v13 ⟨rfl, b13⟩
          have M13 : Hid (PB v13 MB k d wd hi a n c cs b m cc ps) := M12.out.kept b13
          have Q13 : Hid (PB v13 QB k2 d2 wd2 hi2 aa nn ca cs2 bb mm cb ps2) := Q12.out.kept b13
          have X13 : Hid (PB v13 XB X0 X1 X2 X3 x 0 cx [] y LX cy L1) := X12.out.kept b13
          have Y13 : Hid (PB v13 YB Y0 Y1 Y2 Y3 x2 0 cx2 [] y2 LY cy2 L2) := Y12.out.kept b13
          have B13 : Hid (Below w.heap.size w v13) := B12.out.trans (b13.mono B12.out.size)
          obtain ⟨mc130, mc131, mc132, mc133, mc134, mc135⟩ := M13.out.box
          obtain ⟨qc130, qc131, qc132, qc133, qc134, qc135⟩ := Q13.out.box
          obtain ⟨xc130, xc131, xc132, xc133, xc134, xc135⟩ := X13.out.box
          obtain ⟨yc130, yc131, yc132, yc133, yc134, yc135⟩ := Y13.out.box
          refine hK.out _ _ ⟨mc130, mc131, mc132, mc133, mc134, mc135, qc130, qc131, qc132, qc133, qc134, qc135, xc130, xc131, xc132, xc133, xc134, xc135, yc130, yc131, yc132, yc133, yc134, yc135⟩ (fun hHeld => ?_)
          clear hK K
          try simp only [List.getElem_toArray, List.getElem_cons_succ, List.getElem_cons_zero, Act.put, List.setIfInBounds_toArray, List.set_cons_zero, List.set_cons_succ]
          refine wpAnyH_take (i := 29) (v := .bool true) rfl (by kernel_rfl) (by kernel_rfl) (by kernel_rfl) (fun _ _ _ h => h) (Or.inl ⟨by rfl, ?_⟩) hHeld ?_
          · intro w' hSw
            obtain ⟨sm0, sm1, sm2, sm3, sm4, sm5, sq0, sq1, sq2, sq3, sq4, sq5, sx0, sx1, sx2, sx3, sx4, sx5, sy0, sy1, sy2, sy3, sy4, sy5⟩ := hSw
            go_simp
          try simp only [List.getElem_toArray, List.getElem_cons_succ, List.getElem_cons_zero, Act.put, List.setIfInBounds_toArray, List.set_cons_zero, List.set_cons_succ]
          refine wpAnyH_take (i := 30) (v := .bool true) rfl (by kernel_rfl) (by kernel_rfl) (by kernel_rfl) (fun _ _ _ h => h) (Or.inl ⟨by rfl, ?_⟩) hHeld ?_
          · intro w' hSw
            obtain ⟨sm0, sm1, sm2, sm3, sm4, sm5, sq0, sq1, sq2, sq3, sq4, sq5, sx0, sx1, sx2, sx3, sx4, sx5, sy0, sy1, sy2, sy3, sy4, sy5⟩ := hSw
            go_simp
          try simp only [List.getElem_toArray, List.getElem_cons_succ, List.getElem_cons_zero, Act.put, List.setIfInBounds_toArray, List.set_cons_zero, List.set_cons_succ]
          refine wpAnyH_take (i := 31) (v := .bool true) rfl (by kernel_rfl) (by kernel_rfl) (by kernel_rfl) (fun _ _ _ h => h) (Or.inl ⟨by rfl, ?_⟩) hHeld ?_
          · intro w' hSw
            obtain ⟨sm0, sm1, sm2, sm3, sm4, sm5, sq0, sq1, sq2, sq3, sq4, sq5, sx0, sx1, sx2, sx3, sx4, sx5, sy0, sy1, sy2, sy3, sy4, sy5⟩ := hSw
            go_simp
          try simp only [List.getElem_toArray, List.getElem_cons_succ, List.getElem_cons_zero, Act.put, List.setIfInBounds_toArray, List.set_cons_zero, List.set_cons_succ]
          refine wpAnyH_take (i := 32) (v := .bool true) rfl (by kernel_rfl) (by kernel_rfl) (by kernel_rfl) (fun _ _ _ h => h) (Or.inl ⟨by rfl, ?_⟩) hHeld ?_
          · intro w' hSw
            obtain ⟨sm0, sm1, sm2, sm3, sm4, sm5, sq0, sq1, sq2, sq3, sq4, sq5, sx0, sx1, sx2, sx3, sx4, sx5, sy0, sy1, sy2, sy3, sy4, sy5⟩ := hSw
            go_simp
          try simp only [List.getElem_toArray, List.getElem_cons_succ, List.getElem_cons_zero, Act.put, List.setIfInBounds_toArray, List.set_cons_zero, List.set_cons_succ]
          refine wpAnyH_done (by kernel_rfl) ?_ _
          try simp only [List.getElem_toArray, List.getElem_cons_succ, List.getElem_cons_zero, Act.put, List.setIfInBounds_toArray, List.set_cons_zero, List.set_cons_succ]
          have BF := B13
          clear hHeld
          go_wp2_with fail
          go_ret
          exact ⟨rfl, BF.out⟩
    | true =>
      cases r1 with
      | false =>
        cases r2 with
        | false =>
          obtain ⟨PF, QF, hfa, hfb, hff⟩ := HFK.out rfl
          have HFA : Hid (∀ w1 : World, Ints w1 a cs → Ints w1 b ps → Calls Try.prog 19 #[.agg #[.int .i64 k, .int .i64 d, .int .i64 wd, .int .i64 hi, .slice a n c, .slice b m cc]] w1 fun e w' => (∃ fx fcx fy fcy, e = .returned (.agg #[.int .i64 k, .int .i64 d, .int .i64 wd, .int .i64 hi, .slice fx n fcx, .slice fy m fcy]) ∧ Ints w' fx cs ∧ Ints w' fy PF) ∧ Below w1.heap.size w1 w') := hfa
          have HFB : Hid (∀ w1 : World, Ints w1 aa cs2 → Ints w1 bb ps2 → Calls Try.prog 19 #[.agg #[.int .i64 k2, .int .i64 d2, .int .i64 wd2, .int .i64 hi2, .slice aa nn ca, .slice bb mm cb]] w1 fun e w' => (∃ fx2 fcx2 fy2 fcy2, e = .returned (.agg #[.int .i64 k2, .int .i64 d2, .int .i64 wd2, .int .i64 hi2, .slice fx2 nn fcx2, .slice fy2 mm fcy2]) ∧ Ints w' fx2 cs2 ∧ Ints w' fy2 QF) ∧ Below w1.heap.size w1 w') := hfb
          have HFF : Hid (∀ (fx : Option Addr) (fcx : Nat) (fy : Option Addr) (fcy : Nat) (fx2 : Option Addr) (fcx2 : Nat) (fy2 : Option Addr) (fcy2 : Nat) (w1 : World), Ints w1 fx cs → Ints w1 fy PF → Ints w1 fx2 cs2 → Ints w1 fy2 QF → Calls Try.prog 14 #[.agg #[.int .i64 k, .int .i64 d, .int .i64 wd, .int .i64 hi, .slice fx n fcx, .slice fy m fcy], .agg #[.int .i64 k2, .int .i64 d2, .int .i64 wd2, .int .i64 hi2, .slice fx2 nn fcx2, .slice fy2 mm fcy2]] w1 fun e w' => e = .returned (.bool true) ∧ Below w1.heap.size w1 w') := hff
          clear hfa hfb hff
          clear HFK HWI
          go_wp2_with fail
          refine wp_region_held_drew (S := fun w' => w'.cell? ⟨MB, 0, none⟩ = some (.int .i64 k) ∧ w'.cell? ⟨MB, 1, none⟩ = some (.int .i64 d) ∧ w'.cell? ⟨MB, 2, none⟩ = some (.int .i64 wd) ∧ w'.cell? ⟨MB, 3, none⟩ = some (.int .i64 hi) ∧ w'.cell? ⟨MB, 4, none⟩ = some (.slice a n c) ∧ w'.cell? ⟨MB, 5, none⟩ = some (.slice b m cc) ∧ w'.cell? ⟨QB, 0, none⟩ = some (.int .i64 k2) ∧ w'.cell? ⟨QB, 1, none⟩ = some (.int .i64 d2) ∧ w'.cell? ⟨QB, 2, none⟩ = some (.int .i64 wd2) ∧ w'.cell? ⟨QB, 3, none⟩ = some (.int .i64 hi2) ∧ w'.cell? ⟨QB, 4, none⟩ = some (.slice aa nn ca) ∧ w'.cell? ⟨QB, 5, none⟩ = some (.slice bb mm cb) ∧ w'.cell? ⟨XB, 0, none⟩ = some (.int .i64 X0) ∧ w'.cell? ⟨XB, 1, none⟩ = some (.int .i64 X1) ∧ w'.cell? ⟨XB, 2, none⟩ = some (.int .i64 X2) ∧ w'.cell? ⟨XB, 3, none⟩ = some (.int .i64 X3) ∧ w'.cell? ⟨XB, 4, none⟩ = some (.slice x 0 cx) ∧ w'.cell? ⟨XB, 5, none⟩ = some (.slice y LX cy) ∧ w'.cell? ⟨YB, 0, none⟩ = some (.int .i64 Y0) ∧ w'.cell? ⟨YB, 1, none⟩ = some (.int .i64 Y1) ∧ w'.cell? ⟨YB, 2, none⟩ = some (.int .i64 Y2) ∧ w'.cell? ⟨YB, 3, none⟩ = some (.int .i64 Y3) ∧ w'.cell? ⟨YB, 4, none⟩ = some (.slice x2 0 cx2) ∧ w'.cell? ⟨YB, 5, none⟩ = some (.slice y2 LY cy2)) (by kernel_rfl) ⟨m100, m101, m102, m103, m104, m105, q100, q101, q102, q103, q104, q105, x100, x101, x102, x103, x104, x105, y100, y101, y102, y103, y104, y105⟩ (fun hHeld => ?_)
          refine wpAnyH_take (i := 0) (v := .agg #[.int .i64 k, .int .i64 d, .int .i64 wd, .int .i64 hi, .slice a n c, .slice b m cc]) rfl (by kernel_rfl) (by kernel_rfl) (by kernel_rfl) (fun _ _ _ h => h) (Or.inl ⟨by rfl, ?_⟩) hHeld ?_
          · intro w' hSw
            obtain ⟨sm0, sm1, sm2, sm3, sm4, sm5, sq0, sq1, sq2, sq3, sq4, sq5, sx0, sx1, sx2, sx3, sx4, sx5, sy0, sy1, sy2, sy3, sy4, sy5⟩ := hSw
            go_simp
          try simp only [List.getElem_toArray, List.getElem_cons_succ, List.getElem_cons_zero, Act.put, List.setIfInBounds_toArray, List.set_cons_zero, List.set_cons_succ]
          refine wpAnyH_take (i := 1) (v := .agg #[.int .i64 k, .int .i64 d, .int .i64 wd, .int .i64 hi, .slice a n c, .slice b m cc]) rfl (by kernel_rfl) (by kernel_rfl) (by kernel_rfl) (fun _ _ _ h => h) (Or.inl ⟨by rfl, ?_⟩) hHeld ?_
          · intro w' hSw
            obtain ⟨sm0, sm1, sm2, sm3, sm4, sm5, sq0, sq1, sq2, sq3, sq4, sq5, sx0, sx1, sx2, sx3, sx4, sx5, sy0, sy1, sy2, sy3, sy4, sy5⟩ := hSw
            go_simp
          try simp only [List.getElem_toArray, List.getElem_cons_succ, List.getElem_cons_zero, Act.put, List.setIfInBounds_toArray, List.set_cons_zero, List.set_cons_succ]
          refine wpAnyH_take (i := 3) (v := .agg #[.int .i64 k, .int .i64 d, .int .i64 wd, .int .i64 hi, .slice a n c, .slice b m cc]) rfl (by kernel_rfl) (by kernel_rfl) (by kernel_rfl) (fun _ _ _ h => h) (Or.inl ⟨by rfl, ?_⟩) hHeld ?_
          · intro w' hSw
            obtain ⟨sm0, sm1, sm2, sm3, sm4, sm5, sq0, sq1, sq2, sq3, sq4, sq5, sx0, sx1, sx2, sx3, sx4, sx5, sy0, sy1, sy2, sy3, sy4, sy5⟩ := hSw
            go_simp
          try simp only [List.getElem_toArray, List.getElem_cons_succ, List.getElem_cons_zero, Act.put, List.setIfInBounds_toArray, List.set_cons_zero, List.set_cons_succ]
          refine wpAnyH_ready (rs := [2]) (by kernel_rfl) (by simp) ?_
          refine AllReadyH.cons rfl (fun K hK => ?_) AllReadyH.nil
          go_simp
          refine (HAA.out _ Md.out.i4 Md.out.i5).mono ?_
          rintro e v11 ⟨rfl, b11⟩
          have M11 : Hid (PB v11 MB k d wd hi a n c cs b m cc ps) := Md.out.kept b11
          have Q11 : Hid (PB v11 QB k2 d2 wd2 hi2 aa nn ca cs2 bb mm cb ps2) := Qd.out.kept b11
          have X11 : Hid (PB v11 XB X0 X1 X2 X3 x 0 cx [] y LX cy L1) := Xd.out.kept b11
          have Y11 : Hid (PB v11 YB Y0 Y1 Y2 Y3 x2 0 cx2 [] y2 LY cy2 L2) := Yd.out.kept b11
          have B11 : Hid (Below w.heap.size w v11) := Bd.out.trans (b11.mono Bd.out.size)
          obtain ⟨mc110, mc111, mc112, mc113, mc114, mc115⟩ := M11.out.box
          obtain ⟨qc110, qc111, qc112, qc113, qc114, qc115⟩ := Q11.out.box
          obtain ⟨xc110, xc111, xc112, xc113, xc114, xc115⟩ := X11.out.box
          obtain ⟨yc110, yc111, yc112, yc113, yc114, yc115⟩ := Y11.out.box
          refine hK.out _ _ ⟨mc110, mc111, mc112, mc113, mc114, mc115, qc110, qc111, qc112, qc113, qc114, qc115, xc110, xc111, xc112, xc113, xc114, xc115, yc110, yc111, yc112, yc113, yc114, yc115⟩ (fun hHeld => ?_)
          clear hK K
          try simp only [List.getElem_toArray, List.getElem_cons_succ, List.getElem_cons_zero, Act.put, List.setIfInBounds_toArray, List.set_cons_zero, List.set_cons_succ]
          refine wpAnyH_ready (rs := [4]) (by kernel_rfl) (by simp) ?_
          refine AllReadyH.cons rfl (fun K hK => ?_) AllReadyH.nil
          go_simp
          refine (HOS.out _ M11.out.i4 M11.out.i5).mono ?_
          rintro e v12 ⟨rfl, b12⟩
          have M12 : Hid (PB v12 MB k d wd hi a n c cs b m cc ps) := M11.out.kept b12
          have Q12 : Hid (PB v12 QB k2 d2 wd2 hi2 aa nn ca cs2 bb mm cb ps2) := Q11.out.kept b12
          have X12 : Hid (PB v12 XB X0 X1 X2 X3 x 0 cx [] y LX cy L1) := X11.out.kept b12
          have Y12 : Hid (PB v12 YB Y0 Y1 Y2 Y3 x2 0 cx2 [] y2 LY cy2 L2) := Y11.out.kept b12
          have B12 : Hid (Below w.heap.size w v12) := B11.out.trans (b12.mono B11.out.size)
          obtain ⟨mc120, mc121, mc122, mc123, mc124, mc125⟩ := M12.out.box
          obtain ⟨qc120, qc121, qc122, qc123, qc124, qc125⟩ := Q12.out.box
          obtain ⟨xc120, xc121, xc122, xc123, xc124, xc125⟩ := X12.out.box
          obtain ⟨yc120, yc121, yc122, yc123, yc124, yc125⟩ := Y12.out.box
          refine hK.out _ _ ⟨mc120, mc121, mc122, mc123, mc124, mc125, qc120, qc121, qc122, qc123, qc124, qc125, xc120, xc121, xc122, xc123, xc124, xc125, yc120, yc121, yc122, yc123, yc124, yc125⟩ (fun hHeld => ?_)
          clear hK K
          try simp only [List.getElem_toArray, List.getElem_cons_succ, List.getElem_cons_zero, Act.put, List.setIfInBounds_toArray, List.set_cons_zero, List.set_cons_succ]
          refine wpAnyH_take (i := 5) (v := .bool true) rfl (by kernel_rfl) (by kernel_rfl) (by kernel_rfl) (fun _ _ _ h => h) (Or.inl ⟨by rfl, ?_⟩) hHeld ?_
          · intro w' hSw
            obtain ⟨sm0, sm1, sm2, sm3, sm4, sm5, sq0, sq1, sq2, sq3, sq4, sq5, sx0, sx1, sx2, sx3, sx4, sx5, sy0, sy1, sy2, sy3, sy4, sy5⟩ := hSw
            go_simp
          try simp only [List.getElem_toArray, List.getElem_cons_succ, List.getElem_cons_zero, Act.put, List.setIfInBounds_toArray, List.set_cons_zero, List.set_cons_succ]
          refine wpAnyH_take (i := 6) (v := .bool true) rfl (by kernel_rfl) (by kernel_rfl) (by kernel_rfl) (fun _ _ _ h => h) (Or.inl ⟨by rfl, ?_⟩) hHeld ?_
          · intro w' hSw
            obtain ⟨sm0, sm1, sm2, sm3, sm4, sm5, sq0, sq1, sq2, sq3, sq4, sq5, sx0, sx1, sx2, sx3, sx4, sx5, sy0, sy1, sy2, sy3, sy4, sy5⟩ := hSw
            go_simp
          try simp only [List.getElem_toArray, List.getElem_cons_succ, List.getElem_cons_zero, Act.put, List.setIfInBounds_toArray, List.set_cons_zero, List.set_cons_succ]
          refine wpAnyH_take (i := 7) (v := .bool true) rfl (by kernel_rfl) (by kernel_rfl) (by kernel_rfl) (fun _ _ _ h => h) (Or.inl ⟨by rfl, ?_⟩) hHeld ?_
          · intro w' hSw
            obtain ⟨sm0, sm1, sm2, sm3, sm4, sm5, sq0, sq1, sq2, sq3, sq4, sq5, sx0, sx1, sx2, sx3, sx4, sx5, sy0, sy1, sy2, sy3, sy4, sy5⟩ := hSw
            go_simp
          try simp only [List.getElem_toArray, List.getElem_cons_succ, List.getElem_cons_zero, Act.put, List.setIfInBounds_toArray, List.set_cons_zero, List.set_cons_succ]
          refine wpAnyH_take (i := 8) (v := .bool false) rfl (by kernel_rfl) (by kernel_rfl) (by kernel_rfl) (fun _ _ _ h => h) (Or.inl ⟨by rfl, ?_⟩) hHeld ?_
          · intro w' hSw
            obtain ⟨sm0, sm1, sm2, sm3, sm4, sm5, sq0, sq1, sq2, sq3, sq4, sq5, sx0, sx1, sx2, sx3, sx4, sx5, sy0, sy1, sy2, sy3, sy4, sy5⟩ := hSw
            go_simp
          try simp only [List.getElem_toArray, List.getElem_cons_succ, List.getElem_cons_zero, Act.put, List.setIfInBounds_toArray, List.set_cons_zero, List.set_cons_succ]
          refine wpAnyH_take (i := 9) (v := .bool false) rfl (by kernel_rfl) (by kernel_rfl) (by kernel_rfl) (fun _ _ _ h => h) (Or.inl ⟨by rfl, ?_⟩) hHeld ?_
          · intro w' hSw
            obtain ⟨sm0, sm1, sm2, sm3, sm4, sm5, sq0, sq1, sq2, sq3, sq4, sq5, sx0, sx1, sx2, sx3, sx4, sx5, sy0, sy1, sy2, sy3, sy4, sy5⟩ := hSw
            go_simp
          try simp only [List.getElem_toArray, List.getElem_cons_succ, List.getElem_cons_zero, Act.put, List.setIfInBounds_toArray, List.set_cons_zero, List.set_cons_succ]
          refine wpAnyH_take (i := 10) (v := .agg #[.int .i64 k, .int .i64 d, .int .i64 wd, .int .i64 hi, .slice a n c, .slice b m cc]) rfl (by kernel_rfl) (by kernel_rfl) (by kernel_rfl) (fun _ _ _ h => h) (Or.inl ⟨by rfl, ?_⟩) hHeld ?_
          · intro w' hSw
            obtain ⟨sm0, sm1, sm2, sm3, sm4, sm5, sq0, sq1, sq2, sq3, sq4, sq5, sx0, sx1, sx2, sx3, sx4, sx5, sy0, sy1, sy2, sy3, sy4, sy5⟩ := hSw
            go_simp
          try simp only [List.getElem_toArray, List.getElem_cons_succ, List.getElem_cons_zero, Act.put, List.setIfInBounds_toArray, List.set_cons_zero, List.set_cons_succ]
          refine wpAnyH_take (i := 12) (v := .agg #[.int .i64 k2, .int .i64 d2, .int .i64 wd2, .int .i64 hi2, .slice aa nn ca, .slice bb mm cb]) rfl (by kernel_rfl) (by kernel_rfl) (by kernel_rfl) (fun _ _ _ h => h) (Or.inl ⟨by rfl, ?_⟩) hHeld ?_
          · intro w' hSw
            obtain ⟨sm0, sm1, sm2, sm3, sm4, sm5, sq0, sq1, sq2, sq3, sq4, sq5, sx0, sx1, sx2, sx3, sx4, sx5, sy0, sy1, sy2, sy3, sy4, sy5⟩ := hSw
            go_simp
          try simp only [List.getElem_toArray, List.getElem_cons_succ, List.getElem_cons_zero, Act.put, List.setIfInBounds_toArray, List.set_cons_zero, List.set_cons_succ]
          refine wpAnyH_ready (rs := [11]) (by kernel_rfl) (by simp) ?_
          refine AllReadyH.cons rfl (fun K hK => ?_) AllReadyH.nil
          go_simp
          refine (HFA.out _ M12.out.i4 M12.out.i5).mono ?_
          rintro e v13 ⟨⟨fx, fcx, fy, fcy, rfl, fi4, fi5⟩, b13⟩
          have M13 : Hid (PB v13 MB k d wd hi a n c cs b m cc ps) := M12.out.kept b13
          have Q13 : Hid (PB v13 QB k2 d2 wd2 hi2 aa nn ca cs2 bb mm cb ps2) := Q12.out.kept b13
          have X13 : Hid (PB v13 XB X0 X1 X2 X3 x 0 cx [] y LX cy L1) := X12.out.kept b13
          have Y13 : Hid (PB v13 YB Y0 Y1 Y2 Y3 x2 0 cx2 [] y2 LY cy2 L2) := Y12.out.kept b13
          have B13 : Hid (Below w.heap.size w v13) := B12.out.trans (b13.mono B12.out.size)
          obtain ⟨mc130, mc131, mc132, mc133, mc134, mc135⟩ := M13.out.box
          obtain ⟨qc130, qc131, qc132, qc133, qc134, qc135⟩ := Q13.out.box
          obtain ⟨xc130, xc131, xc132, xc133, xc134, xc135⟩ := X13.out.box
          obtain ⟨yc130, yc131, yc132, yc133, yc134, yc135⟩ := Y13.out.box
          refine hK.out _ _ ⟨mc130, mc131, mc132, mc133, mc134, mc135, qc130, qc131, qc132, qc133, qc134, qc135, xc130, xc131, xc132, xc133, xc134, xc135, yc130, yc131, yc132, yc133, yc134, yc135⟩ (fun hHeld => ?_)
          clear hK K
          try simp only [List.getElem_toArray, List.getElem_cons_succ, List.getElem_cons_zero, Act.put, List.setIfInBounds_toArray, List.set_cons_zero, List.set_cons_succ]
          refine wpAnyH_ready (rs := [13]) (by kernel_rfl) (by simp) ?_
          refine AllReadyH.cons rfl (fun K hK => ?_) AllReadyH.nil
          go_simp
          refine (HFB.out _ Q13.out.i4 Q13.out.i5).mono ?_
          rintro e v14 ⟨⟨fx2, fcx2, fy2, fcy2, rfl, fj4, fj5⟩, b14⟩
          have M14 : Hid (PB v14 MB k d wd hi a n c cs b m cc ps) := M13.out.kept b14
          have Q14 : Hid (PB v14 QB k2 d2 wd2 hi2 aa nn ca cs2 bb mm cb ps2) := Q13.out.kept b14
          have X14 : Hid (PB v14 XB X0 X1 X2 X3 x 0 cx [] y LX cy L1) := X13.out.kept b14
          have Y14 : Hid (PB v14 YB Y0 Y1 Y2 Y3 x2 0 cx2 [] y2 LY cy2 L2) := Y13.out.kept b14
          have B14 : Hid (Below w.heap.size w v14) := B13.out.trans (b14.mono B13.out.size)
          obtain ⟨mc140, mc141, mc142, mc143, mc144, mc145⟩ := M14.out.box
          obtain ⟨qc140, qc141, qc142, qc143, qc144, qc145⟩ := Q14.out.box
          obtain ⟨xc140, xc141, xc142, xc143, xc144, xc145⟩ := X14.out.box
          obtain ⟨yc140, yc141, yc142, yc143, yc144, yc145⟩ := Y14.out.box
          refine hK.out _ _ ⟨mc140, mc141, mc142, mc143, mc144, mc145, qc140, qc141, qc142, qc143, qc144, qc145, xc140, xc141, xc142, xc143, xc144, xc145, yc140, yc141, yc142, yc143, yc144, yc145⟩ (fun hHeld => ?_)
          clear hK K
          try simp only [List.getElem_toArray, List.getElem_cons_succ, List.getElem_cons_zero, Act.put, List.setIfInBounds_toArray, List.set_cons_zero, List.set_cons_succ]
          refine wpAnyH_ready (rs := [14]) (by kernel_rfl) (by simp) ?_
          refine AllReadyH.cons rfl (fun K hK => ?_) AllReadyH.nil
          go_simp
          refine (HFF.out fx fcx fy fcy fx2 fcx2 fy2 fcy2 _ (fi4.kept b14) (fi5.kept b14) fj4 fj5).mono ?_
          rintro e v15 ⟨rfl, b15⟩
          have M15 : Hid (PB v15 MB k d wd hi a n c cs b m cc ps) := M14.out.kept b15
          have Q15 : Hid (PB v15 QB k2 d2 wd2 hi2 aa nn ca cs2 bb mm cb ps2) := Q14.out.kept b15
          have X15 : Hid (PB v15 XB X0 X1 X2 X3 x 0 cx [] y LX cy L1) := X14.out.kept b15
          have Y15 : Hid (PB v15 YB Y0 Y1 Y2 Y3 x2 0 cx2 [] y2 LY cy2 L2) := Y14.out.kept b15
          have B15 : Hid (Below w.heap.size w v15) := B14.out.trans (b15.mono B14.out.size)
          obtain ⟨mc150, mc151, mc152, mc153, mc154, mc155⟩ := M15.out.box
          obtain ⟨qc150, qc151, qc152, qc153, qc154, qc155⟩ := Q15.out.box
          obtain ⟨xc150, xc151, xc152, xc153, xc154, xc155⟩ := X15.out.box
          obtain ⟨yc150, yc151, yc152, yc153, yc154, yc155⟩ := Y15.out.box
          refine hK.out _ _ ⟨mc150, mc151, mc152, mc153, mc154, mc155, qc150, qc151, qc152, qc153, qc154, qc155, xc150, xc151, xc152, xc153, xc154, xc155, yc150, yc151, yc152, yc153, yc154, yc155⟩ (fun hHeld => ?_)
          clear hK K
          try simp only [List.getElem_toArray, List.getElem_cons_succ, List.getElem_cons_zero, Act.put, List.setIfInBounds_toArray, List.set_cons_zero, List.set_cons_succ]
          refine wpAnyH_take (i := 15) (v := .bool true) rfl (by kernel_rfl) (by kernel_rfl) (by kernel_rfl) (fun _ _ _ h => h) (Or.inl ⟨by rfl, ?_⟩) hHeld ?_
          · intro w' hSw
            obtain ⟨sm0, sm1, sm2, sm3, sm4, sm5, sq0, sq1, sq2, sq3, sq4, sq5, sx0, sx1, sx2, sx3, sx4, sx5, sy0, sy1, sy2, sy3, sy4, sy5⟩ := hSw
            go_simp
          try simp only [List.getElem_toArray, List.getElem_cons_succ, List.getElem_cons_zero, Act.put, List.setIfInBounds_toArray, List.set_cons_zero, List.set_cons_succ]
          refine wpAnyH_take (i := 16) (v := .bool true) rfl (by kernel_rfl) (by kernel_rfl) (by kernel_rfl) (fun _ _ _ h => h) (Or.inl ⟨by rfl, ?_⟩) hHeld ?_
          · intro w' hSw
            obtain ⟨sm0, sm1, sm2, sm3, sm4, sm5, sq0, sq1, sq2, sq3, sq4, sq5, sx0, sx1, sx2, sx3, sx4, sx5, sy0, sy1, sy2, sy3, sy4, sy5⟩ := hSw
            go_simp
          try simp only [List.getElem_toArray, List.getElem_cons_succ, List.getElem_cons_zero, Act.put, List.setIfInBounds_toArray, List.set_cons_zero, List.set_cons_succ]
          refine wpAnyH_take (i := 17) (v := .bool true) rfl (by kernel_rfl) (by kernel_rfl) (by kernel_rfl) (fun _ _ _ h => h) (Or.inl ⟨by rfl, ?_⟩) hHeld ?_
          · intro w' hSw
            obtain ⟨sm0, sm1, sm2, sm3, sm4, sm5, sq0, sq1, sq2, sq3, sq4, sq5, sx0, sx1, sx2, sx3, sx4, sx5, sy0, sy1, sy2, sy3, sy4, sy5⟩ := hSw
            go_simp
          try simp only [List.getElem_toArray, List.getElem_cons_succ, List.getElem_cons_zero, Act.put, List.setIfInBounds_toArray, List.set_cons_zero, List.set_cons_succ]
          refine wpAnyH_take (i := 18) (v := .bool false) rfl (by kernel_rfl) (by kernel_rfl) (by kernel_rfl) (fun _ _ _ h => h) (Or.inl ⟨by rfl, ?_⟩) hHeld ?_
          · intro w' hSw
            obtain ⟨sm0, sm1, sm2, sm3, sm4, sm5, sq0, sq1, sq2, sq3, sq4, sq5, sx0, sx1, sx2, sx3, sx4, sx5, sy0, sy1, sy2, sy3, sy4, sy5⟩ := hSw
            go_simp
          try simp only [List.getElem_toArray, List.getElem_cons_succ, List.getElem_cons_zero, Act.put, List.setIfInBounds_toArray, List.set_cons_zero, List.set_cons_succ]
          refine wpAnyH_take (i := 19) (v := .bool true) rfl (by kernel_rfl) (by kernel_rfl) (by kernel_rfl) (fun _ _ _ h => h) (Or.inl ⟨by rfl, ?_⟩) hHeld ?_
          · intro w' hSw
            obtain ⟨sm0, sm1, sm2, sm3, sm4, sm5, sq0, sq1, sq2, sq3, sq4, sq5, sx0, sx1, sx2, sx3, sx4, sx5, sy0, sy1, sy2, sy3, sy4, sy5⟩ := hSw
            go_simp
          try simp only [List.getElem_toArray, List.getElem_cons_succ, List.getElem_cons_zero, Act.put, List.setIfInBounds_toArray, List.set_cons_zero, List.set_cons_succ]
          refine wpAnyH_take (i := 20) (v := .bool true) rfl (by kernel_rfl) (by kernel_rfl) (by kernel_rfl) (fun _ _ _ h => h) (Or.inl ⟨by rfl, ?_⟩) hHeld ?_
          · intro w' hSw
            obtain ⟨sm0, sm1, sm2, sm3, sm4, sm5, sq0, sq1, sq2, sq3, sq4, sq5, sx0, sx1, sx2, sx3, sx4, sx5, sy0, sy1, sy2, sy3, sy4, sy5⟩ := hSw
            go_simp
          try simp only [List.getElem_toArray, List.getElem_cons_succ, List.getElem_cons_zero, Act.put, List.setIfInBounds_toArray, List.set_cons_zero, List.set_cons_succ]
          refine wpAnyH_take (i := 21) (v := undef) rfl (by kernel_rfl) (by kernel_rfl) (by kernel_rfl) (fun _ _ _ h => h) (Or.inr ⟨by kernel_rfl, rfl⟩) hHeld ?_
          try simp only [List.getElem_toArray, List.getElem_cons_succ, List.getElem_cons_zero, Act.put, List.setIfInBounds_toArray, List.set_cons_zero, List.set_cons_succ]
          refine wpAnyH_take (i := 22) (v := undef) rfl (by kernel_rfl) (by kernel_rfl) (by kernel_rfl) (fun _ _ _ h => h) (Or.inr ⟨by kernel_rfl, rfl⟩) hHeld ?_
          try simp only [List.getElem_toArray, List.getElem_cons_succ, List.getElem_cons_zero, Act.put, List.setIfInBounds_toArray, List.set_cons_zero, List.set_cons_succ]
          refine wpAnyH_take (i := 23) (v := .bool true) rfl (by kernel_rfl) (by kernel_rfl) (by kernel_rfl) (fun _ _ _ h => h) (Or.inl ⟨by rfl, ?_⟩) hHeld ?_
          · intro w' hSw
            obtain ⟨sm0, sm1, sm2, sm3, sm4, sm5, sq0, sq1, sq2, sq3, sq4, sq5, sx0, sx1, sx2, sx3, sx4, sx5, sy0, sy1, sy2, sy3, sy4, sy5⟩ := hSw
            go_simp
          try simp only [List.getElem_toArray, List.getElem_cons_succ, List.getElem_cons_zero, Act.put, List.setIfInBounds_toArray, List.set_cons_zero, List.set_cons_succ]
          refine wpAnyH_take (i := 24) (v := .bool true) rfl (by kernel_rfl) (by kernel_rfl) (by kernel_rfl) (fun _ _ _ h => h) (Or.inl ⟨by rfl, ?_⟩) hHeld ?_
          · intro w' hSw
            obtain ⟨sm0, sm1, sm2, sm3, sm4, sm5, sq0, sq1, sq2, sq3, sq4, sq5, sx0, sx1, sx2, sx3, sx4, sx5, sy0, sy1, sy2, sy3, sy4, sy5⟩ := hSw
            go_simp
          try simp only [List.getElem_toArray, List.getElem_cons_succ, List.getElem_cons_zero, Act.put, List.setIfInBounds_toArray, List.set_cons_zero, List.set_cons_succ]
          refine wpAnyH_take (i := 25) (v := undef) rfl (by kernel_rfl) (by kernel_rfl) (by kernel_rfl) (fun _ _ _ h => h) (Or.inr ⟨by kernel_rfl, rfl⟩) hHeld ?_
          try simp only [List.getElem_toArray, List.getElem_cons_succ, List.getElem_cons_zero, Act.put, List.setIfInBounds_toArray, List.set_cons_zero, List.set_cons_succ]
          refine wpAnyH_take (i := 26) (v := undef) rfl (by kernel_rfl) (by kernel_rfl) (by kernel_rfl) (fun _ _ _ h => h) (Or.inr ⟨by kernel_rfl, rfl⟩) hHeld ?_
          try simp only [List.getElem_toArray, List.getElem_cons_succ, List.getElem_cons_zero, Act.put, List.setIfInBounds_toArray, List.set_cons_zero, List.set_cons_succ]
          refine wpAnyH_take (i := 27) (v := undef) rfl (by kernel_rfl) (by kernel_rfl) (by kernel_rfl) (fun _ _ _ h => h) (Or.inr ⟨by kernel_rfl, rfl⟩) hHeld ?_
          try simp only [List.getElem_toArray, List.getElem_cons_succ, List.getElem_cons_zero, Act.put, List.setIfInBounds_toArray, List.set_cons_zero, List.set_cons_succ]
          refine wpAnyH_take (i := 28) (v := undef) rfl (by kernel_rfl) (by kernel_rfl) (by kernel_rfl) (fun _ _ _ h => h) (Or.inr ⟨by kernel_rfl, rfl⟩) hHeld ?_
          try simp only [List.getElem_toArray, List.getElem_cons_succ, List.getElem_cons_zero, Act.put, List.setIfInBounds_toArray, List.set_cons_zero, List.set_cons_succ]
          refine wpAnyH_take (i := 29) (v := undef) rfl (by kernel_rfl) (by kernel_rfl) (by kernel_rfl) (fun _ _ _ h => h) (Or.inr ⟨by kernel_rfl, rfl⟩) hHeld ?_
          try simp only [List.getElem_toArray, List.getElem_cons_succ, List.getElem_cons_zero, Act.put, List.setIfInBounds_toArray, List.set_cons_zero, List.set_cons_succ]
          refine wpAnyH_take (i := 30) (v := .bool true) rfl (by kernel_rfl) (by kernel_rfl) (by kernel_rfl) (fun _ _ _ h => h) (Or.inl ⟨by rfl, ?_⟩) hHeld ?_
          · intro w' hSw
            obtain ⟨sm0, sm1, sm2, sm3, sm4, sm5, sq0, sq1, sq2, sq3, sq4, sq5, sx0, sx1, sx2, sx3, sx4, sx5, sy0, sy1, sy2, sy3, sy4, sy5⟩ := hSw
            go_simp
          try simp only [List.getElem_toArray, List.getElem_cons_succ, List.getElem_cons_zero, Act.put, List.setIfInBounds_toArray, List.set_cons_zero, List.set_cons_succ]
          refine wpAnyH_take (i := 31) (v := .bool true) rfl (by kernel_rfl) (by kernel_rfl) (by kernel_rfl) (fun _ _ _ h => h) (Or.inl ⟨by rfl, ?_⟩) hHeld ?_
          · intro w' hSw
            obtain ⟨sm0, sm1, sm2, sm3, sm4, sm5, sq0, sq1, sq2, sq3, sq4, sq5, sx0, sx1, sx2, sx3, sx4, sx5, sy0, sy1, sy2, sy3, sy4, sy5⟩ := hSw
            go_simp
          try simp only [List.getElem_toArray, List.getElem_cons_succ, List.getElem_cons_zero, Act.put, List.setIfInBounds_toArray, List.set_cons_zero, List.set_cons_succ]
          refine wpAnyH_take (i := 32) (v := .bool true) rfl (by kernel_rfl) (by kernel_rfl) (by kernel_rfl) (fun _ _ _ h => h) (Or.inl ⟨by rfl, ?_⟩) hHeld ?_
          · intro w' hSw
            obtain ⟨sm0, sm1, sm2, sm3, sm4, sm5, sq0, sq1, sq2, sq3, sq4, sq5, sx0, sx1, sx2, sx3, sx4, sx5, sy0, sy1, sy2, sy3, sy4, sy5⟩ := hSw
            go_simp
          try simp only [List.getElem_toArray, List.getElem_cons_succ, List.getElem_cons_zero, Act.put, List.setIfInBounds_toArray, List.set_cons_zero, List.set_cons_succ]
          refine wpAnyH_done (by kernel_rfl) ?_ _
          try simp only [List.getElem_toArray, List.getElem_cons_succ, List.getElem_cons_zero, Act.put, List.setIfInBounds_toArray, List.set_cons_zero, List.set_cons_succ]
          have BF := B15
          clear hHeld
          go_wp2_with fail
          go_ret
          exact ⟨rfl, BF.out⟩
        | true =>
          obtain ⟨PF, QF, hfa, hfb, hff⟩ := HFK.out rfl
          have HFA : Hid (∀ w1 : World, Ints w1 a cs → Ints w1 b ps → Calls Try.prog 19 #[.agg #[.int .i64 k, .int .i64 d, .int .i64 wd, .int .i64 hi, .slice a n c, .slice b m cc]] w1 fun e w' => (∃ fx fcx fy fcy, e = .returned (.agg #[.int .i64 k, .int .i64 d, .int .i64 wd, .int .i64 hi, .slice fx n fcx, .slice fy m fcy]) ∧ Ints w' fx cs ∧ Ints w' fy PF) ∧ Below w1.heap.size w1 w') := hfa
          have HFB : Hid (∀ w1 : World, Ints w1 aa cs2 → Ints w1 bb ps2 → Calls Try.prog 19 #[.agg #[.int .i64 k2, .int .i64 d2, .int .i64 wd2, .int .i64 hi2, .slice aa nn ca, .slice bb mm cb]] w1 fun e w' => (∃ fx2 fcx2 fy2 fcy2, e = .returned (.agg #[.int .i64 k2, .int .i64 d2, .int .i64 wd2, .int .i64 hi2, .slice fx2 nn fcx2, .slice fy2 mm fcy2]) ∧ Ints w' fx2 cs2 ∧ Ints w' fy2 QF) ∧ Below w1.heap.size w1 w') := hfb
          have HFF : Hid (∀ (fx : Option Addr) (fcx : Nat) (fy : Option Addr) (fcy : Nat) (fx2 : Option Addr) (fcx2 : Nat) (fy2 : Option Addr) (fcy2 : Nat) (w1 : World), Ints w1 fx cs → Ints w1 fy PF → Ints w1 fx2 cs2 → Ints w1 fy2 QF → Calls Try.prog 14 #[.agg #[.int .i64 k, .int .i64 d, .int .i64 wd, .int .i64 hi, .slice fx n fcx, .slice fy m fcy], .agg #[.int .i64 k2, .int .i64 d2, .int .i64 wd2, .int .i64 hi2, .slice fx2 nn fcx2, .slice fy2 mm fcy2]] w1 fun e w' => e = .returned (.bool true) ∧ Below w1.heap.size w1 w') := hff
          clear hfa hfb hff
          clear HFK HWI
          go_wp2_with fail
          refine wp_region_held_drew (S := fun w' => w'.cell? ⟨MB, 0, none⟩ = some (.int .i64 k) ∧ w'.cell? ⟨MB, 1, none⟩ = some (.int .i64 d) ∧ w'.cell? ⟨MB, 2, none⟩ = some (.int .i64 wd) ∧ w'.cell? ⟨MB, 3, none⟩ = some (.int .i64 hi) ∧ w'.cell? ⟨MB, 4, none⟩ = some (.slice a n c) ∧ w'.cell? ⟨MB, 5, none⟩ = some (.slice b m cc) ∧ w'.cell? ⟨QB, 0, none⟩ = some (.int .i64 k2) ∧ w'.cell? ⟨QB, 1, none⟩ = some (.int .i64 d2) ∧ w'.cell? ⟨QB, 2, none⟩ = some (.int .i64 wd2) ∧ w'.cell? ⟨QB, 3, none⟩ = some (.int .i64 hi2) ∧ w'.cell? ⟨QB, 4, none⟩ = some (.slice aa nn ca) ∧ w'.cell? ⟨QB, 5, none⟩ = some (.slice bb mm cb) ∧ w'.cell? ⟨XB, 0, none⟩ = some (.int .i64 X0) ∧ w'.cell? ⟨XB, 1, none⟩ = some (.int .i64 X1) ∧ w'.cell? ⟨XB, 2, none⟩ = some (.int .i64 X2) ∧ w'.cell? ⟨XB, 3, none⟩ = some (.int .i64 X3) ∧ w'.cell? ⟨XB, 4, none⟩ = some (.slice x 0 cx) ∧ w'.cell? ⟨XB, 5, none⟩ = some (.slice y LX cy) ∧ w'.cell? ⟨YB, 0, none⟩ = some (.int .i64 Y0) ∧ w'.cell? ⟨YB, 1, none⟩ = some (.int .i64 Y1) ∧ w'.cell? ⟨YB, 2, none⟩ = some (.int .i64 Y2) ∧ w'.cell? ⟨YB, 3, none⟩ = some (.int .i64 Y3) ∧ w'.cell? ⟨YB, 4, none⟩ = some (.slice x2 0 cx2) ∧ w'.cell? ⟨YB, 5, none⟩ = some (.slice y2 LY cy2)) (by kernel_rfl) ⟨m100, m101, m102, m103, m104, m105, q100, q101, q102, q103, q104, q105, x100, x101, x102, x103, x104, x105, y100, y101, y102, y103, y104, y105⟩ (fun hHeld => ?_)
          refine wpAnyH_take (i := 0) (v := .agg #[.int .i64 k, .int .i64 d, .int .i64 wd, .int .i64 hi, .slice a n c, .slice b m cc]) rfl (by kernel_rfl) (by kernel_rfl) (by kernel_rfl) (fun _ _ _ h => h) (Or.inl ⟨by rfl, ?_⟩) hHeld ?_
          · intro w' hSw
            obtain ⟨sm0, sm1, sm2, sm3, sm4, sm5, sq0, sq1, sq2, sq3, sq4, sq5, sx0, sx1, sx2, sx3, sx4, sx5, sy0, sy1, sy2, sy3, sy4, sy5⟩ := hSw
            go_simp
          try simp only [List.getElem_toArray, List.getElem_cons_succ, List.getElem_cons_zero, Act.put, List.setIfInBounds_toArray, List.set_cons_zero, List.set_cons_succ]
          refine wpAnyH_take (i := 1) (v := .agg #[.int .i64 k, .int .i64 d, .int .i64 wd, .int .i64 hi, .slice a n c, .slice b m cc]) rfl (by kernel_rfl) (by kernel_rfl) (by kernel_rfl) (fun _ _ _ h => h) (Or.inl ⟨by rfl, ?_⟩) hHeld ?_
          · intro w' hSw
            obtain ⟨sm0, sm1, sm2, sm3, sm4, sm5, sq0, sq1, sq2, sq3, sq4, sq5, sx0, sx1, sx2, sx3, sx4, sx5, sy0, sy1, sy2, sy3, sy4, sy5⟩ := hSw
            go_simp
          try simp only [List.getElem_toArray, List.getElem_cons_succ, List.getElem_cons_zero, Act.put, List.setIfInBounds_toArray, List.set_cons_zero, List.set_cons_succ]
          refine wpAnyH_take (i := 3) (v := .agg #[.int .i64 k, .int .i64 d, .int .i64 wd, .int .i64 hi, .slice a n c, .slice b m cc]) rfl (by kernel_rfl) (by kernel_rfl) (by kernel_rfl) (fun _ _ _ h => h) (Or.inl ⟨by rfl, ?_⟩) hHeld ?_
          · intro w' hSw
            obtain ⟨sm0, sm1, sm2, sm3, sm4, sm5, sq0, sq1, sq2, sq3, sq4, sq5, sx0, sx1, sx2, sx3, sx4, sx5, sy0, sy1, sy2, sy3, sy4, sy5⟩ := hSw
            go_simp
          try simp only [List.getElem_toArray, List.getElem_cons_succ, List.getElem_cons_zero, Act.put, List.setIfInBounds_toArray, List.set_cons_zero, List.set_cons_succ]
          refine wpAnyH_ready (rs := [2]) (by kernel_rfl) (by simp) ?_
          refine AllReadyH.cons rfl (fun K hK => ?_) AllReadyH.nil
          go_simp
          refine (HAA.out _ Md.out.i4 Md.out.i5).mono ?_
          rintro e v11 ⟨rfl, b11⟩
          have M11 : Hid (PB v11 MB k d wd hi a n c cs b m cc ps) := Md.out.kept b11
          have Q11 : Hid (PB v11 QB k2 d2 wd2 hi2 aa nn ca cs2 bb mm cb ps2) := Qd.out.kept b11
          have X11 : Hid (PB v11 XB X0 X1 X2 X3 x 0 cx [] y LX cy L1) := Xd.out.kept b11
          have Y11 : Hid (PB v11 YB Y0 Y1 Y2 Y3 x2 0 cx2 [] y2 LY cy2 L2) := Yd.out.kept b11
          have B11 : Hid (Below w.heap.size w v11) := Bd.out.trans (b11.mono Bd.out.size)
          obtain ⟨mc110, mc111, mc112, mc113, mc114, mc115⟩ := M11.out.box
          obtain ⟨qc110, qc111, qc112, qc113, qc114, qc115⟩ := Q11.out.box
          obtain ⟨xc110, xc111, xc112, xc113, xc114, xc115⟩ := X11.out.box
          obtain ⟨yc110, yc111, yc112, yc113, yc114, yc115⟩ := Y11.out.box
          refine hK.out _ _ ⟨mc110, mc111, mc112, mc113, mc114, mc115, qc110, qc111, qc112, qc113, qc114, qc115, xc110, xc111, xc112, xc113, xc114, xc115, yc110, yc111, yc112, yc113, yc114, yc115⟩ (fun hHeld => ?_)
          clear hK K
          try simp only [List.getElem_toArray, List.getElem_cons_succ, List.getElem_cons_zero, Act.put, List.setIfInBounds_toArray, List.set_cons_zero, List.set_cons_succ]
          refine wpAnyH_ready (rs := [4]) (by kernel_rfl) (by simp) ?_
          refine AllReadyH.cons rfl (fun K hK => ?_) AllReadyH.nil
          go_simp
          refine (HOS.out _ M11.out.i4 M11.out.i5).mono ?_
          rintro e v12 ⟨rfl, b12⟩
          have M12 : Hid (PB v12 MB k d wd hi a n c cs b m cc ps) := M11.out.kept b12
          have Q12 : Hid (PB v12 QB k2 d2 wd2 hi2 aa nn ca cs2 bb mm cb ps2) := Q11.out.kept b12
          have X12 : Hid (PB v12 XB X0 X1 X2 X3 x 0 cx [] y LX cy L1) := X11.out.kept b12
          have Y12 : Hid (PB v12 YB Y0 Y1 Y2 Y3 x2 0 cx2 [] y2 LY cy2 L2) := Y11.out.kept b12
          have B12 : Hid (Below w.heap.size w v12) := B11.out.trans (b12.mono B11.out.size)
          obtain ⟨mc120, mc121, mc122, mc123, mc124, mc125⟩ := M12.out.box
          obtain ⟨qc120, qc121, qc122, qc123, qc124, qc125⟩ := Q12.out.box
          obtain ⟨xc120, xc121, xc122, xc123, xc124, xc125⟩ := X12.out.box
          obtain ⟨yc120, yc121, yc122, yc123, yc124, yc125⟩ := Y12.out.box
          refine hK.out _ _ ⟨mc120, mc121, mc122, mc123, mc124, mc125, qc120, qc121, qc122, qc123, qc124, qc125, xc120, xc121, xc122, xc123, xc124, xc125, yc120, yc121, yc122, yc123, yc124, yc125⟩ (fun hHeld => ?_)
          clear hK K
          try simp only [List.getElem_toArray, List.getElem_cons_succ, List.getElem_cons_zero, Act.put, List.setIfInBounds_toArray, List.set_cons_zero, List.set_cons_succ]
          refine wpAnyH_take (i := 5) (v := .bool true) rfl (by kernel_rfl) (by kernel_rfl) (by kernel_rfl) (fun _ _ _ h => h) (Or.inl ⟨by rfl, ?_⟩) hHeld ?_
          · intro w' hSw
            obtain ⟨sm0, sm1, sm2, sm3, sm4, sm5, sq0, sq1, sq2, sq3, sq4, sq5, sx0, sx1, sx2, sx3, sx4, sx5, sy0, sy1, sy2, sy3, sy4, sy5⟩ := hSw
            go_simp
          try simp only [List.getElem_toArray, List.getElem_cons_succ, List.getElem_cons_zero, Act.put, List.setIfInBounds_toArray, List.set_cons_zero, List.set_cons_succ]
          refine wpAnyH_take (i := 6) (v := .bool true) rfl (by kernel_rfl) (by kernel_rfl) (by kernel_rfl) (fun _ _ _ h => h) (Or.inl ⟨by rfl, ?_⟩) hHeld ?_
          · intro w' hSw
            obtain ⟨sm0, sm1, sm2, sm3, sm4, sm5, sq0, sq1, sq2, sq3, sq4, sq5, sx0, sx1, sx2, sx3, sx4, sx5, sy0, sy1, sy2, sy3, sy4, sy5⟩ := hSw
            go_simp
          try simp only [List.getElem_toArray, List.getElem_cons_succ, List.getElem_cons_zero, Act.put, List.setIfInBounds_toArray, List.set_cons_zero, List.set_cons_succ]
          refine wpAnyH_take (i := 7) (v := .bool true) rfl (by kernel_rfl) (by kernel_rfl) (by kernel_rfl) (fun _ _ _ h => h) (Or.inl ⟨by rfl, ?_⟩) hHeld ?_
          · intro w' hSw
            obtain ⟨sm0, sm1, sm2, sm3, sm4, sm5, sq0, sq1, sq2, sq3, sq4, sq5, sx0, sx1, sx2, sx3, sx4, sx5, sy0, sy1, sy2, sy3, sy4, sy5⟩ := hSw
            go_simp
          try simp only [List.getElem_toArray, List.getElem_cons_succ, List.getElem_cons_zero, Act.put, List.setIfInBounds_toArray, List.set_cons_zero, List.set_cons_succ]
          refine wpAnyH_take (i := 8) (v := .bool false) rfl (by kernel_rfl) (by kernel_rfl) (by kernel_rfl) (fun _ _ _ h => h) (Or.inl ⟨by rfl, ?_⟩) hHeld ?_
          · intro w' hSw
            obtain ⟨sm0, sm1, sm2, sm3, sm4, sm5, sq0, sq1, sq2, sq3, sq4, sq5, sx0, sx1, sx2, sx3, sx4, sx5, sy0, sy1, sy2, sy3, sy4, sy5⟩ := hSw
            go_simp
          try simp only [List.getElem_toArray, List.getElem_cons_succ, List.getElem_cons_zero, Act.put, List.setIfInBounds_toArray, List.set_cons_zero, List.set_cons_succ]
          refine wpAnyH_take (i := 9) (v := .bool false) rfl (by kernel_rfl) (by kernel_rfl) (by kernel_rfl) (fun _ _ _ h => h) (Or.inl ⟨by rfl, ?_⟩) hHeld ?_
          · intro w' hSw
            obtain ⟨sm0, sm1, sm2, sm3, sm4, sm5, sq0, sq1, sq2, sq3, sq4, sq5, sx0, sx1, sx2, sx3, sx4, sx5, sy0, sy1, sy2, sy3, sy4, sy5⟩ := hSw
            go_simp
          try simp only [List.getElem_toArray, List.getElem_cons_succ, List.getElem_cons_zero, Act.put, List.setIfInBounds_toArray, List.set_cons_zero, List.set_cons_succ]
          refine wpAnyH_take (i := 10) (v := .agg #[.int .i64 k, .int .i64 d, .int .i64 wd, .int .i64 hi, .slice a n c, .slice b m cc]) rfl (by kernel_rfl) (by kernel_rfl) (by kernel_rfl) (fun _ _ _ h => h) (Or.inl ⟨by rfl, ?_⟩) hHeld ?_
          · intro w' hSw
            obtain ⟨sm0, sm1, sm2, sm3, sm4, sm5, sq0, sq1, sq2, sq3, sq4, sq5, sx0, sx1, sx2, sx3, sx4, sx5, sy0, sy1, sy2, sy3, sy4, sy5⟩ := hSw
            go_simp
          try simp only [List.getElem_toArray, List.getElem_cons_succ, List.getElem_cons_zero, Act.put, List.setIfInBounds_toArray, List.set_cons_zero, List.set_cons_succ]
          refine wpAnyH_take (i := 12) (v := .agg #[.int .i64 k2, .int .i64 d2, .int .i64 wd2, .int .i64 hi2, .slice aa nn ca, .slice bb mm cb]) rfl (by kernel_rfl) (by kernel_rfl) (by kernel_rfl) (fun _ _ _ h => h) (Or.inl ⟨by rfl, ?_⟩) hHeld ?_
          · intro w' hSw
            obtain ⟨sm0, sm1, sm2, sm3, sm4, sm5, sq0, sq1, sq2, sq3, sq4, sq5, sx0, sx1, sx2, sx3, sx4, sx5, sy0, sy1, sy2, sy3, sy4, sy5⟩ := hSw
            go_simp
          try simp only [List.getElem_toArray, List.getElem_cons_succ, List.getElem_cons_zero, Act.put, List.setIfInBounds_toArray, List.set_cons_zero, List.set_cons_succ]
          refine wpAnyH_ready (rs := [11]) (by kernel_rfl) (by simp) ?_
          refine AllReadyH.cons rfl (fun K hK => ?_) AllReadyH.nil
          go_simp
          refine (HFA.out _ M12.out.i4 M12.out.i5).mono ?_
          rintro e v13 ⟨⟨fx, fcx, fy, fcy, rfl, fi4, fi5⟩, b13⟩
          have M13 : Hid (PB v13 MB k d wd hi a n c cs b m cc ps) := M12.out.kept b13
          have Q13 : Hid (PB v13 QB k2 d2 wd2 hi2 aa nn ca cs2 bb mm cb ps2) := Q12.out.kept b13
          have X13 : Hid (PB v13 XB X0 X1 X2 X3 x 0 cx [] y LX cy L1) := X12.out.kept b13
          have Y13 : Hid (PB v13 YB Y0 Y1 Y2 Y3 x2 0 cx2 [] y2 LY cy2 L2) := Y12.out.kept b13
          have B13 : Hid (Below w.heap.size w v13) := B12.out.trans (b13.mono B12.out.size)
          obtain ⟨mc130, mc131, mc132, mc133, mc134, mc135⟩ := M13.out.box
          obtain ⟨qc130, qc131, qc132, qc133, qc134, qc135⟩ := Q13.out.box
          obtain ⟨xc130, xc131, xc132, xc133, xc134, xc135⟩ := X13.out.box
          obtain ⟨yc130, yc131, yc132, yc133, yc134, yc135⟩ := Y13.out.box
          refine hK.out _ _ ⟨mc130, mc131, mc132, mc133, mc134, mc135, qc130, qc131, qc132, qc133, qc134, qc135, xc130, xc131, xc132, xc133, xc134, xc135, yc130, yc131, yc132, yc133, yc134, yc135⟩ (fun hHeld => ?_)
          clear hK K
          try simp only [List.getElem_toArray, List.getElem_cons_succ, List.getElem_cons_zero, Act.put, List.setIfInBounds_toArray, List.set_cons_zero, List.set_cons_succ]
          refine wpAnyH_ready (rs := [13]) (by kernel_rfl) (by simp) ?_
          refine AllReadyH.cons rfl (fun K hK => ?_) AllReadyH.nil
          go_simp
          refine (HFB.out _ Q13.out.i4 Q13.out.i5).mono ?_
          rintro e v14 ⟨⟨fx2, fcx2, fy2, fcy2, rfl, fj4, fj5⟩, b14⟩
          have M14 : Hid (PB v14 MB k d wd hi a n c cs b m cc ps) := M13.out.kept b14
          have Q14 : Hid (PB v14 QB k2 d2 wd2 hi2 aa nn ca cs2 bb mm cb ps2) := Q13.out.kept b14
          have X14 : Hid (PB v14 XB X0 X1 X2 X3 x 0 cx [] y LX cy L1) := X13.out.kept b14
          have Y14 : Hid (PB v14 YB Y0 Y1 Y2 Y3 x2 0 cx2 [] y2 LY cy2 L2) := Y13.out.kept b14
          have B14 : Hid (Below w.heap.size w v14) := B13.out.trans (b14.mono B13.out.size)
          obtain ⟨mc140, mc141, mc142, mc143, mc144, mc145⟩ := M14.out.box
          obtain ⟨qc140, qc141, qc142, qc143, qc144, qc145⟩ := Q14.out.box
          obtain ⟨xc140, xc141, xc142, xc143, xc144, xc145⟩ := X14.out.box
          obtain ⟨yc140, yc141, yc142, yc143, yc144, yc145⟩ := Y14.out.box
          refine hK.out _ _ ⟨mc140, mc141, mc142, mc143, mc144, mc145, qc140, qc141, qc142, qc143, qc144, qc145, xc140, xc141, xc142, xc143, xc144, xc145, yc140, yc141, yc142, yc143, yc144, yc145⟩ (fun hHeld => ?_)
          clear hK K
          try simp only [List.getElem_toArray, List.getElem_cons_succ, List.getElem_cons_zero, Act.put, List.setIfInBounds_toArray, List.set_cons_zero, List.set_cons_succ]
          refine wpAnyH_ready (rs := [14]) (by kernel_rfl) (by simp) ?_
          refine AllReadyH.cons rfl (fun K hK => ?_) AllReadyH.nil
          go_simp
          refine (HFF.out fx fcx fy fcy fx2 fcx2 fy2 fcy2 _ (fi4.kept b14) (fi5.kept b14) fj4 fj5).mono ?_
          rintro e v15 ⟨rfl, b15⟩
          have M15 : Hid (PB v15 MB k d wd hi a n c cs b m cc ps) := M14.out.kept b15
          have Q15 : Hid (PB v15 QB k2 d2 wd2 hi2 aa nn ca cs2 bb mm cb ps2) := Q14.out.kept b15
          have X15 : Hid (PB v15 XB X0 X1 X2 X3 x 0 cx [] y LX cy L1) := X14.out.kept b15
          have Y15 : Hid (PB v15 YB Y0 Y1 Y2 Y3 x2 0 cx2 [] y2 LY cy2 L2) := Y14.out.kept b15
          have B15 : Hid (Below w.heap.size w v15) := B14.out.trans (b15.mono B14.out.size)
          obtain ⟨mc150, mc151, mc152, mc153, mc154, mc155⟩ := M15.out.box
          obtain ⟨qc150, qc151, qc152, qc153, qc154, qc155⟩ := Q15.out.box
          obtain ⟨xc150, xc151, xc152, xc153, xc154, xc155⟩ := X15.out.box
          obtain ⟨yc150, yc151, yc152, yc153, yc154, yc155⟩ := Y15.out.box
          refine hK.out _ _ ⟨mc150, mc151, mc152, mc153, mc154, mc155, qc150, qc151, qc152, qc153, qc154, qc155, xc150, xc151, xc152, xc153, xc154, xc155, yc150, yc151, yc152, yc153, yc154, yc155⟩ (fun hHeld => ?_)
          clear hK K
          try simp only [List.getElem_toArray, List.getElem_cons_succ, List.getElem_cons_zero, Act.put, List.setIfInBounds_toArray, List.set_cons_zero, List.set_cons_succ]
          refine wpAnyH_take (i := 15) (v := .bool true) rfl (by kernel_rfl) (by kernel_rfl) (by kernel_rfl) (fun _ _ _ h => h) (Or.inl ⟨by rfl, ?_⟩) hHeld ?_
          · intro w' hSw
            obtain ⟨sm0, sm1, sm2, sm3, sm4, sm5, sq0, sq1, sq2, sq3, sq4, sq5, sx0, sx1, sx2, sx3, sx4, sx5, sy0, sy1, sy2, sy3, sy4, sy5⟩ := hSw
            go_simp
          try simp only [List.getElem_toArray, List.getElem_cons_succ, List.getElem_cons_zero, Act.put, List.setIfInBounds_toArray, List.set_cons_zero, List.set_cons_succ]
          refine wpAnyH_take (i := 16) (v := .bool true) rfl (by kernel_rfl) (by kernel_rfl) (by kernel_rfl) (fun _ _ _ h => h) (Or.inl ⟨by rfl, ?_⟩) hHeld ?_
          · intro w' hSw
            obtain ⟨sm0, sm1, sm2, sm3, sm4, sm5, sq0, sq1, sq2, sq3, sq4, sq5, sx0, sx1, sx2, sx3, sx4, sx5, sy0, sy1, sy2, sy3, sy4, sy5⟩ := hSw
            go_simp
          try simp only [List.getElem_toArray, List.getElem_cons_succ, List.getElem_cons_zero, Act.put, List.setIfInBounds_toArray, List.set_cons_zero, List.set_cons_succ]
          refine wpAnyH_take (i := 17) (v := .bool true) rfl (by kernel_rfl) (by kernel_rfl) (by kernel_rfl) (fun _ _ _ h => h) (Or.inl ⟨by rfl, ?_⟩) hHeld ?_
          · intro w' hSw
            obtain ⟨sm0, sm1, sm2, sm3, sm4, sm5, sq0, sq1, sq2, sq3, sq4, sq5, sx0, sx1, sx2, sx3, sx4, sx5, sy0, sy1, sy2, sy3, sy4, sy5⟩ := hSw
            go_simp
          try simp only [List.getElem_toArray, List.getElem_cons_succ, List.getElem_cons_zero, Act.put, List.setIfInBounds_toArray, List.set_cons_zero, List.set_cons_succ]
          refine wpAnyH_take (i := 18) (v := .bool false) rfl (by kernel_rfl) (by kernel_rfl) (by kernel_rfl) (fun _ _ _ h => h) (Or.inl ⟨by rfl, ?_⟩) hHeld ?_
          · intro w' hSw
            obtain ⟨sm0, sm1, sm2, sm3, sm4, sm5, sq0, sq1, sq2, sq3, sq4, sq5, sx0, sx1, sx2, sx3, sx4, sx5, sy0, sy1, sy2, sy3, sy4, sy5⟩ := hSw
            go_simp
          try simp only [List.getElem_toArray, List.getElem_cons_succ, List.getElem_cons_zero, Act.put, List.setIfInBounds_toArray, List.set_cons_zero, List.set_cons_succ]
          refine wpAnyH_take (i := 19) (v := .bool true) rfl (by kernel_rfl) (by kernel_rfl) (by kernel_rfl) (fun _ _ _ h => h) (Or.inl ⟨by rfl, ?_⟩) hHeld ?_
          · intro w' hSw
            obtain ⟨sm0, sm1, sm2, sm3, sm4, sm5, sq0, sq1, sq2, sq3, sq4, sq5, sx0, sx1, sx2, sx3, sx4, sx5, sy0, sy1, sy2, sy3, sy4, sy5⟩ := hSw
            go_simp
          try simp only [List.getElem_toArray, List.getElem_cons_succ, List.getElem_cons_zero, Act.put, List.setIfInBounds_toArray, List.set_cons_zero, List.set_cons_succ]
          refine wpAnyH_take (i := 20) (v := .bool true) rfl (by kernel_rfl) (by kernel_rfl) (by kernel_rfl) (fun _ _ _ h => h) (Or.inl ⟨by rfl, ?_⟩) hHeld ?_
          · intro w' hSw
            obtain ⟨sm0, sm1, sm2, sm3, sm4, sm5, sq0, sq1, sq2, sq3, sq4, sq5, sx0, sx1, sx2, sx3, sx4, sx5, sy0, sy1, sy2, sy3, sy4, sy5⟩ := hSw
            go_simp
          try simp only [List.getElem_toArray, List.getElem_cons_succ, List.getElem_cons_zero, Act.put, List.setIfInBounds_toArray, List.set_cons_zero, List.set_cons_succ]
          refine wpAnyH_take (i := 21) (v := undef) rfl (by kernel_rfl) (by kernel_rfl) (by kernel_rfl) (fun _ _ _ h => h) (Or.inr ⟨by kernel_rfl, rfl⟩) hHeld ?_
          try simp only [List.getElem_toArray, List.getElem_cons_succ, List.getElem_cons_zero, Act.put, List.setIfInBounds_toArray, List.set_cons_zero, List.set_cons_succ]
          refine wpAnyH_take (i := 22) (v := undef) rfl (by kernel_rfl) (by kernel_rfl) (by kernel_rfl) (fun _ _ _ h => h) (Or.inr ⟨by kernel_rfl, rfl⟩) hHeld ?_
          try simp only [List.getElem_toArray, List.getElem_cons_succ, List.getElem_cons_zero, Act.put, List.setIfInBounds_toArray, List.set_cons_zero, List.set_cons_succ]
          refine wpAnyH_take (i := 23) (v := .bool true) rfl (by kernel_rfl) (by kernel_rfl) (by kernel_rfl) (fun _ _ _ h => h) (Or.inl ⟨by rfl, ?_⟩) hHeld ?_
          · intro w' hSw
            obtain ⟨sm0, sm1, sm2, sm3, sm4, sm5, sq0, sq1, sq2, sq3, sq4, sq5, sx0, sx1, sx2, sx3, sx4, sx5, sy0, sy1, sy2, sy3, sy4, sy5⟩ := hSw
            go_simp
          try simp only [List.getElem_toArray, List.getElem_cons_succ, List.getElem_cons_zero, Act.put, List.setIfInBounds_toArray, List.set_cons_zero, List.set_cons_succ]
          refine wpAnyH_take (i := 24) (v := .bool true) rfl (by kernel_rfl) (by kernel_rfl) (by kernel_rfl) (fun _ _ _ h => h) (Or.inl ⟨by rfl, ?_⟩) hHeld ?_
          · intro w' hSw
            obtain ⟨sm0, sm1, sm2, sm3, sm4, sm5, sq0, sq1, sq2, sq3, sq4, sq5, sx0, sx1, sx2, sx3, sx4, sx5, sy0, sy1, sy2, sy3, sy4, sy5⟩ := hSw
            go_simp
          try simp only [List.getElem_toArray, List.getElem_cons_succ, List.getElem_cons_zero, Act.put, List.setIfInBounds_toArray, List.set_cons_zero, List.set_cons_succ]
          refine wpAnyH_take (i := 25) (v := undef) rfl (by kernel_rfl) (by kernel_rfl) (by kernel_rfl) (fun _ _ _ h => h) (Or.inr ⟨by kernel_rfl, rfl⟩) hHeld ?_
          try simp only [List.getElem_toArray, List.getElem_cons_succ, List.getElem_cons_zero, Act.put, List.setIfInBounds_toArray, List.set_cons_zero, List.set_cons_succ]
          refine wpAnyH_take (i := 26) (v := undef) rfl (by kernel_rfl) (by kernel_rfl) (by kernel_rfl) (fun _ _ _ h => h) (Or.inr ⟨by kernel_rfl, rfl⟩) hHeld ?_
          try simp only [List.getElem_toArray, List.getElem_cons_succ, List.getElem_cons_zero, Act.put, List.setIfInBounds_toArray, List.set_cons_zero, List.set_cons_succ]
          refine wpAnyH_take (i := 27) (v := undef) rfl (by kernel_rfl) (by kernel_rfl) (by kernel_rfl) (fun _ _ _ h => h) (Or.inr ⟨by kernel_rfl, rfl⟩) hHeld ?_
          try simp only [List.getElem_toArray, List.getElem_cons_succ, List.getElem_cons_zero, Act.put, List.setIfInBounds_toArray, List.set_cons_zero, List.set_cons_succ]
          refine wpAnyH_take (i := 28) (v := undef) rfl (by kernel_rfl) (by kernel_rfl) (by kernel_rfl) (fun _ _ _ h => h) (Or.inr ⟨by kernel_rfl, rfl⟩) hHeld ?_
          try simp only [List.getElem_toArray, List.getElem_cons_succ, List.getElem_cons_zero, Act.put, List.setIfInBounds_toArray, List.set_cons_zero, List.set_cons_succ]
          refine wpAnyH_take (i := 29) (v := undef) rfl (by kernel_rfl) (by kernel_rfl) (by kernel_rfl) (fun _ _ _ h => h) (Or.inr ⟨by kernel_rfl, rfl⟩) hHeld ?_
          try simp only [List.getElem_toArray, List.getElem_cons_succ, List.getElem_cons_zero, Act.put, List.setIfInBounds_toArray, List.set_cons_zero, List.set_cons_succ]
          refine wpAnyH_take (i := 30) (v := .bool true) rfl (by kernel_rfl) (by kernel_rfl) (by kernel_rfl) (fun _ _ _ h => h) (Or.inl ⟨by rfl, ?_⟩) hHeld ?_
          · intro w' hSw
            obtain ⟨sm0, sm1, sm2, sm3, sm4, sm5, sq0, sq1, sq2, sq3, sq4, sq5, sx0, sx1, sx2, sx3, sx4, sx5, sy0, sy1, sy2, sy3, sy4, sy5⟩ := hSw
            go_simp
          try simp only [List.getElem_toArray, List.getElem_cons_succ, List.getElem_cons_zero, Act.put, List.setIfInBounds_toArray, List.set_cons_zero, List.set_cons_succ]
          refine wpAnyH_take (i := 31) (v := .bool true) rfl (by kernel_rfl) (by kernel_rfl) (by kernel_rfl) (fun _ _ _ h => h) (Or.inl ⟨by rfl, ?_⟩) hHeld ?_
          · intro w' hSw
            obtain ⟨sm0, sm1, sm2, sm3, sm4, sm5, sq0, sq1, sq2, sq3, sq4, sq5, sx0, sx1, sx2, sx3, sx4, sx5, sy0, sy1, sy2, sy3, sy4, sy5⟩ := hSw
            go_simp
          try simp only [List.getElem_toArray, List.getElem_cons_succ, List.getElem_cons_zero, Act.put, List.setIfInBounds_toArray, List.set_cons_zero, List.set_cons_succ]
          refine wpAnyH_take (i := 32) (v := .bool true) rfl (by kernel_rfl) (by kernel_rfl) (by kernel_rfl) (fun _ _ _ h => h) (Or.inl ⟨by rfl, ?_⟩) hHeld ?_
          · intro w' hSw
            obtain ⟨sm0, sm1, sm2, sm3, sm4, sm5, sq0, sq1, sq2, sq3, sq4, sq5, sx0, sx1, sx2, sx3, sx4, sx5, sy0, sy1, sy2, sy3, sy4, sy5⟩ := hSw
            go_simp
          try simp only [List.getElem_toArray, List.getElem_cons_succ, List.getElem_cons_zero, Act.put, List.setIfInBounds_toArray, List.set_cons_zero, List.set_cons_succ]
          refine wpAnyH_done (by kernel_rfl) ?_ _
          try simp only [List.getElem_toArray, List.getElem_cons_succ, List.getElem_cons_zero, Act.put, List.setIfInBounds_toArray, List.set_cons_zero, List.set_cons_succ]
          have BF := B15
          clear hHeld
          go_wp2_with fail
          go_ret
          exact ⟨rfl, BF.out⟩
      | true =>
        cases r2 with
        | false =>
          obtain ⟨PF, QF, hfa, hfb, hff⟩ := HFK.out rfl
          have HFA : Hid (∀ w1 : World, Ints w1 a cs → Ints w1 b ps → Calls Try.prog 19 #[.agg #[.int .i64 k, .int .i64 d, .int .i64 wd, .int .i64 hi, .slice a n c, .slice b m cc]] w1 fun e w' => (∃ fx fcx fy fcy, e = .returned (.agg #[.int .i64 k, .int .i64 d, .int .i64 wd, .int .i64 hi, .slice fx n fcx, .slice fy m fcy]) ∧ Ints w' fx cs ∧ Ints w' fy PF) ∧ Below w1.heap.size w1 w') := hfa
          have HFB : Hid (∀ w1 : World, Ints w1 aa cs2 → Ints w1 bb ps2 → Calls Try.prog 19 #[.agg #[.int .i64 k2, .int .i64 d2, .int .i64 wd2, .int .i64 hi2, .slice aa nn ca, .slice bb mm cb]] w1 fun e w' => (∃ fx2 fcx2 fy2 fcy2, e = .returned (.agg #[.int .i64 k2, .int .i64 d2, .int .i64 wd2, .int .i64 hi2, .slice fx2 nn fcx2, .slice fy2 mm fcy2]) ∧ Ints w' fx2 cs2 ∧ Ints w' fy2 QF) ∧ Below w1.heap.size w1 w') := hfb
          have HFF : Hid (∀ (fx : Option Addr) (fcx : Nat) (fy : Option Addr) (fcy : Nat) (fx2 : Option Addr) (fcx2 : Nat) (fy2 : Option Addr) (fcy2 : Nat) (w1 : World), Ints w1 fx cs → Ints w1 fy PF → Ints w1 fx2 cs2 → Ints w1 fy2 QF → Calls Try.prog 14 #[.agg #[.int .i64 k, .int .i64 d, .int .i64 wd, .int .i64 hi, .slice fx n fcx, .slice fy m fcy], .agg #[.int .i64 k2, .int .i64 d2, .int .i64 wd2, .int .i64 hi2, .slice fx2 nn fcx2, .slice fy2 mm fcy2]] w1 fun e w' => e = .returned (.bool true) ∧ Below w1.heap.size w1 w') := hff
          clear hfa hfb hff
          clear HFK HWI
          go_wp2_with fail
          refine wp_region_held_drew (S := fun w' => w'.cell? ⟨MB, 0, none⟩ = some (.int .i64 k) ∧ w'.cell? ⟨MB, 1, none⟩ = some (.int .i64 d) ∧ w'.cell? ⟨MB, 2, none⟩ = some (.int .i64 wd) ∧ w'.cell? ⟨MB, 3, none⟩ = some (.int .i64 hi) ∧ w'.cell? ⟨MB, 4, none⟩ = some (.slice a n c) ∧ w'.cell? ⟨MB, 5, none⟩ = some (.slice b m cc) ∧ w'.cell? ⟨QB, 0, none⟩ = some (.int .i64 k2) ∧ w'.cell? ⟨QB, 1, none⟩ = some (.int .i64 d2) ∧ w'.cell? ⟨QB, 2, none⟩ = some (.int .i64 wd2) ∧ w'.cell? ⟨QB, 3, none⟩ = some (.int .i64 hi2) ∧ w'.cell? ⟨QB, 4, none⟩ = some (.slice aa nn ca) ∧ w'.cell? ⟨QB, 5, none⟩ = some (.slice bb mm cb) ∧ w'.cell? ⟨XB, 0, none⟩ = some (.int .i64 X0) ∧ w'.cell? ⟨XB, 1, none⟩ = some (.int .i64 X1) ∧ w'.cell? ⟨XB, 2, none⟩ = some (.int .i64 X2) ∧ w'.cell? ⟨XB, 3, none⟩ = some (.int .i64 X3) ∧ w'.cell? ⟨XB, 4, none⟩ = some (.slice x 0 cx) ∧ w'.cell? ⟨XB, 5, none⟩ = some (.slice y LX cy) ∧ w'.cell? ⟨YB, 0, none⟩ = some (.int .i64 Y0) ∧ w'.cell? ⟨YB, 1, none⟩ = some (.int .i64 Y1) ∧ w'.cell? ⟨YB, 2, none⟩ = some (.int .i64 Y2) ∧ w'.cell? ⟨YB, 3, none⟩ = some (.int .i64 Y3) ∧ w'.cell? ⟨YB, 4, none⟩ = some (.slice x2 0 cx2) ∧ w'.cell? ⟨YB, 5, none⟩ = some (.slice y2 LY cy2)) (by kernel_rfl) ⟨m100, m101, m102, m103, m104, m105, q100, q101, q102, q103, q104, q105, x100, x101, x102, x103, x104, x105, y100, y101, y102, y103, y104, y105⟩ (fun hHeld => ?_)
          refine wpAnyH_take (i := 0) (v := .agg #[.int .i64 k, .int .i64 d, .int .i64 wd, .int .i64 hi, .slice a n c, .slice b m cc]) rfl (by kernel_rfl) (by kernel_rfl) (by kernel_rfl) (fun _ _ _ h => h) (Or.inl ⟨by rfl, ?_⟩) hHeld ?_
          · intro w' hSw
            obtain ⟨sm0, sm1, sm2, sm3, sm4, sm5, sq0, sq1, sq2, sq3, sq4, sq5, sx0, sx1, sx2, sx3, sx4, sx5, sy0, sy1, sy2, sy3, sy4, sy5⟩ := hSw
            go_simp
          try simp only [List.getElem_toArray, List.getElem_cons_succ, List.getElem_cons_zero, Act.put, List.setIfInBounds_toArray, List.set_cons_zero, List.set_cons_succ]
          refine wpAnyH_take (i := 1) (v := .agg #[.int .i64 k, .int .i64 d, .int .i64 wd, .int .i64 hi, .slice a n c, .slice b m cc]) rfl (by kernel_rfl) (by kernel_rfl) (by kernel_rfl) (fun _ _ _ h => h) (Or.inl ⟨by rfl, ?_⟩) hHeld ?_
          · intro w' hSw
            obtain ⟨sm0, sm1, sm2, sm3, sm4, sm5, sq0, sq1, sq2, sq3, sq4, sq5, sx0, sx1, sx2, sx3, sx4, sx5, sy0, sy1, sy2, sy3, sy4, sy5⟩ := hSw
            go_simp
          try simp only [List.getElem_toArray, List.getElem_cons_succ, List.getElem_cons_zero, Act.put, List.setIfInBounds_toArray, List.set_cons_zero, List.set_cons_succ]
          refine wpAnyH_take (i := 3) (v := .agg #[.int .i64 k, .int .i64 d, .int .i64 wd, .int .i64 hi, .slice a n c, .slice b m cc]) rfl (by kernel_rfl) (by kernel_rfl) (by kernel_rfl) (fun _ _ _ h => h) (Or.inl ⟨by rfl, ?_⟩) hHeld ?_
          · intro w' hSw
            obtain ⟨sm0, sm1, sm2, sm3, sm4, sm5, sq0, sq1, sq2, sq3, sq4, sq5, sx0, sx1, sx2, sx3, sx4, sx5, sy0, sy1, sy2, sy3, sy4, sy5⟩ := hSw
            go_simp
          try simp only [List.getElem_toArray, List.getElem_cons_succ, List.getElem_cons_zero, Act.put, List.setIfInBounds_toArray, List.set_cons_zero, List.set_cons_succ]
          refine wpAnyH_ready (rs := [2]) (by kernel_rfl) (by simp) ?_
          refine AllReadyH.cons rfl (fun K hK => ?_) AllReadyH.nil
          go_simp
          refine (HAA.out _ Md.out.i4 Md.out.i5).mono ?_
          rintro e v11 ⟨rfl, b11⟩
          have M11 : Hid (PB v11 MB k d wd hi a n c cs b m cc ps) := Md.out.kept b11
          have Q11 : Hid (PB v11 QB k2 d2 wd2 hi2 aa nn ca cs2 bb mm cb ps2) := Qd.out.kept b11
          have X11 : Hid (PB v11 XB X0 X1 X2 X3 x 0 cx [] y LX cy L1) := Xd.out.kept b11
          have Y11 : Hid (PB v11 YB Y0 Y1 Y2 Y3 x2 0 cx2 [] y2 LY cy2 L2) := Yd.out.kept b11
          have B11 : Hid (Below w.heap.size w v11) := Bd.out.trans (b11.mono Bd.out.size)
          obtain ⟨mc110, mc111, mc112, mc113, mc114, mc115⟩ := M11.out.box
          obtain ⟨qc110, qc111, qc112, qc113, qc114, qc115⟩ := Q11.out.box
          obtain ⟨xc110, xc111, xc112, xc113, xc114, xc115⟩ := X11.out.box
          obtain ⟨yc110, yc111, yc112, yc113, yc114, yc115⟩ := Y11.out.box
          refine hK.out _ _ ⟨mc110, mc111, mc112, mc113, mc114, mc115, qc110, qc111, qc112, qc113, qc114, qc115, xc110, xc111, xc112, xc113, xc114, xc115, yc110, yc111, yc112, yc113, yc114, yc115⟩ (fun hHeld => ?_)
          clear hK K
          try simp only [List.getElem_toArray, List.getElem_cons_succ, List.getElem_cons_zero, Act.put, List.setIfInBounds_toArray, List.set_cons_zero, List.set_cons_succ]
          refine wpAnyH_ready (rs := [4]) (by kernel_rfl) (by simp) ?_
          refine AllReadyH.cons rfl (fun K hK => ?_) AllReadyH.nil
          go_simp
          refine (HOS.out _ M11.out.i4 M11.out.i5).mono ?_
          rintro e v12 ⟨rfl, b12⟩
          have M12 : Hid (PB v12 MB k d wd hi a n c cs b m cc ps) := M11.out.kept b12
          have Q12 : Hid (PB v12 QB k2 d2 wd2 hi2 aa nn ca cs2 bb mm cb ps2) := Q11.out.kept b12
          have X12 : Hid (PB v12 XB X0 X1 X2 X3 x 0 cx [] y LX cy L1) := X11.out.kept b12
          have Y12 : Hid (PB v12 YB Y0 Y1 Y2 Y3 x2 0 cx2 [] y2 LY cy2 L2) := Y11.out.kept b12
          have B12 : Hid (Below w.heap.size w v12) := B11.out.trans (b12.mono B11.out.size)
          obtain ⟨mc120, mc121, mc122, mc123, mc124, mc125⟩ := M12.out.box
          obtain ⟨qc120, qc121, qc122, qc123, qc124, qc125⟩ := Q12.out.box
          obtain ⟨xc120, xc121, xc122, xc123, xc124, xc125⟩ := X12.out.box
          obtain ⟨yc120, yc121, yc122, yc123, yc124, yc125⟩ := Y12.out.box
          refine hK.out _ _ ⟨mc120, mc121, mc122, mc123, mc124, mc125, qc120, qc121, qc122, qc123, qc124, qc125, xc120, xc121, xc122, xc123, xc124, xc125, yc120, yc121, yc122, yc123, yc124, yc125⟩ (fun hHeld => ?_)
          clear hK K
          try simp only [List.getElem_toArray, List.getElem_cons_succ, List.getElem_cons_zero, Act.put, List.setIfInBounds_toArray, List.set_cons_zero, List.set_cons_succ]
          refine wpAnyH_take (i := 5) (v := .bool true) rfl (by kernel_rfl) (by kernel_rfl) (by kernel_rfl) (fun _ _ _ h => h) (Or.inl ⟨by rfl, ?_⟩) hHeld ?_
          · intro w' hSw
            obtain ⟨sm0, sm1, sm2, sm3, sm4, sm5, sq0, sq1, sq2, sq3, sq4, sq5, sx0, sx1, sx2, sx3, sx4, sx5, sy0, sy1, sy2, sy3, sy4, sy5⟩ := hSw
            go_simp
          try simp only [List.getElem_toArray, List.getElem_cons_succ, List.getElem_cons_zero, Act.put, List.setIfInBounds_toArray, List.set_cons_zero, List.set_cons_succ]
          refine wpAnyH_take (i := 6) (v := .bool true) rfl (by kernel_rfl) (by kernel_rfl) (by kernel_rfl) (fun _ _ _ h => h) (Or.inl ⟨by rfl, ?_⟩) hHeld ?_
          · intro w' hSw
            obtain ⟨sm0, sm1, sm2, sm3, sm4, sm5, sq0, sq1, sq2, sq3, sq4, sq5, sx0, sx1, sx2, sx3, sx4, sx5, sy0, sy1, sy2, sy3, sy4, sy5⟩ := hSw
            go_simp
          try simp only [List.getElem_toArray, List.getElem_cons_succ, List.getElem_cons_zero, Act.put, List.setIfInBounds_toArray, List.set_cons_zero, List.set_cons_succ]
          refine wpAnyH_take (i := 7) (v := .bool true) rfl (by kernel_rfl) (by kernel_rfl) (by kernel_rfl) (fun _ _ _ h => h) (Or.inl ⟨by rfl, ?_⟩) hHeld ?_
          · intro w' hSw
            obtain ⟨sm0, sm1, sm2, sm3, sm4, sm5, sq0, sq1, sq2, sq3, sq4, sq5, sx0, sx1, sx2, sx3, sx4, sx5, sy0, sy1, sy2, sy3, sy4, sy5⟩ := hSw
            go_simp
          try simp only [List.getElem_toArray, List.getElem_cons_succ, List.getElem_cons_zero, Act.put, List.setIfInBounds_toArray, List.set_cons_zero, List.set_cons_succ]
          refine wpAnyH_take (i := 8) (v := .bool false) rfl (by kernel_rfl) (by kernel_rfl) (by kernel_rfl) (fun _ _ _ h => h) (Or.inl ⟨by rfl, ?_⟩) hHeld ?_
          · intro w' hSw
            obtain ⟨sm0, sm1, sm2, sm3, sm4, sm5, sq0, sq1, sq2, sq3, sq4, sq5, sx0, sx1, sx2, sx3, sx4, sx5, sy0, sy1, sy2, sy3, sy4, sy5⟩ := hSw
            go_simp
          try simp only [List.getElem_toArray, List.getElem_cons_succ, List.getElem_cons_zero, Act.put, List.setIfInBounds_toArray, List.set_cons_zero, List.set_cons_succ]
          refine wpAnyH_take (i := 9) (v := .bool false) rfl (by kernel_rfl) (by kernel_rfl) (by kernel_rfl) (fun _ _ _ h => h) (Or.inl ⟨by rfl, ?_⟩) hHeld ?_
          · intro w' hSw
            obtain ⟨sm0, sm1, sm2, sm3, sm4, sm5, sq0, sq1, sq2, sq3, sq4, sq5, sx0, sx1, sx2, sx3, sx4, sx5, sy0, sy1, sy2, sy3, sy4, sy5⟩ := hSw
            go_simp
          try simp only [List.getElem_toArray, List.getElem_cons_succ, List.getElem_cons_zero, Act.put, List.setIfInBounds_toArray, List.set_cons_zero, List.set_cons_succ]
          refine wpAnyH_take (i := 10) (v := .agg #[.int .i64 k, .int .i64 d, .int .i64 wd, .int .i64 hi, .slice a n c, .slice b m cc]) rfl (by kernel_rfl) (by kernel_rfl) (by kernel_rfl) (fun _ _ _ h => h) (Or.inl ⟨by rfl, ?_⟩) hHeld ?_
          · intro w' hSw
            obtain ⟨sm0, sm1, sm2, sm3, sm4, sm5, sq0, sq1, sq2, sq3, sq4, sq5, sx0, sx1, sx2, sx3, sx4, sx5, sy0, sy1, sy2, sy3, sy4, sy5⟩ := hSw
            go_simp
          try simp only [List.getElem_toArray, List.getElem_cons_succ, List.getElem_cons_zero, Act.put, List.setIfInBounds_toArray, List.set_cons_zero, List.set_cons_succ]
          refine wpAnyH_take (i := 12) (v := .agg #[.int .i64 k2, .int .i64 d2, .int .i64 wd2, .int .i64 hi2, .slice aa nn ca, .slice bb mm cb]) rfl (by kernel_rfl) (by kernel_rfl) (by kernel_rfl) (fun _ _ _ h => h) (Or.inl ⟨by rfl, ?_⟩) hHeld ?_
          · intro w' hSw
            obtain ⟨sm0, sm1, sm2, sm3, sm4, sm5, sq0, sq1, sq2, sq3, sq4, sq5, sx0, sx1, sx2, sx3, sx4, sx5, sy0, sy1, sy2, sy3, sy4, sy5⟩ := hSw
            go_simp
          try simp only [List.getElem_toArray, List.getElem_cons_succ, List.getElem_cons_zero, Act.put, List.setIfInBounds_toArray, List.set_cons_zero, List.set_cons_succ]
          refine wpAnyH_ready (rs := [11]) (by kernel_rfl) (by simp) ?_
          refine AllReadyH.cons rfl (fun K hK => ?_) AllReadyH.nil
          go_simp
          refine (HFA.out _ M12.out.i4 M12.out.i5).mono ?_
          rintro e v13 ⟨⟨fx, fcx, fy, fcy, rfl, fi4, fi5⟩, b13⟩
          have M13 : Hid (PB v13 MB k d wd hi a n c cs b m cc ps) := M12.out.kept b13
          have Q13 : Hid (PB v13 QB k2 d2 wd2 hi2 aa nn ca cs2 bb mm cb ps2) := Q12.out.kept b13
          have X13 : Hid (PB v13 XB X0 X1 X2 X3 x 0 cx [] y LX cy L1) := X12.out.kept b13
          have Y13 : Hid (PB v13 YB Y0 Y1 Y2 Y3 x2 0 cx2 [] y2 LY cy2 L2) := Y12.out.kept b13
          have B13 : Hid (Below w.heap.size w v13) := B12.out.trans (b13.mono B12.out.size)
          obtain ⟨mc130, mc131, mc132, mc133, mc134, mc135⟩ := M13.out.box
          obtain ⟨qc130, qc131, qc132, qc133, qc134, qc135⟩ := Q13.out.box
          obtain ⟨xc130, xc131, xc132, xc133, xc134, xc135⟩ := X13.out.box
          obtain ⟨yc130, yc131, yc132, yc133, yc134, yc135⟩ := Y13.out.box
          refine hK.out _ _ ⟨mc130, mc131, mc132, mc133, mc134, mc135, qc130, qc131, qc132, qc133, qc134, qc135, xc130, xc131, xc132, xc133, xc134, xc135, yc130, yc131, yc132, yc133, yc134, yc135⟩ (fun hHeld => ?_)
          clear hK K
          try simp only [List.getElem_toArray, List.getElem_cons_succ, List.getElem_cons_zero, Act.put, List.setIfInBounds_toArray, List.set_cons_zero, List.set_cons_succ]
          refine wpAnyH_ready (rs := [13]) (by kernel_rfl) (by simp) ?_
          refine AllReadyH.cons rfl (fun K hK => ?_) AllReadyH.nil
          go_simp
          refine (HFB.out _ Q13.out.i4 Q13.out.i5).mono ?_
          rintro e v14 ⟨⟨fx2, fcx2, fy2, fcy2, rfl, fj4, fj5⟩, b14⟩
          have M14 : Hid (PB v14 MB k d wd hi a n c cs b m cc ps) := M13.out.kept b14
          have Q14 : Hid (PB v14 QB k2 d2 wd2 hi2 aa nn ca cs2 bb mm cb ps2) := Q13.out.kept b14
          have X14 : Hid (PB v14 XB X0 X1 X2 X3 x 0 cx [] y LX cy L1) := X13.out.kept b14
          have Y14 : Hid (PB v14 YB Y0 Y1 Y2 Y3 x2 0 cx2 [] y2 LY cy2 L2) := Y13.out.kept b14
          have B14 : Hid (Below w.heap.size w v14) := B13.out.trans (b14.mono B13.out.size)
          obtain ⟨mc140, mc141, mc142, mc143, mc144, mc145⟩ := M14.out.box
          obtain ⟨qc140, qc141, qc142, qc143, qc144, qc145⟩ := Q14.out.box
          obtain ⟨xc140, xc141, xc142, xc143, xc144, xc145⟩ := X14.out.box
          obtain ⟨yc140, yc141, yc142, yc143, yc144, yc145⟩ := Y14.out.box
          refine hK.out _ _ ⟨mc140, mc141, mc142, mc143, mc144, mc145, qc140, qc141, qc142, qc143, qc144, qc145, xc140, xc141, xc142, xc143, xc144, xc145, yc140, yc141, yc142, yc143, yc144, yc145⟩ (fun hHeld => ?_)
          clear hK K
          try simp only [List.getElem_toArray, List.getElem_cons_succ, List.getElem_cons_zero, Act.put, List.setIfInBounds_toArray, List.set_cons_zero, List.set_cons_succ]
          refine wpAnyH_ready (rs := [14]) (by kernel_rfl) (by simp) ?_
          refine AllReadyH.cons rfl (fun K hK => ?_) AllReadyH.nil
          go_simp
          refine (HFF.out fx fcx fy fcy fx2 fcx2 fy2 fcy2 _ (fi4.kept b14) (fi5.kept b14) fj4 fj5).mono ?_
          rintro e v15 ⟨rfl, b15⟩
          have M15 : Hid (PB v15 MB k d wd hi a n c cs b m cc ps) := M14.out.kept b15
          have Q15 : Hid (PB v15 QB k2 d2 wd2 hi2 aa nn ca cs2 bb mm cb ps2) := Q14.out.kept b15
          have X15 : Hid (PB v15 XB X0 X1 X2 X3 x 0 cx [] y LX cy L1) := X14.out.kept b15
          have Y15 : Hid (PB v15 YB Y0 Y1 Y2 Y3 x2 0 cx2 [] y2 LY cy2 L2) := Y14.out.kept b15
          have B15 : Hid (Below w.heap.size w v15) := B14.out.trans (b15.mono B14.out.size)
          obtain ⟨mc150, mc151, mc152, mc153, mc154, mc155⟩ := M15.out.box
          obtain ⟨qc150, qc151, qc152, qc153, qc154, qc155⟩ := Q15.out.box
          obtain ⟨xc150, xc151, xc152, xc153, xc154, xc155⟩ := X15.out.box
          obtain ⟨yc150, yc151, yc152, yc153, yc154, yc155⟩ := Y15.out.box
          refine hK.out _ _ ⟨mc150, mc151, mc152, mc153, mc154, mc155, qc150, qc151, qc152, qc153, qc154, qc155, xc150, xc151, xc152, xc153, xc154, xc155, yc150, yc151, yc152, yc153, yc154, yc155⟩ (fun hHeld => ?_)
          clear hK K
          try simp only [List.getElem_toArray, List.getElem_cons_succ, List.getElem_cons_zero, Act.put, List.setIfInBounds_toArray, List.set_cons_zero, List.set_cons_succ]
          refine wpAnyH_take (i := 15) (v := .bool true) rfl (by kernel_rfl) (by kernel_rfl) (by kernel_rfl) (fun _ _ _ h => h) (Or.inl ⟨by rfl, ?_⟩) hHeld ?_
          · intro w' hSw
            obtain ⟨sm0, sm1, sm2, sm3, sm4, sm5, sq0, sq1, sq2, sq3, sq4, sq5, sx0, sx1, sx2, sx3, sx4, sx5, sy0, sy1, sy2, sy3, sy4, sy5⟩ := hSw
            go_simp
          try simp only [List.getElem_toArray, List.getElem_cons_succ, List.getElem_cons_zero, Act.put, List.setIfInBounds_toArray, List.set_cons_zero, List.set_cons_succ]
          refine wpAnyH_take (i := 16) (v := .bool true) rfl (by kernel_rfl) (by kernel_rfl) (by kernel_rfl) (fun _ _ _ h => h) (Or.inl ⟨by rfl, ?_⟩) hHeld ?_
          · intro w' hSw
            obtain ⟨sm0, sm1, sm2, sm3, sm4, sm5, sq0, sq1, sq2, sq3, sq4, sq5, sx0, sx1, sx2, sx3, sx4, sx5, sy0, sy1, sy2, sy3, sy4, sy5⟩ := hSw
            go_simp
          try simp only [List.getElem_toArray, List.getElem_cons_succ, List.getElem_cons_zero, Act.put, List.setIfInBounds_toArray, List.set_cons_zero, List.set_cons_succ]
          refine wpAnyH_take (i := 17) (v := .bool true) rfl (by kernel_rfl) (by kernel_rfl) (by kernel_rfl) (fun _ _ _ h => h) (Or.inl ⟨by rfl, ?_⟩) hHeld ?_
          · intro w' hSw
            obtain ⟨sm0, sm1, sm2, sm3, sm4, sm5, sq0, sq1, sq2, sq3, sq4, sq5, sx0, sx1, sx2, sx3, sx4, sx5, sy0, sy1, sy2, sy3, sy4, sy5⟩ := hSw
            go_simp
          try simp only [List.getElem_toArray, List.getElem_cons_succ, List.getElem_cons_zero, Act.put, List.setIfInBounds_toArray, List.set_cons_zero, List.set_cons_succ]
          refine wpAnyH_take (i := 18) (v := .bool true) rfl (by kernel_rfl) (by kernel_rfl) (by kernel_rfl) (fun _ _ _ h => h) (Or.inl ⟨by rfl, ?_⟩) hHeld ?_
          · intro w' hSw
            obtain ⟨sm0, sm1, sm2, sm3, sm4, sm5, sq0, sq1, sq2, sq3, sq4, sq5, sx0, sx1, sx2, sx3, sx4, sx5, sy0, sy1, sy2, sy3, sy4, sy5⟩ := hSw
            go_simp
          try simp only [List.getElem_toArray, List.getElem_cons_succ, List.getElem_cons_zero, Act.put, List.setIfInBounds_toArray, List.set_cons_zero, List.set_cons_succ]
          refine wpAnyH_take (i := 19) (v := .bool false) rfl (by kernel_rfl) (by kernel_rfl) (by kernel_rfl) (fun _ _ _ h => h) (Or.inl ⟨by rfl, ?_⟩) hHeld ?_
          · intro w' hSw
            obtain ⟨sm0, sm1, sm2, sm3, sm4, sm5, sq0, sq1, sq2, sq3, sq4, sq5, sx0, sx1, sx2, sx3, sx4, sx5, sy0, sy1, sy2, sy3, sy4, sy5⟩ := hSw
            go_simp
          try simp only [List.getElem_toArray, List.getElem_cons_succ, List.getElem_cons_zero, Act.put, List.setIfInBounds_toArray, List.set_cons_zero, List.set_cons_succ]
          refine wpAnyH_take (i := 20) (v := .bool false) rfl (by kernel_rfl) (by kernel_rfl) (by kernel_rfl) (fun _ _ _ h => h) (Or.inl ⟨by rfl, ?_⟩) hHeld ?_
          · intro w' hSw
            obtain ⟨sm0, sm1, sm2, sm3, sm4, sm5, sq0, sq1, sq2, sq3, sq4, sq5, sx0, sx1, sx2, sx3, sx4, sx5, sy0, sy1, sy2, sy3, sy4, sy5⟩ := hSw
            go_simp
          try simp only [List.getElem_toArray, List.getElem_cons_succ, List.getElem_cons_zero, Act.put, List.setIfInBounds_toArray, List.set_cons_zero, List.set_cons_succ]
          refine wpAnyH_take (i := 21) (v := .bool false) rfl (by kernel_rfl) (by kernel_rfl) (by kernel_rfl) (fun _ _ _ h => h) (Or.inl ⟨by rfl, ?_⟩) hHeld ?_
          · intro w' hSw
            obtain ⟨sm0, sm1, sm2, sm3, sm4, sm5, sq0, sq1, sq2, sq3, sq4, sq5, sx0, sx1, sx2, sx3, sx4, sx5, sy0, sy1, sy2, sy3, sy4, sy5⟩ := hSw
            go_simp
          try simp only [List.getElem_toArray, List.getElem_cons_succ, List.getElem_cons_zero, Act.put, List.setIfInBounds_toArray, List.set_cons_zero, List.set_cons_succ]
          refine wpAnyH_take (i := 22) (v := .bool true) rfl (by kernel_rfl) (by kernel_rfl) (by kernel_rfl) (fun _ _ _ h => h) (Or.inl ⟨by rfl, ?_⟩) hHeld ?_
          · intro w' hSw
            obtain ⟨sm0, sm1, sm2, sm3, sm4, sm5, sq0, sq1, sq2, sq3, sq4, sq5, sx0, sx1, sx2, sx3, sx4, sx5, sy0, sy1, sy2, sy3, sy4, sy5⟩ := hSw
            go_simp
          try simp only [List.getElem_toArray, List.getElem_cons_succ, List.getElem_cons_zero, Act.put, List.setIfInBounds_toArray, List.set_cons_zero, List.set_cons_succ]
          refine wpAnyH_take (i := 23) (v := .bool true) rfl (by kernel_rfl) (by kernel_rfl) (by kernel_rfl) (fun _ _ _ h => h) (Or.inl ⟨by rfl, ?_⟩) hHeld ?_
          · intro w' hSw
            obtain ⟨sm0, sm1, sm2, sm3, sm4, sm5, sq0, sq1, sq2, sq3, sq4, sq5, sx0, sx1, sx2, sx3, sx4, sx5, sy0, sy1, sy2, sy3, sy4, sy5⟩ := hSw
            go_simp
          try simp only [List.getElem_toArray, List.getElem_cons_succ, List.getElem_cons_zero, Act.put, List.setIfInBounds_toArray, List.set_cons_zero, List.set_cons_succ]
          refine wpAnyH_take (i := 24) (v := .bool true) rfl (by kernel_rfl) (by kernel_rfl) (by kernel_rfl) (fun _ _ _ h => h) (Or.inl ⟨by rfl, ?_⟩) hHeld ?_
          · intro w' hSw
            obtain ⟨sm0, sm1, sm2, sm3, sm4, sm5, sq0, sq1, sq2, sq3, sq4, sq5, sx0, sx1, sx2, sx3, sx4, sx5, sy0, sy1, sy2, sy3, sy4, sy5⟩ := hSw
            go_simp
          try simp only [List.getElem_toArray, List.getElem_cons_succ, List.getElem_cons_zero, Act.put, List.setIfInBounds_toArray, List.set_cons_zero, List.set_cons_succ]
          refine wpAnyH_take (i := 25) (v := undef) rfl (by kernel_rfl) (by kernel_rfl) (by kernel_rfl) (fun _ _ _ h => h) (Or.inr ⟨by kernel_rfl, rfl⟩) hHeld ?_
          try simp only [List.getElem_toArray, List.getElem_cons_succ, List.getElem_cons_zero, Act.put, List.setIfInBounds_toArray, List.set_cons_zero, List.set_cons_succ]
          refine wpAnyH_take (i := 26) (v := undef) rfl (by kernel_rfl) (by kernel_rfl) (by kernel_rfl) (fun _ _ _ h => h) (Or.inr ⟨by kernel_rfl, rfl⟩) hHeld ?_
          try simp only [List.getElem_toArray, List.getElem_cons_succ, List.getElem_cons_zero, Act.put, List.setIfInBounds_toArray, List.set_cons_zero, List.set_cons_succ]
          refine wpAnyH_take (i := 27) (v := undef) rfl (by kernel_rfl) (by kernel_rfl) (by kernel_rfl) (fun _ _ _ h => h) (Or.inr ⟨by kernel_rfl, rfl⟩) hHeld ?_
          try simp only [List.getElem_toArray, List.getElem_cons_succ, List.getElem_cons_zero, Act.put, List.setIfInBounds_toArray, List.set_cons_zero, List.set_cons_succ]
          refine wpAnyH_take (i := 28) (v := undef) rfl (by kernel_rfl) (by kernel_rfl) (by kernel_rfl) (fun _ _ _ h => h) (Or.inr ⟨by kernel_rfl, rfl⟩) hHeld ?_
          try simp only [List.getElem_toArray, List.getElem_cons_succ, List.getElem_cons_zero, Act.put, List.setIfInBounds_toArray, List.set_cons_zero, List.set_cons_succ]
          refine wpAnyH_take (i := 29) (v := undef) rfl (by kernel_rfl) (by kernel_rfl) (by kernel_rfl) (fun _ _ _ h => h) (Or.inr ⟨by kernel_rfl, rfl⟩) hHeld ?_
          try simp only [List.getElem_toArray, List.getElem_cons_succ, List.getElem_cons_zero, Act.put, List.setIfInBounds_toArray, List.set_cons_zero, List.set_cons_succ]
          refine wpAnyH_take (i := 30) (v := .bool true) rfl (by kernel_rfl) (by kernel_rfl) (by kernel_rfl) (fun _ _ _ h => h) (Or.inl ⟨by rfl, ?_⟩) hHeld ?_
          · intro w' hSw
            obtain ⟨sm0, sm1, sm2, sm3, sm4, sm5, sq0, sq1, sq2, sq3, sq4, sq5, sx0, sx1, sx2, sx3, sx4, sx5, sy0, sy1, sy2, sy3, sy4, sy5⟩ := hSw
            go_simp
          try simp only [List.getElem_toArray, List.getElem_cons_succ, List.getElem_cons_zero, Act.put, List.setIfInBounds_toArray, List.set_cons_zero, List.set_cons_succ]
          refine wpAnyH_take (i := 31) (v := .bool true) rfl (by kernel_rfl) (by kernel_rfl) (by kernel_rfl) (fun _ _ _ h => h) (Or.inl ⟨by rfl, ?_⟩) hHeld ?_
          · intro w' hSw
            obtain ⟨sm0, sm1, sm2, sm3, sm4, sm5, sq0, sq1, sq2, sq3, sq4, sq5, sx0, sx1, sx2, sx3, sx4, sx5, sy0, sy1, sy2, sy3, sy4, sy5⟩ := hSw
            go_simp
          try simp only [List.getElem_toArray, List.getElem_cons_succ, List.getElem_cons_zero, Act.put, List.setIfInBounds_toArray, List.set_cons_zero, List.set_cons_succ]
          refine wpAnyH_take (i := 32) (v := .bool true) rfl (by kernel_rfl) (by kernel_rfl) (by kernel_rfl) (fun _ _ _ h => h) (Or.inl ⟨by rfl, ?_⟩) hHeld ?_
          · intro w' hSw
            obtain ⟨sm0, sm1, sm2, sm3, sm4, sm5, sq0, sq1, sq2, sq3, sq4, sq5, sx0, sx1, sx2, sx3, sx4, sx5, sy0, sy1, sy2, sy3, sy4, sy5⟩ := hSw
            go_simp
          try simp only [List.getElem_toArray, List.getElem_cons_succ, List.getElem_cons_zero, Act.put, List.setIfInBounds_toArray, List.set_cons_zero, List.set_cons_succ]
          refine wpAnyH_done (by kernel_rfl) ?_ _
          try simp only [List.getElem_toArray, List.getElem_cons_succ, List.getElem_cons_zero, Act.put, List.setIfInBounds_toArray, List.set_cons_zero, List.set_cons_succ]
          have BF := B15
          clear hHeld
          go_wp2_with fail
          go_ret
          exact ⟨rfl, BF.out⟩
        | true =>
          obtain ⟨PF, QF, hfa, hfb, hff⟩ := HFK.out rfl
          have HFA : Hid (∀ w1 : World, Ints w1 a cs → Ints w1 b ps → Calls Try.prog 19 #[.agg #[.int .i64 k, .int .i64 d, .int .i64 wd, .int .i64 hi, .slice a n c, .slice b m cc]] w1 fun e w' => (∃ fx fcx fy fcy, e = .returned (.agg #[.int .i64 k, .int .i64 d, .int .i64 wd, .int .i64 hi, .slice fx n fcx, .slice fy m fcy]) ∧ Ints w' fx cs ∧ Ints w' fy PF) ∧ Below w1.heap.size w1 w') := hfa
          have HFB : Hid (∀ w1 : World, Ints w1 aa cs2 → Ints w1 bb ps2 → Calls Try.prog 19 #[.agg #[.int .i64 k2, .int .i64 d2, .int .i64 wd2, .int .i64 hi2, .slice aa nn ca, .slice bb mm cb]] w1 fun e w' => (∃ fx2 fcx2 fy2 fcy2, e = .returned (.agg #[.int .i64 k2, .int .i64 d2, .int .i64 wd2, .int .i64 hi2, .slice fx2 nn fcx2, .slice fy2 mm fcy2]) ∧ Ints w' fx2 cs2 ∧ Ints w' fy2 QF) ∧ Below w1.heap.size w1 w') := hfb
          have HFF : Hid (∀ (fx : Option Addr) (fcx : Nat) (fy : Option Addr) (fcy : Nat) (fx2 : Option Addr) (fcx2 : Nat) (fy2 : Option Addr) (fcy2 : Nat) (w1 : World), Ints w1 fx cs → Ints w1 fy PF → Ints w1 fx2 cs2 → Ints w1 fy2 QF → Calls Try.prog 14 #[.agg #[.int .i64 k, .int .i64 d, .int .i64 wd, .int .i64 hi, .slice fx n fcx, .slice fy m fcy], .agg #[.int .i64 k2, .int .i64 d2, .int .i64 wd2, .int .i64 hi2, .slice fx2 nn fcx2, .slice fy2 mm fcy2]] w1 fun e w' => e = .returned (.bool true) ∧ Below w1.heap.size w1 w') := hff
          clear hfa hfb hff
          have HW : Hid (∀ (x : Option Addr) (cx : Nat) (y : Option Addr) (cy : Nat) (x2 : Option Addr) (cx2 : Nat) (y2 : Option Addr) (cy2 : Nat) (w1 : World), Ints w1 x [] → Ints w1 y L1 → Ints w1 x2 [] → Ints w1 y2 L2 → Calls Try.prog 20 #[.agg #[.int .i64 X0, .int .i64 X1, .int .i64 X2, .int .i64 X3, .slice x 0 cx, .slice y LX cy], .agg #[.int .i64 Y0, .int .i64 Y1, .int .i64 Y2, .int .i64 Y3, .slice x2 0 cx2, .slice y2 LY cy2]] w1 fun e w' => e = .returned (.bool true) ∧ Below w1.heap.size w1 w') := HWI.out rfl rfl
          clear HFK HWI
          go_wp2_with fail
          refine wp_region_held_drew (S := fun w' => w'.cell? ⟨MB, 0, none⟩ = some (.int .i64 k) ∧ w'.cell? ⟨MB, 1, none⟩ = some (.int .i64 d) ∧ w'.cell? ⟨MB, 2, none⟩ = some (.int .i64 wd) ∧ w'.cell? ⟨MB, 3, none⟩ = some (.int .i64 hi) ∧ w'.cell? ⟨MB, 4, none⟩ = some (.slice a n c) ∧ w'.cell? ⟨MB, 5, none⟩ = some (.slice b m cc) ∧ w'.cell? ⟨QB, 0, none⟩ = some (.int .i64 k2) ∧ w'.cell? ⟨QB, 1, none⟩ = some (.int .i64 d2) ∧ w'.cell? ⟨QB, 2, none⟩ = some (.int .i64 wd2) ∧ w'.cell? ⟨QB, 3, none⟩ = some (.int .i64 hi2) ∧ w'.cell? ⟨QB, 4, none⟩ = some (.slice aa nn ca) ∧ w'.cell? ⟨QB, 5, none⟩ = some (.slice bb mm cb) ∧ w'.cell? ⟨XB, 0, none⟩ = some (.int .i64 X0) ∧ w'.cell? ⟨XB, 1, none⟩ = some (.int .i64 X1) ∧ w'.cell? ⟨XB, 2, none⟩ = some (.int .i64 X2) ∧ w'.cell? ⟨XB, 3, none⟩ = some (.int .i64 X3) ∧ w'.cell? ⟨XB, 4, none⟩ = some (.slice x 0 cx) ∧ w'.cell? ⟨XB, 5, none⟩ = some (.slice y LX cy) ∧ w'.cell? ⟨YB, 0, none⟩ = some (.int .i64 Y0) ∧ w'.cell? ⟨YB, 1, none⟩ = some (.int .i64 Y1) ∧ w'.cell? ⟨YB, 2, none⟩ = some (.int .i64 Y2) ∧ w'.cell? ⟨YB, 3, none⟩ = some (.int .i64 Y3) ∧ w'.cell? ⟨YB, 4, none⟩ = some (.slice x2 0 cx2) ∧ w'.cell? ⟨YB, 5, none⟩ = some (.slice y2 LY cy2)) (by kernel_rfl) ⟨m100, m101, m102, m103, m104, m105, q100, q101, q102, q103, q104, q105, x100, x101, x102, x103, x104, x105, y100, y101, y102, y103, y104, y105⟩ (fun hHeld => ?_)
          refine wpAnyH_take (i := 0) (v := .agg #[.int .i64 k, .int .i64 d, .int .i64 wd, .int .i64 hi, .slice a n c, .slice b m cc]) rfl (by kernel_rfl) (by kernel_rfl) (by kernel_rfl) (fun _ _ _ h => h) (Or.inl ⟨by rfl, ?_⟩) hHeld ?_
          · intro w' hSw
            obtain ⟨sm0, sm1, sm2, sm3, sm4, sm5, sq0, sq1, sq2, sq3, sq4, sq5, sx0, sx1, sx2, sx3, sx4, sx5, sy0, sy1, sy2, sy3, sy4, sy5⟩ := hSw
            go_simp
          try simp only [List.getElem_toArray, List.getElem_cons_succ, List.getElem_cons_zero, Act.put, List.setIfInBounds_toArray, List.set_cons_zero, List.set_cons_succ]
          refine wpAnyH_take (i := 1) (v := .agg #[.int .i64 k, .int .i64 d, .int .i64 wd, .int .i64 hi, .slice a n c, .slice b m cc]) rfl (by kernel_rfl) (by kernel_rfl) (by kernel_rfl) (fun _ _ _ h => h) (Or.inl ⟨by rfl, ?_⟩) hHeld ?_
          · intro w' hSw
            obtain ⟨sm0, sm1, sm2, sm3, sm4, sm5, sq0, sq1, sq2, sq3, sq4, sq5, sx0, sx1, sx2, sx3, sx4, sx5, sy0, sy1, sy2, sy3, sy4, sy5⟩ := hSw
            go_simp
          try simp only [List.getElem_toArray, List.getElem_cons_succ, List.getElem_cons_zero, Act.put, List.setIfInBounds_toArray, List.set_cons_zero, List.set_cons_succ]
          refine wpAnyH_take (i := 3) (v := .agg #[.int .i64 k, .int .i64 d, .int .i64 wd, .int .i64 hi, .slice a n c, .slice b m cc]) rfl (by kernel_rfl) (by kernel_rfl) (by kernel_rfl) (fun _ _ _ h => h) (Or.inl ⟨by rfl, ?_⟩) hHeld ?_
          · intro w' hSw
            obtain ⟨sm0, sm1, sm2, sm3, sm4, sm5, sq0, sq1, sq2, sq3, sq4, sq5, sx0, sx1, sx2, sx3, sx4, sx5, sy0, sy1, sy2, sy3, sy4, sy5⟩ := hSw
            go_simp
          try simp only [List.getElem_toArray, List.getElem_cons_succ, List.getElem_cons_zero, Act.put, List.setIfInBounds_toArray, List.set_cons_zero, List.set_cons_succ]
          refine wpAnyH_ready (rs := [2]) (by kernel_rfl) (by simp) ?_
          refine AllReadyH.cons rfl (fun K hK => ?_) AllReadyH.nil
          go_simp
          refine (HAA.out _ Md.out.i4 Md.out.i5).mono ?_
          rintro e v11 ⟨rfl, b11⟩
          have M11 : Hid (PB v11 MB k d wd hi a n c cs b m cc ps) := Md.out.kept b11
          have Q11 : Hid (PB v11 QB k2 d2 wd2 hi2 aa nn ca cs2 bb mm cb ps2) := Qd.out.kept b11
          have X11 : Hid (PB v11 XB X0 X1 X2 X3 x 0 cx [] y LX cy L1) := Xd.out.kept b11
          have Y11 : Hid (PB v11 YB Y0 Y1 Y2 Y3 x2 0 cx2 [] y2 LY cy2 L2) := Yd.out.kept b11
          have B11 : Hid (Below w.heap.size w v11) := Bd.out.trans (b11.mono Bd.out.size)
          obtain ⟨mc110, mc111, mc112, mc113, mc114, mc115⟩ := M11.out.box
          obtain ⟨qc110, qc111, qc112, qc113, qc114, qc115⟩ := Q11.out.box
          obtain ⟨xc110, xc111, xc112, xc113, xc114, xc115⟩ := X11.out.box
          obtain ⟨yc110, yc111, yc112, yc113, yc114, yc115⟩ := Y11.out.box
          refine hK.out _ _ ⟨mc110, mc111, mc112, mc113, mc114, mc115, qc110, qc111, qc112, qc113, qc114, qc115, xc110, xc111, xc112, xc113, xc114, xc115, yc110, yc111, yc112, yc113, yc114, yc115⟩ (fun hHeld => ?_)
          clear hK K
          try simp only [List.getElem_toArray, List.getElem_cons_succ, List.getElem_cons_zero, Act.put, List.setIfInBounds_toArray, List.set_cons_zero, List.set_cons_succ]
          refine wpAnyH_ready (rs := [4]) (by kernel_rfl) (by simp) ?_
          refine AllReadyH.cons rfl (fun K hK => ?_) AllReadyH.nil
          go_simp
          refine (HOS.out _ M11.out.i4 M11.out.i5).mono ?_
          rintro e v12 ⟨rfl, b12⟩
          have M12 : Hid (PB v12 MB k d wd hi a n c cs b m cc ps) := M11.out.kept b12
          have Q12 : Hid (PB v12 QB k2 d2 wd2 hi2 aa nn ca cs2 bb mm cb ps2) := Q11.out.kept b12
          have X12 : Hid (PB v12 XB X0 X1 X2 X3 x 0 cx [] y LX cy L1) := X11.out.kept b12
          have Y12 : Hid (PB v12 YB Y0 Y1 Y2 Y3 x2 0 cx2 [] y2 LY cy2 L2) := Y11.out.kept b12
          have B12 : Hid (Below w.heap.size w v12) := B11.out.trans (b12.mono B11.out.size)
          obtain ⟨mc120, mc121, mc122, mc123, mc124, mc125⟩ := M12.out.box
          obtain ⟨qc120, qc121, qc122, qc123, qc124, qc125⟩ := Q12.out.box
          obtain ⟨xc120, xc121, xc122, xc123, xc124, xc125⟩ := X12.out.box
          obtain ⟨yc120, yc121, yc122, yc123, yc124, yc125⟩ := Y12.out.box
          refine hK.out _ _ ⟨mc120, mc121, mc122, mc123, mc124, mc125, qc120, qc121, qc122, qc123, qc124, qc125, xc120, xc121, xc122, xc123, xc124, xc125, yc120, yc121, yc122, yc123, yc124, yc125⟩ (fun hHeld => ?_)
          clear hK K
          try simp only [List.getElem_toArray, List.getElem_cons_succ, List.getElem_cons_zero, Act.put, List.setIfInBounds_toArray, List.set_cons_zero, List.set_cons_succ]
          refine wpAnyH_take (i := 5) (v := .bool true) rfl (by kernel_rfl) (by kernel_rfl) (by kernel_rfl) (fun _ _ _ h => h) (Or.inl ⟨by rfl, ?_⟩) hHeld ?_
          · intro w' hSw
            obtain ⟨sm0, sm1, sm2, sm3, sm4, sm5, sq0, sq1, sq2, sq3, sq4, sq5, sx0, sx1, sx2, sx3, sx4, sx5, sy0, sy1, sy2, sy3, sy4, sy5⟩ := hSw
            go_simp
          try simp only [List.getElem_toArray, List.getElem_cons_succ, List.getElem_cons_zero, Act.put, List.setIfInBounds_toArray, List.set_cons_zero, List.set_cons_succ]
          refine wpAnyH_take (i := 6) (v := .bool true) rfl (by kernel_rfl) (by kernel_rfl) (by kernel_rfl) (fun _ _ _ h => h) (Or.inl ⟨by rfl, ?_⟩) hHeld ?_
          · intro w' hSw
            obtain ⟨sm0, sm1, sm2, sm3, sm4, sm5, sq0, sq1, sq2, sq3, sq4, sq5, sx0, sx1, sx2, sx3, sx4, sx5, sy0, sy1, sy2, sy3, sy4, sy5⟩ := hSw
            go_simp
          try simp only [List.getElem_toArray, List.getElem_cons_succ, List.getElem_cons_zero, Act.put, List.setIfInBounds_toArray, List.set_cons_zero, List.set_cons_succ]
          refine wpAnyH_take (i := 7) (v := .bool true) rfl (by kernel_rfl) (by kernel_rfl) (by kernel_rfl) (fun _ _ _ h => h) (Or.inl ⟨by rfl, ?_⟩) hHeld ?_
          · intro w' hSw
            obtain ⟨sm0, sm1, sm2, sm3, sm4, sm5, sq0, sq1, sq2, sq3, sq4, sq5, sx0, sx1, sx2, sx3, sx4, sx5, sy0, sy1, sy2, sy3, sy4, sy5⟩ := hSw
            go_simp
          try simp only [List.getElem_toArray, List.getElem_cons_succ, List.getElem_cons_zero, Act.put, List.setIfInBounds_toArray, List.set_cons_zero, List.set_cons_succ]
          refine wpAnyH_take (i := 8) (v := .bool false) rfl (by kernel_rfl) (by kernel_rfl) (by kernel_rfl) (fun _ _ _ h => h) (Or.inl ⟨by rfl, ?_⟩) hHeld ?_
          · intro w' hSw
            obtain ⟨sm0, sm1, sm2, sm3, sm4, sm5, sq0, sq1, sq2, sq3, sq4, sq5, sx0, sx1, sx2, sx3, sx4, sx5, sy0, sy1, sy2, sy3, sy4, sy5⟩ := hSw
            go_simp
          try simp only [List.getElem_toArray, List.getElem_cons_succ, List.getElem_cons_zero, Act.put, List.setIfInBounds_toArray, List.set_cons_zero, List.set_cons_succ]
          refine wpAnyH_take (i := 9) (v := .bool false) rfl (by kernel_rfl) (by kernel_rfl) (by kernel_rfl) (fun _ _ _ h => h) (Or.inl ⟨by rfl, ?_⟩) hHeld ?_
          · intro w' hSw
            obtain ⟨sm0, sm1, sm2, sm3, sm4, sm5, sq0, sq1, sq2, sq3, sq4, sq5, sx0, sx1, sx2, sx3, sx4, sx5, sy0, sy1, sy2, sy3, sy4, sy5⟩ := hSw
            go_simp
          try simp only [List.getElem_toArray, List.getElem_cons_succ, List.getElem_cons_zero, Act.put, List.setIfInBounds_toArray, List.set_cons_zero, List.set_cons_succ]
          refine wpAnyH_take (i := 10) (v := .agg #[.int .i64 k, .int .i64 d, .int .i64 wd, .int .i64 hi, .slice a n c, .slice b m cc]) rfl (by kernel_rfl) (by kernel_rfl) (by kernel_rfl) (fun _ _ _ h => h) (Or.inl ⟨by rfl, ?_⟩) hHeld ?_
          · intro w' hSw
            obtain ⟨sm0, sm1, sm2, sm3, sm4, sm5, sq0, sq1, sq2, sq3, sq4, sq5, sx0, sx1, sx2, sx3, sx4, sx5, sy0, sy1, sy2, sy3, sy4, sy5⟩ := hSw
            go_simp
          try simp only [List.getElem_toArray, List.getElem_cons_succ, List.getElem_cons_zero, Act.put, List.setIfInBounds_toArray, List.set_cons_zero, List.set_cons_succ]
          refine wpAnyH_take (i := 12) (v := .agg #[.int .i64 k2, .int .i64 d2, .int .i64 wd2, .int .i64 hi2, .slice aa nn ca, .slice bb mm cb]) rfl (by kernel_rfl) (by kernel_rfl) (by kernel_rfl) (fun _ _ _ h => h) (Or.inl ⟨by rfl, ?_⟩) hHeld ?_
          · intro w' hSw
            obtain ⟨sm0, sm1, sm2, sm3, sm4, sm5, sq0, sq1, sq2, sq3, sq4, sq5, sx0, sx1, sx2, sx3, sx4, sx5, sy0, sy1, sy2, sy3, sy4, sy5⟩ := hSw
            go_simp
          try simp only [List.getElem_toArray, List.getElem_cons_succ, List.getElem_cons_zero, Act.put, List.setIfInBounds_toArray, List.set_cons_zero, List.set_cons_succ]
          refine wpAnyH_ready (rs := [11]) (by kernel_rfl) (by simp) ?_
          refine AllReadyH.cons rfl (fun K hK => ?_) AllReadyH.nil
          go_simp
          refine (HFA.out _ M12.out.i4 M12.out.i5).mono ?_
          rintro e v13 ⟨⟨fx, fcx, fy, fcy, rfl, fi4, fi5⟩, b13⟩
          have M13 : Hid (PB v13 MB k d wd hi a n c cs b m cc ps) := M12.out.kept b13
          have Q13 : Hid (PB v13 QB k2 d2 wd2 hi2 aa nn ca cs2 bb mm cb ps2) := Q12.out.kept b13
          have X13 : Hid (PB v13 XB X0 X1 X2 X3 x 0 cx [] y LX cy L1) := X12.out.kept b13
          have Y13 : Hid (PB v13 YB Y0 Y1 Y2 Y3 x2 0 cx2 [] y2 LY cy2 L2) := Y12.out.kept b13
          have B13 : Hid (Below w.heap.size w v13) := B12.out.trans (b13.mono B12.out.size)
          obtain ⟨mc130, mc131, mc132, mc133, mc134, mc135⟩ := M13.out.box
          obtain ⟨qc130, qc131, qc132, qc133, qc134, qc135⟩ := Q13.out.box
          obtain ⟨xc130, xc131, xc132, xc133, xc134, xc135⟩ := X13.out.box
          obtain ⟨yc130, yc131, yc132, yc133, yc134, yc135⟩ := Y13.out.box
          refine hK.out _ _ ⟨mc130, mc131, mc132, mc133, mc134, mc135, qc130, qc131, qc132, qc133, qc134, qc135, xc130, xc131, xc132, xc133, xc134, xc135, yc130, yc131, yc132, yc133, yc134, yc135⟩ (fun hHeld => ?_)
          clear hK K
          try simp only [List.getElem_toArray, List.getElem_cons_succ, List.getElem_cons_zero, Act.put, List.setIfInBounds_toArray, List.set_cons_zero, List.set_cons_succ]
          refine wpAnyH_ready (rs := [13]) (by kernel_rfl) (by simp) ?_
          refine AllReadyH.cons rfl (fun K hK => ?_) AllReadyH.nil
          go_simp
          refine (HFB.out _ Q13.out.i4 Q13.out.i5).mono ?_
          rintro e v14 ⟨⟨fx2, fcx2, fy2, fcy2, rfl, fj4, fj5⟩, b14⟩
          have M14 : Hid (PB v14 MB k d wd hi a n c cs b m cc ps) := M13.out.kept b14
          have Q14 : Hid (PB v14 QB k2 d2 wd2 hi2 aa nn ca cs2 bb mm cb ps2) := Q13.out.kept b14
          have X14 : Hid (PB v14 XB X0 X1 X2 X3 x 0 cx [] y LX cy L1) := X13.out.kept b14
          have Y14 : Hid (PB v14 YB Y0 Y1 Y2 Y3 x2 0 cx2 [] y2 LY cy2 L2) := Y13.out.kept b14
          have B14 : Hid (Below w.heap.size w v14) := B13.out.trans (b14.mono B13.out.size)
          obtain ⟨mc140, mc141, mc142, mc143, mc144, mc145⟩ := M14.out.box
          obtain ⟨qc140, qc141, qc142, qc143, qc144, qc145⟩ := Q14.out.box
          obtain ⟨xc140, xc141, xc142, xc143, xc144, xc145⟩ := X14.out.box
          obtain ⟨yc140, yc141, yc142, yc143, yc144, yc145⟩ := Y14.out.box
          refine hK.out _ _ ⟨mc140, mc141, mc142, mc143, mc144, mc145, qc140, qc141, qc142, qc143, qc144, qc145, xc140, xc141, xc142, xc143, xc144, xc145, yc140, yc141, yc142, yc143, yc144, yc145⟩ (fun hHeld => ?_)
          clear hK K
          try simp only [List.getElem_toArray, List.getElem_cons_succ, List.getElem_cons_zero, Act.put, List.setIfInBounds_toArray, List.set_cons_zero, List.set_cons_succ]
          refine wpAnyH_ready (rs := [14]) (by kernel_rfl) (by simp) ?_
          refine AllReadyH.cons rfl (fun K hK => ?_) AllReadyH.nil
          go_simp
          refine (HFF.out fx fcx fy fcy fx2 fcx2 fy2 fcy2 _ (fi4.kept b14) (fi5.kept b14) fj4 fj5).mono ?_
          rintro e v15 ⟨rfl, b15⟩
          have M15 : Hid (PB v15 MB k d wd hi a n c cs b m cc ps) := M14.out.kept b15
          have Q15 : Hid (PB v15 QB k2 d2 wd2 hi2 aa nn ca cs2 bb mm cb ps2) := Q14.out.kept b15
          have X15 : Hid (PB v15 XB X0 X1 X2 X3 x 0 cx [] y LX cy L1) := X14.out.kept b15
          have Y15 : Hid (PB v15 YB Y0 Y1 Y2 Y3 x2 0 cx2 [] y2 LY cy2 L2) := Y14.out.kept b15
          have B15 : Hid (Below w.heap.size w v15) := B14.out.trans (b15.mono B14.out.size)
          obtain ⟨mc150, mc151, mc152, mc153, mc154, mc155⟩ := M15.out.box
          obtain ⟨qc150, qc151, qc152, qc153, qc154, qc155⟩ := Q15.out.box
          obtain ⟨xc150, xc151, xc152, xc153, xc154, xc155⟩ := X15.out.box
          obtain ⟨yc150, yc151, yc152, yc153, yc154, yc155⟩ := Y15.out.box
          refine hK.out _ _ ⟨mc150, mc151, mc152, mc153, mc154, mc155, qc150, qc151, qc152, qc153, qc154, qc155, xc150, xc151, xc152, xc153, xc154, xc155, yc150, yc151, yc152, yc153, yc154, yc155⟩ (fun hHeld => ?_)
          clear hK K
          try simp only [List.getElem_toArray, List.getElem_cons_succ, List.getElem_cons_zero, Act.put, List.setIfInBounds_toArray, List.set_cons_zero, List.set_cons_succ]
          refine wpAnyH_take (i := 15) (v := .bool true) rfl (by kernel_rfl) (by kernel_rfl) (by kernel_rfl) (fun _ _ _ h => h) (Or.inl ⟨by rfl, ?_⟩) hHeld ?_
          · intro w' hSw
            obtain ⟨sm0, sm1, sm2, sm3, sm4, sm5, sq0, sq1, sq2, sq3, sq4, sq5, sx0, sx1, sx2, sx3, sx4, sx5, sy0, sy1, sy2, sy3, sy4, sy5⟩ := hSw
            go_simp
          try simp only [List.getElem_toArray, List.getElem_cons_succ, List.getElem_cons_zero, Act.put, List.setIfInBounds_toArray, List.set_cons_zero, List.set_cons_succ]
          refine wpAnyH_take (i := 16) (v := .bool true) rfl (by kernel_rfl) (by kernel_rfl) (by kernel_rfl) (fun _ _ _ h => h) (Or.inl ⟨by rfl, ?_⟩) hHeld ?_
          · intro w' hSw
            obtain ⟨sm0, sm1, sm2, sm3, sm4, sm5, sq0, sq1, sq2, sq3, sq4, sq5, sx0, sx1, sx2, sx3, sx4, sx5, sy0, sy1, sy2, sy3, sy4, sy5⟩ := hSw
            go_simp
          try simp only [List.getElem_toArray, List.getElem_cons_succ, List.getElem_cons_zero, Act.put, List.setIfInBounds_toArray, List.set_cons_zero, List.set_cons_succ]
          refine wpAnyH_take (i := 17) (v := .bool true) rfl (by kernel_rfl) (by kernel_rfl) (by kernel_rfl) (fun _ _ _ h => h) (Or.inl ⟨by rfl, ?_⟩) hHeld ?_
          · intro w' hSw
            obtain ⟨sm0, sm1, sm2, sm3, sm4, sm5, sq0, sq1, sq2, sq3, sq4, sq5, sx0, sx1, sx2, sx3, sx4, sx5, sy0, sy1, sy2, sy3, sy4, sy5⟩ := hSw
            go_simp
          try simp only [List.getElem_toArray, List.getElem_cons_succ, List.getElem_cons_zero, Act.put, List.setIfInBounds_toArray, List.set_cons_zero, List.set_cons_succ]
          refine wpAnyH_take (i := 18) (v := .bool true) rfl (by kernel_rfl) (by kernel_rfl) (by kernel_rfl) (fun _ _ _ h => h) (Or.inl ⟨by rfl, ?_⟩) hHeld ?_
          · intro w' hSw
            obtain ⟨sm0, sm1, sm2, sm3, sm4, sm5, sq0, sq1, sq2, sq3, sq4, sq5, sx0, sx1, sx2, sx3, sx4, sx5, sy0, sy1, sy2, sy3, sy4, sy5⟩ := hSw
            go_simp
          try simp only [List.getElem_toArray, List.getElem_cons_succ, List.getElem_cons_zero, Act.put, List.setIfInBounds_toArray, List.set_cons_zero, List.set_cons_succ]
          refine wpAnyH_take (i := 19) (v := .bool false) rfl (by kernel_rfl) (by kernel_rfl) (by kernel_rfl) (fun _ _ _ h => h) (Or.inl ⟨by rfl, ?_⟩) hHeld ?_
          · intro w' hSw
            obtain ⟨sm0, sm1, sm2, sm3, sm4, sm5, sq0, sq1, sq2, sq3, sq4, sq5, sx0, sx1, sx2, sx3, sx4, sx5, sy0, sy1, sy2, sy3, sy4, sy5⟩ := hSw
            go_simp
          try simp only [List.getElem_toArray, List.getElem_cons_succ, List.getElem_cons_zero, Act.put, List.setIfInBounds_toArray, List.set_cons_zero, List.set_cons_succ]
          refine wpAnyH_take (i := 20) (v := .bool false) rfl (by kernel_rfl) (by kernel_rfl) (by kernel_rfl) (fun _ _ _ h => h) (Or.inl ⟨by rfl, ?_⟩) hHeld ?_
          · intro w' hSw
            obtain ⟨sm0, sm1, sm2, sm3, sm4, sm5, sq0, sq1, sq2, sq3, sq4, sq5, sx0, sx1, sx2, sx3, sx4, sx5, sy0, sy1, sy2, sy3, sy4, sy5⟩ := hSw
            go_simp
          try simp only [List.getElem_toArray, List.getElem_cons_succ, List.getElem_cons_zero, Act.put, List.setIfInBounds_toArray, List.set_cons_zero, List.set_cons_succ]
          refine wpAnyH_take (i := 21) (v := .bool true) rfl (by kernel_rfl) (by kernel_rfl) (by kernel_rfl) (fun _ _ _ h => h) (Or.inl ⟨by rfl, ?_⟩) hHeld ?_
          · intro w' hSw
            obtain ⟨sm0, sm1, sm2, sm3, sm4, sm5, sq0, sq1, sq2, sq3, sq4, sq5, sx0, sx1, sx2, sx3, sx4, sx5, sy0, sy1, sy2, sy3, sy4, sy5⟩ := hSw
            go_simp
          try simp only [List.getElem_toArray, List.getElem_cons_succ, List.getElem_cons_zero, Act.put, List.setIfInBounds_toArray, List.set_cons_zero, List.set_cons_succ]
          refine wpAnyH_take (i := 22) (v := .bool false) rfl (by kernel_rfl) (by kernel_rfl) (by kernel_rfl) (fun _ _ _ h => h) (Or.inl ⟨by rfl, ?_⟩) hHeld ?_
          · intro w' hSw
            obtain ⟨sm0, sm1, sm2, sm3, sm4, sm5, sq0, sq1, sq2, sq3, sq4, sq5, sx0, sx1, sx2, sx3, sx4, sx5, sy0, sy1, sy2, sy3, sy4, sy5⟩ := hSw
            go_simp
          try simp only [List.getElem_toArray, List.getElem_cons_succ, List.getElem_cons_zero, Act.put, List.setIfInBounds_toArray, List.set_cons_zero, List.set_cons_succ]
          refine wpAnyH_take (i := 23) (v := .bool false) rfl (by kernel_rfl) (by kernel_rfl) (by kernel_rfl) (fun _ _ _ h => h) (Or.inl ⟨by rfl, ?_⟩) hHeld ?_
          · intro w' hSw
            obtain ⟨sm0, sm1, sm2, sm3, sm4, sm5, sq0, sq1, sq2, sq3, sq4, sq5, sx0, sx1, sx2, sx3, sx4, sx5, sy0, sy1, sy2, sy3, sy4, sy5⟩ := hSw
            go_simp
          try simp only [List.getElem_toArray, List.getElem_cons_succ, List.getElem_cons_zero, Act.put, List.setIfInBounds_toArray, List.set_cons_zero, List.set_cons_succ]
          refine wpAnyH_take (i := 24) (v := .bool false) rfl (by kernel_rfl) (by kernel_rfl) (by kernel_rfl) (fun _ _ _ h => h) (Or.inl ⟨by rfl, ?_⟩) hHeld ?_
          · intro w' hSw
            obtain ⟨sm0, sm1, sm2, sm3, sm4, sm5, sq0, sq1, sq2, sq3, sq4, sq5, sx0, sx1, sx2, sx3, sx4, sx5, sy0, sy1, sy2, sy3, sy4, sy5⟩ := hSw
            go_simp
          try simp only [List.getElem_toArray, List.getElem_cons_succ, List.getElem_cons_zero, Act.put, List.setIfInBounds_toArray, List.set_cons_zero, List.set_cons_succ]
          refine wpAnyH_take (i := 25) (v := .bool true) rfl (by kernel_rfl) (by kernel_rfl) (by kernel_rfl) (fun _ _ _ h => h) (Or.inl ⟨by rfl, ?_⟩) hHeld ?_
          · intro w' hSw
            obtain ⟨sm0, sm1, sm2, sm3, sm4, sm5, sq0, sq1, sq2, sq3, sq4, sq5, sx0, sx1, sx2, sx3, sx4, sx5, sy0, sy1, sy2, sy3, sy4, sy5⟩ := hSw
            go_simp
          try simp only [List.getElem_toArray, List.getElem_cons_succ, List.getElem_cons_zero, Act.put, List.setIfInBounds_toArray, List.set_cons_zero, List.set_cons_succ]
          refine wpAnyH_take (i := 26) (v := .agg #[.int .i64 X0, .int .i64 X1, .int .i64 X2, .int .i64 X3, .slice x 0 cx, .slice y LX cy]) rfl (by kernel_rfl) (by kernel_rfl) (by kernel_rfl) (fun _ _ _ h => h) (Or.inl ⟨by rfl, ?_⟩) hHeld ?_
          · intro w' hSw
            obtain ⟨sm0, sm1, sm2, sm3, sm4, sm5, sq0, sq1, sq2, sq3, sq4, sq5, sx0, sx1, sx2, sx3, sx4, sx5, sy0, sy1, sy2, sy3, sy4, sy5⟩ := hSw
            go_simp
          try simp only [List.getElem_toArray, List.getElem_cons_succ, List.getElem_cons_zero, Act.put, List.setIfInBounds_toArray, List.set_cons_zero, List.set_cons_succ]
          refine wpAnyH_take (i := 27) (v := .agg #[.int .i64 Y0, .int .i64 Y1, .int .i64 Y2, .int .i64 Y3, .slice x2 0 cx2, .slice y2 LY cy2]) rfl (by kernel_rfl) (by kernel_rfl) (by kernel_rfl) (fun _ _ _ h => h) (Or.inl ⟨by rfl, ?_⟩) hHeld ?_
          · intro w' hSw
            obtain ⟨sm0, sm1, sm2, sm3, sm4, sm5, sq0, sq1, sq2, sq3, sq4, sq5, sx0, sx1, sx2, sx3, sx4, sx5, sy0, sy1, sy2, sy3, sy4, sy5⟩ := hSw
            go_simp
          try simp only [List.getElem_toArray, List.getElem_cons_succ, List.getElem_cons_zero, Act.put, List.setIfInBounds_toArray, List.set_cons_zero, List.set_cons_succ]
          refine wpAnyH_ready (rs := [28]) (by kernel_rfl) (by simp) ?_
          refine AllReadyH.cons rfl (fun K hK => ?_) AllReadyH.nil
          go_simp
          refine (HW.out x cx y cy x2 cx2 y2 cy2 _ X15.out.i4 X15.out.i5 Y15.out.i4 Y15.out.i5).mono ?_
          rintro e v16 ⟨rfl, b16⟩
          have M16 : Hid (PB v16 MB k d wd hi a n c cs b m cc ps) := M15.out.kept b16
          have Q16 : Hid (PB v16 QB k2 d2 wd2 hi2 aa nn ca cs2 bb mm cb ps2) := Q15.out.kept b16
          have X16 : Hid (PB v16 XB X0 X1 X2 X3 x 0 cx [] y LX cy L1) := X15.out.kept b16
          have Y16 : Hid (PB v16 YB Y0 Y1 Y2 Y3 x2 0 cx2 [] y2 LY cy2 L2) := Y15.out.kept b16
          have B16 : Hid (Below w.heap.size w v16) := B15.out.trans (b16.mono B15.out.size)
          obtain ⟨mc160, mc161, mc162, mc163, mc164, mc165⟩ := M16.out.box
          obtain ⟨qc160, qc161, qc162, qc163, qc164, qc165⟩ := Q16.out.box
          obtain ⟨xc160, xc161, xc162, xc163, xc164, xc165⟩ := X16.out.box
          obtain ⟨yc160, yc161, yc162, yc163, yc164, yc165⟩ := Y16.out.box
          refine hK.out _ _ ⟨mc160, mc161, mc162, mc163, mc164, mc165, qc160, qc161, qc162, qc163, qc164, qc165, xc160, xc161, xc162, xc163, xc164, xc165, yc160, yc161, yc162, yc163, yc164, yc165⟩ (fun hHeld => ?_)
          clear hK K
          try simp only [List.getElem_toArray, List.getElem_cons_succ, List.getElem_cons_zero, Act.put, List.setIfInBounds_toArray, List.set_cons_zero, List.set_cons_succ]
          refine wpAnyH_take (i := 29) (v := .bool true) rfl (by kernel_rfl) (by kernel_rfl) (by kernel_rfl) (fun _ _ _ h => h) (Or.inl ⟨by rfl, ?_⟩) hHeld ?_
          · intro w' hSw
            obtain ⟨sm0, sm1, sm2, sm3, sm4, sm5, sq0, sq1, sq2, sq3, sq4, sq5, sx0, sx1, sx2, sx3, sx4, sx5, sy0, sy1, sy2, sy3, sy4, sy5⟩ := hSw
            go_simp
          try simp only [List.getElem_toArray, List.getElem_cons_succ, List.getElem_cons_zero, Act.put, List.setIfInBounds_toArray, List.set_cons_zero, List.set_cons_succ]
          refine wpAnyH_take (i := 30) (v := .bool true) rfl (by kernel_rfl) (by kernel_rfl) (by kernel_rfl) (fun _ _ _ h => h) (Or.inl ⟨by rfl, ?_⟩) hHeld ?_
          · intro w' hSw
            obtain ⟨sm0, sm1, sm2, sm3, sm4, sm5, sq0, sq1, sq2, sq3, sq4, sq5, sx0, sx1, sx2, sx3, sx4, sx5, sy0, sy1, sy2, sy3, sy4, sy5⟩ := hSw
            go_simp
          try simp only [List.getElem_toArray, List.getElem_cons_succ, List.getElem_cons_zero, Act.put, List.setIfInBounds_toArray, List.set_cons_zero, List.set_cons_succ]
          refine wpAnyH_take (i := 31) (v := .bool true) rfl (by kernel_rfl) (by kernel_rfl) (by kernel_rfl) (fun _ _ _ h => h) (Or.inl ⟨by rfl, ?_⟩) hHeld ?_
          · intro w' hSw
            obtain ⟨sm0, sm1, sm2, sm3, sm4, sm5, sq0, sq1, sq2, sq3, sq4, sq5, sx0, sx1, sx2, sx3, sx4, sx5, sy0, sy1, sy2, sy3, sy4, sy5⟩ := hSw
            go_simp
          try simp only [List.getElem_toArray, List.getElem_cons_succ, List.getElem_cons_zero, Act.put, List.setIfInBounds_toArray, List.set_cons_zero, List.set_cons_succ]
          refine wpAnyH_take (i := 32) (v := .bool true) rfl (by kernel_rfl) (by kernel_rfl) (by kernel_rfl) (fun _ _ _ h => h) (Or.inl ⟨by rfl, ?_⟩) hHeld ?_
          · intro w' hSw
            obtain ⟨sm0, sm1, sm2, sm3, sm4, sm5, sq0, sq1, sq2, sq3, sq4, sq5, sx0, sx1, sx2, sx3, sx4, sx5, sy0, sy1, sy2, sy3, sy4, sy5⟩ := hSw
            go_simp
          try simp only [List.getElem_toArray, List.getElem_cons_succ, List.getElem_cons_zero, Act.put, List.setIfInBounds_toArray, List.set_cons_zero, List.set_cons_succ]
          refine wpAnyH_done (by kernel_rfl) ?_ _
          try simp only [List.getElem_toArray, List.getElem_cons_succ, List.getElem_cons_zero, Act.put, List.setIfInBounds_toArray, List.set_cons_zero, List.set_cons_succ]
          have BF := B16
          clear hHeld
          go_wp2_with fail
          go_ret
          exact ⟨rfl, BF.out⟩
end Go.Proofs.Ytjiogneidioknaa
