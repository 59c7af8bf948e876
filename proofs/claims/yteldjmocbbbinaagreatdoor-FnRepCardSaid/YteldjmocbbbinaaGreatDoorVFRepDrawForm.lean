/- A format, a picture that it mostly holds, and a way, drawn. -/
import Derived.Deep.RegionHeld3
import Derived.Test.YteldjmocbbbinaaGreatDoorKFRepx1
import Derived.Test.YteldjmocbbbinaaGreatDoorVFRepFullDraw
import Derived.Test.YteldjmocbbbinaaGreatDoorVFRepRepTop
import Derived.Test.YteldjmocbbbinaaGreatDoorKFRepx0
namespace Go.Proofs.YteldjmocbbbinaaGreatDoor
open Go.RowKit

/-- some picture in memory -/
structure PicAny (w' : World) (lo : Nat) (k d wd hi : Int) (a : Option Addr) (n c : Nat) (cs : List Int) (b : Option Addr) (m cc : Nat) (ps : List Int) : Prop where
  i4 : IntsFrom w' lo a cs
  l4 : cs.length = n
  b4 : n ≤ 1000 ∧ n ≤ c
  i5 : IntsFrom w' lo b ps
  l5 : ps.length = m
  b5 : m ≤ 1000 ∧ m ≤ cc
  bd : 0 ≤ k ∧ k ≤ 100 ∧ 0 ≤ d ∧ d ≤ 100 ∧ 0 ≤ wd ∧ wd ≤ 100 ∧ 0 ≤ hi ∧ hi ≤ 100
theorem PicAny.lower {w : World} {lo lo' : Nat} {k d wd hi : Int} {a : Option Addr} {n c : Nat} {cs : List Int} {b : Option Addr} {m cc : Nat} {ps : List Int} (h : PicAny w lo k d wd hi a n c cs b m cc ps) (hl : lo' ≤ lo) : PicAny w lo' k d wd hi a n c cs b m cc ps := ⟨h.i4.lower hl, h.l4, h.b4, h.i5.lower hl, h.l5, h.b5, h.bd⟩
theorem PicAny.row {w : World} {lo M : Nat} {k d wd hi : Int} {a : Option Addr} {n c : Nat} {cs : List Int} {b : Option Addr} {m cc : Nat} {ps : List Int} (h : PicAny w lo k d wd hi a n c cs b m cc ps) (hM : M < lo) (x : Array Value) : PicAny (w.setRow M x) lo k d wd hi a n c cs b m cc ps := ⟨h.i4.row hM x, h.l4, h.b4, h.i5.row hM x, h.l5, h.b5, h.bd⟩
theorem PicAny.only {w w' : World} {lo B : Nat} {k d wd hi : Int} {a : Option Addr} {n c : Nat} {cs : List Int} {b : Option Addr} {m cc : Nat} {ps : List Int} (h : PicAny w lo k d wd hi a n c cs b m cc ps) (ho : Only B w w') (hB : B < lo) : PicAny w' lo k d wd hi a n c cs b m cc ps := ⟨h.i4.only ho hB, h.l4, h.b4, h.i5.only ho hB, h.l5, h.b5, h.bd⟩
theorem PicAny.drew1 {w : World} {lo : Nat} {k d wd hi : Int} {a : Option Addr} {n c : Nat} {cs : List Int} {b : Option Addr} {m cc : Nat} {ps : List Int} (h : PicAny w lo k d wd hi a n c cs b m cc ps) : PicAny w.drew lo k d wd hi a n c cs b m cc ps := ⟨h.i4, h.l4, h.b4, h.i5, h.l5, h.b5, h.bd⟩
theorem any_pic {w : World} {lo : Nat} {e : Ending} (h : AnyOut lo e w) : ∃ (k d wd hi : Int) (a : Option Addr) (n c : Nat) (cs : List Int) (b : Option Addr) (m cc : Nat) (ps : List Int), e = .returned (.agg #[.int .i64 k, .int .i64 d, .int .i64 wd, .int .i64 hi, .slice a n c, .slice b m cc]) ∧ PicAny w lo k d wd hi a n c cs b m cc ps := by
  obtain ⟨k, d, wd, hi, a, n, c, cs, b, m, cc, ps, he, h1, h2, h3, h4, h5, h6, h7, h8, h9⟩ := h
  exact ⟨k, d, wd, hi, a, n, c, cs, b, m, cc, ps, he, h1, h2, ⟨h3, h4⟩, h5, h6, ⟨h7, h8⟩, h9⟩
theorem out_pic {w : World} {lo : Nat} {e : Ending} (h : PicOut lo e w) : ∃ (k d wd hi : Int) (a : Option Addr) (n c : Nat) (cs : List Int) (b : Option Addr) (m cc : Nat) (ps : List Int), e = .returned (.agg #[.int .i64 k, .int .i64 d, .int .i64 wd, .int .i64 hi, .slice a n c, .slice b m cc]) ∧ PicAny w lo k d wd hi a n c cs b m cc ps := by
  obtain ⟨k, d, wd, hi, a, n, c, cs, b, m, cc, ps, he, h4, h5, hm, hwd1, hwd2, hhi1, hhi2, hn, hk1, hk2, hd⟩ := h
  have hm4 : m ≤ 400 := by rw [hm]; exact Nat.mul_le_mul hwd2 hhi2
  exact ⟨k, d, wd, hi, a, n, c, cs, b, m, cc, ps, he, h4.from, h4.len, ⟨by omega, h4.cap⟩, h5.from, h5.len, ⟨by omega, h5.cap⟩, by omega⟩
theorem dep_of {k d wd hi : Int} {cs ps : List Int} (h : Im.okB k d wd hi cs ps = true) (hk : k = 4) : d = 1 ∨ d = 2 ∨ d = 4 ∨ d = 8 := by
  by_cases hO : Im.Ok k d wd hi cs ps
  · exact Im.dep4 (hk ▸ hO.1)
  · rw [Im.okB_no hO] at h; cases h
theorem spec_rep_pic (f : Int) {w : World} {lo : Nat} {k d wd hi : Int} {a : Option Addr} {n c : Nat} {cs : List Int} {b : Option Addr} {m cc : Nat} {ps : List Int} (h : PicAny w lo k d wd hi a n c cs b m cc ps) :
    Calls Tryz.prog 6 #[.int .i64 f, .agg #[.int .i64 k, .int .i64 d, .int .i64 wd, .int .i64 hi, .slice a n c, .slice b m cc]] w fun e w' => e = .returned (.bool (Im.okB k d wd hi cs ps && repB f k d n)) ∧ Below w.heap.size w w' :=
  spec_rep f k d wd hi a n c b m cc _ dep_of w fun u bu => spec_imageOk k d wd hi a n c b m cc u cs ps (h.i4.ints.kept bu) h.l4 (by have := h.b4; omega) (h.i5.ints.kept bu) h.l5
/-- the box of a picture that is drawn, beside the reader and the result's box -/
structure FB (w wc : World) (B M q : Nat) (k d wd hi : Int) (a : Option Addr) (n c : Nat) (cs : List Int) (b : Option Addr) (m cc : Nat) (ps : List Int) : Prop where
  rd : RdAt wc B q
  only : Only B w wc
  res : wc.heap[w.heap.size]? = some (.cells #[.int .i64 0, .int .i64 0, .int .i64 0, .int .i64 0, .slice none 0 0, .slice none 0 0] 25 (0, 0))
  box : wc.heap[M]? = some (.cells #[.int .i64 k, .int .i64 d, .int .i64 wd, .int .i64 hi, .slice a n c, .slice b m cc] 25 (0, 0))
  lt : B < w.heap.size
  hM : w.heap.size < M
  pic : PicAny wc (w.heap.size + 1) k d wd hi a n c cs b m cc ps
theorem FB.call {w wc w' : World} {B M q q' : Nat} {k d wd hi : Int} {a : Option Addr} {n c : Nat} {cs : List Int} {b : Option Addr} {m cc : Nat} {ps : List Int} (h : FB w wc B M q k d wd hi a n c cs b m cc ps) (hr : RdAt w' B q') (ho : Only B wc w') : FB w w' B M q' k d wd hi a n c cs b m cc ps :=
  ⟨hr, h.only.trans ho, (ho.rest _ (lt_of_block h.res) (by have := h.lt; omega)).trans h.res, (ho.rest _ (lt_of_block h.box) (by have := h.lt; have := h.hM; omega)).trans h.box, h.lt, h.hM, h.pic.only ho (by have := h.lt; omega)⟩
theorem FB.below {w wc w' : World} {B M q : Nat} {k d wd hi : Int} {a : Option Addr} {n c : Nat} {cs : List Int} {b : Option Addr} {m cc : Nat} {ps : List Int} (h : FB w wc B M q k d wd hi a n c cs b m cc ps) (hb : Below wc.heap.size wc w') : FB w w' B M q k d wd hi a n c cs b m cc ps :=
  h.call (h.rd.kept (hb.mono h.rd.lt)) ((Only.refl B wc).grown h.rd.lt hb)
theorem FB.put {w wc : World} {B M q : Nat} {k d wd hi : Int} {a : Option Addr} {n c : Nat} {cs : List Int} {b : Option Addr} {m cc : Nat} {ps : List Int} {k2 d2 wd2 hi2 : Int} {a2 : Option Addr} {n2 c2 : Nat} {cs2 : List Int} {b2 : Option Addr} {m2 cc2 : Nat} {ps2 : List Int} (h : FB w wc B M q k d wd hi a n c cs b m cc ps) (hp : PicAny wc (M + 1) k2 d2 wd2 hi2 a2 n2 c2 cs2 b2 m2 cc2 ps2) : FB w (wc.setRow M #[.int .i64 k2, .int .i64 d2, .int .i64 wd2, .int .i64 hi2, .slice a2 n2 c2, .slice b2 m2 cc2]) B M q k2 d2 wd2 hi2 a2 n2 c2 cs2 b2 m2 cc2 ps2 :=
  ⟨h.rd.kept ((below_setRow _ _ _).mono (by have := h.lt; have := h.hM; omega)), h.only.grown h.lt ((below_setRow _ _ _).mono (by have := h.hM; omega)), (setRow_other _ _ _ _ (by have := h.hM; omega)).trans h.res, setRow_heap _ _ _ _ _ _ h.box, h.lt, h.hM, (hp.row (by omega) _).lower (by have := h.hM; omega)⟩
theorem FB.drew {w wc : World} {B M q : Nat} {k d wd hi : Int} {a : Option Addr} {n c : Nat} {cs : List Int} {b : Option Addr} {m cc : Nat} {ps : List Int} (h : FB w wc B M q k d wd hi a n c cs b m cc ps) : FB w wc.drew B M q k d wd hi a n c cs b m cc ps := ⟨h.rd.drew, ⟨h.only.below.drew, h.only.rest⟩, h.res, h.box, h.lt, h.hM, ⟨h.pic.i4, h.pic.l4, h.pic.b4, h.pic.i5, h.pic.l5, h.pic.b5, h.pic.bd⟩⟩
theorem FB.keeps {w wc : World} {B M q : Nat} {k d wd hi : Int} {a : Option Addr} {n c : Nat} {cs : List Int} {b : Option Addr} {m cc : Nat} {ps : List Int} (h : FB w wc B M q k d wd hi a n c cs b m cc ps) (x : Array Value) : (wc.setRow w.heap.size x).cell? ⟨M, 0, none⟩ = some (.int .i64 k) ∧ (wc.setRow w.heap.size x).cell? ⟨M, 1, none⟩ = some (.int .i64 d) ∧ (wc.setRow w.heap.size x).cell? ⟨M, 2, none⟩ = some (.int .i64 wd) ∧ (wc.setRow w.heap.size x).cell? ⟨M, 3, none⟩ = some (.int .i64 hi) ∧ (wc.setRow w.heap.size x).cell? ⟨M, 4, none⟩ = some (.slice a n c) ∧ (wc.setRow w.heap.size x).cell? ⟨M, 5, none⟩ = some (.slice b m cc) :=
  (box6 ((setRow_other wc w.heap.size M x (by have := h.hM; omega)).trans h.box)).1

/-- how l14Form ends -/
def FormOut (w : World) (B Q : Nat) (e : Ending) (w' : World) : Prop := (∃ (f way : Int) (k d wd hi : Int) (a : Option Addr) (n c : Nat) (cs : List Int) (b : Option Addr) (m cc : Nat) (ps : List Int), e = .returned (.tuple #[.int .i64 f, .agg #[.int .i64 k, .int .i64 d, .int .i64 wd, .int .i64 hi, .slice a n c, .slice b m cc], .int .i64 way]) ∧ (0 ≤ f ∧ f ≤ 6) ∧ PicAny w' (w.heap.size + 1) k d wd hi a n c cs b m cc ps) ∧ (∃ q, q ≤ Q ∧ RdAt w' B q) ∧ Only B w w'

set_option linter.unusedSimpArgs false in
set_option maxHeartbeats 4000000 in
set_option maxRecDepth 20000 in
theorem l14Form_any (B p : Nat) (w : World) (hr : RdAt w B p) (hp : p ≤ 100) :
    Calls Tryz.prog 12 #[.pointer (some ⟨B, 0, none⟩)] w (FormOut w B (p + 70000)) := by
  have hlt0 := hr.lt
  have HR0 : Hid (RdAt (w.alloc (.cells #[.int .i64 0, .int .i64 0, .int .i64 0, .int .i64 0, .slice none 0 0, .slice none 0 0] 25)) B p ∧ Only B w (w.alloc (.cells #[.int .i64 0, .int .i64 0, .int .i64 0, .int .i64 0, .slice none 0 0, .slice none 0 0] 25)) ∧ (w.alloc (.cells #[.int .i64 0, .int .i64 0, .int .i64 0, .int .i64 0, .slice none 0 0, .slice none 0 0] 25)).heap[w.heap.size]? = some (.cells #[.int .i64 0, .int .i64 0, .int .i64 0, .int .i64 0, .slice none 0 0, .slice none 0 0] 25 (0, 0))) := ⟨hr.alloc _, (Only.refl B w).alloc hlt0 _, heap_alloc_new _ _⟩
  clear hr
  go_enter Tryz.func12, Tryz.ntmps12
  go_wp2_with fail
  refine (pick_named B p _ _ HR0.out.1 (by omega) (by omega) (by omega)).mono ?_
  rintro e w1 ⟨v1, rfl, hv1, hR1, hO1, hs1⟩
  obtain ⟨f, hf⟩ : ∃ f : Nat, f = v1 + 1 := ⟨_, rfl⟩
  have e1 : (1 : Int) + (v1 : Int) = (f : Int) := by omega
  have f1 := wrap_i64_nat f (by omega)
  have hf1 : 1 ≤ f ∧ f ≤ 5 := by omega
  have hsz : w.heap.size < w1.heap.size := by rw [hs1]; simp
  have HA : Hid (Calls Tryz.prog 29 #[.pointer (some ⟨B, 0, none⟩)] w1 fun e w' => AnyOut w1.heap.size e w' ∧ (∃ q, q ≤ p + 1 + 6000 ∧ RdAt w' B q) ∧ Only B w1 w') := l14Any_any B (p + 1) w1 hR1 (by omega)
  have HR1 : Hid (Only B w w1 ∧ w1.heap[w.heap.size]? = some (.cells #[.int .i64 0, .int .i64 0, .int .i64 0, .int .i64 0, .slice none 0 0, .slice none 0 0] 25 (0, 0))) := ⟨HR0.out.2.1.trans hO1, (hO1.rest _ (by simp) (by omega)).trans HR0.out.2.2⟩
  clear HR0 hR1 hO1 hs1 hf hv1
  go_wp2_with fail
  refine HA.out.mono ?_
  rintro e w2 ⟨hA, ⟨q, hq, hR2⟩, hO2⟩
  obtain ⟨k, d, wd, hi, a, n, c, cs, b, m, cc, ps, rfl, hP⟩ := any_pic hA
  have hsz2 : w1.heap.size ≤ w2.heap.size := hO2.below.size
  have HF : Hid (FB w (w2.alloc (.cells #[.int .i64 k, .int .i64 d, .int .i64 wd, .int .i64 hi, .slice a n c, .slice b m cc] 25)) B w2.heap.size q k d wd hi a n c cs b m cc ps) :=
    ⟨hR2.alloc _, (HR1.out.1.trans hO2).alloc hR2.lt _, (heap_alloc_old _ _ (by omega)).trans ((hO2.rest _ hsz (by omega)).trans HR1.out.2), heap_alloc_new _ _, hlt0, by omega, (hP.only ((Only.refl B w2).alloc hR2.lt _) (by omega)).lower (by omega)⟩
  clear HA HR1 hA hR2 hO2 hP
  have HI : Hid (∀ (q : Nat) (w : World), RdAt w B q → q ≤ 90000 → Calls Tryz.prog 30 #[.pointer (some ⟨B, 0, none⟩)] w fun e w' => PicOut w.heap.size e w' ∧ (∃ q', q' ≤ q + 5000 ∧ RdAt w' B q') ∧ Only B w w') := fun q w h1 h2 => l14Image_any B q w h1 (by omega)
  have HU : Hid (∀ (q : Nat) (w : World), RdAt w B q → q ≤ 90000 → Calls Tryz.prog 31 #[.pointer (some ⟨B, 0, none⟩)] w fun e w' => PicOut w.heap.size e w' ∧ (∃ q', q' ≤ q + 5000 ∧ RdAt w' B q') ∧ Only B w w') := fun q w h1 h2 => l14Full_any B q w h1 (by omega)
  go_upto_region 3 with fail
  generalize w2.heap.size = M at *
  generalize w2.alloc (.cells #[.int .i64 k, .int .i64 d, .int .i64 wd, .int .i64 hi, .slice a n c, .slice b m cc] 25) = W2 at *
  have HF0 : Hid (∃ (k d wd hi : Int) (a : Option Addr) (n c : Nat) (cs : List Int) (b : Option Addr) (m cc : Nat) (ps : List Int), FB w W2 B M q k d wd hi a n c cs b m cc ps) := ⟨k, d, wd, hi, a, n, c, cs, b, m, cc, ps, HF.out⟩
  clear HF
  go_wp2_with fail
  go_loopw [7] (fun i wr => ∃ (j q' : Nat), i = .int .i64 (j : Int) ∧ j ≤ 6 ∧ q' ≤ q + 10000 * j ∧ ∃ (k d wd hi : Int) (a : Option Addr) (n c : Nat) (cs : List Int) (b : Option Addr) (m cc : Nat) (ps : List Int), FB w wr B M q' k d wd hi a n c cs b m cc ps) (fun i _ => 6 - (intOf i).toNat)
  case atStart => exact ⟨0, q, rfl, by omega, by omega, HF0.out⟩
  case round =>
    obtain ⟨j, q1, rfl, hj, hq1, k, d, wd, hi, a, n, c, cs, b, m, cc, ps, hB⟩ := hrel
    clear HF0
    have HB : Hid (FB w wr B M q1 k d wd hi a n c cs b m cc ps) := hB
    have HRP : Hid (Calls Tryz.prog 6 #[.int .i64 (f : Int), .agg #[.int .i64 k, .int .i64 d, .int .i64 wd, .int .i64 hi, .slice a n c, .slice b m cc]] wr fun e w' => e = .returned (.bool (Im.okB k d wd hi cs ps && repB f k d n)) ∧ Below wr.heap.size wr w') := spec_rep_pic f hB.pic
    obtain ⟨⟨z0, z1, z2, z3, z4, z5⟩, y0, y1, y2, y3, y4, y5⟩ := box6 hB.box
    clear hB
    generalize (Im.okB k d wd hi cs ps && repB f k d n) = r at *
    by_cases hj6 : j < 6
    · have hji : (j : Int) < 6 := by omega
      go_wp2_with fail
      refine HRP.out.mono ?_
      rintro e w3 ⟨rfl, b3⟩
      have HB3 : Hid (FB w w3 B M q1 k d wd hi a n c cs b m cc ps) := HB.out.below b3
      clear b3 HB HRP z0 z1 z2 z3 z4 z5 y0 y1 y2 y3 y4 y5
      obtain ⟨⟨z0, z1, z2, z3, z4, z5⟩, y0, y1, y2, y3, y4, y5⟩ := box6 HB3.out.box
      cases r with
      | true =>
        go_wp2_with fail
        refine (pick_named B q1 _ _ HB3.out.rd (by omega) (by omega) (by omega)).mono ?_
        rintro e w6 ⟨v6, rfl, hv6, hR6, hO6, hs6⟩
        have HB6 : Hid (FB w w6 B M (q1 + 1) k d wd hi a n c cs b m cc ps) := HB3.out.call hR6 hO6
        clear HB3 hR6 hO6 hs6 z0 z1 z2 z3 z4 z5 y0 y1 y2 y3 y4 y5
        by_cases hfp : f = 1
        · subst hfp
          go_wp2_with fail
          refine (pick_named B (q1 + 1) _ _ HB6.out.rd (by omega) (by omega) (by omega)).mono ?_
          rintro e w7 ⟨v7, rfl, hv7, hR7, hO7, hs7⟩
          have HB7 : Hid (FB w w7 B M (q1 + 1 + 1) k d wd hi a n c cs b m cc ps) := HB6.out.call hR7 hO7
          clear HB6 hR7 hO7 hs7
          obtain ⟨⟨z0, z1, z2, z3, z4, z5⟩, y0, y1, y2, y3, y4, y5⟩ := box6 HB7.out.box
          obtain ⟨⟨r0, r1, r2, r3, r4, r5⟩, g0, g1, g2, g3, g4, g5⟩ := box6 HB7.out.res
          go_wp2_with fail
          go_region
          rw [six_row HB7.out.res]
          obtain ⟨⟨c0, c1, c2, c3, c4, c5⟩, _⟩ := box6 (setRow_heap w7 w.heap.size _ #[.int .i64 k, .int .i64 d, .int .i64 wd, .int .i64 hi, .slice a n c, .slice b m cc] _ _ HB7.out.res)
          clear z0 z1 z2 z3 z4 z5 y0 y1 y2 y3 y4 y5 r0 r1 r2 r3 r4 r5 g0 g1 g2 g3 g4 g5
          go_wp2_with fail
          refine bodyPost_ret (v := .tuple #[.int .i64 1, .agg #[.int .i64 k, .int .i64 d, .int .i64 wd, .int .i64 hi, .slice a n c, .slice b m cc], .int .i64 (v7 : Int)]) (by simp [results, Tryz.results12, go_sem, c0, c1, c2, c3, c4, c5]) rfl ⟨⟨1, (v7 : Int), k, d, wd, hi, a, n, c, cs, b, m, cc, ps, rfl, by omega, (HB7.out.pic.row (by omega) _).drew1⟩, ⟨q1 + 1 + 1, by omega, (HB7.out.rd.kept ((below_setRow _ _ _).mono hlt0)).drew⟩, (HB7.out.only.grown hlt0 (below_setRow _ _ _)).drew1⟩
        · have hfi : ¬ (f : Int) = 1 := by omega
          have hfb : ((f : Int) == 1) = false := by simp; omega
          have HB7 : Hid (FB w w6 B M (q1 + 1) k d wd hi a n c cs b m cc ps) := HB6.out
          generalize w6 = w7 at *
          clear HB6
          obtain ⟨⟨z0, z1, z2, z3, z4, z5⟩, y0, y1, y2, y3, y4, y5⟩ := box6 HB7.out.box
          obtain ⟨⟨r0, r1, r2, r3, r4, r5⟩, g0, g1, g2, g3, g4, g5⟩ := box6 HB7.out.res
          go_wp2_with fail
          go_region
          rw [six_row HB7.out.res]
          obtain ⟨⟨c0, c1, c2, c3, c4, c5⟩, _⟩ := box6 (setRow_heap w7 w.heap.size _ #[.int .i64 k, .int .i64 d, .int .i64 wd, .int .i64 hi, .slice a n c, .slice b m cc] _ _ HB7.out.res)
          clear z0 z1 z2 z3 z4 z5 y0 y1 y2 y3 y4 y5 r0 r1 r2 r3 r4 r5 g0 g1 g2 g3 g4 g5
          go_wp2_with fail
          refine bodyPost_ret (v := .tuple #[.int .i64 (f : Int), .agg #[.int .i64 k, .int .i64 d, .int .i64 wd, .int .i64 hi, .slice a n c, .slice b m cc], .int .i64 (v6 : Int)]) (by simp [results, Tryz.results12, go_sem, c0, c1, c2, c3, c4, c5]) rfl ⟨⟨(f : Int), (v6 : Int), k, d, wd, hi, a, n, c, cs, b, m, cc, ps, rfl, by omega, (HB7.out.pic.row (by omega) _).drew1⟩, ⟨q1 + 1, by omega, (HB7.out.rd.kept ((below_setRow _ _ _).mono hlt0)).drew⟩, (HB7.out.only.grown hlt0 (below_setRow _ _ _)).drew1⟩
      | false =>
        go_wp2_with fail
        refine (HI.out q1 _ HB3.out.rd (by omega)).mono ?_
        rintro e w4 ⟨hA, ⟨q2, hq2, hR4⟩, hO4⟩
        obtain ⟨k2, d2, wd2, hi2, a2, n2, c2, cs2, b2, m2, cc2, ps2, rfl, hP⟩ := out_pic hA
        have hMs : M < w3.heap.size := lt_of_block HB3.out.box
        have hB4 := HB3.out.call hR4 hO4
        have hbx := hB4.box
        have HB4 : Hid (FB w (w4.setRow M #[.int .i64 k2, .int .i64 d2, .int .i64 wd2, .int .i64 hi2, .slice a2 n2 c2, .slice b2 m2 cc2]) B M q2 k2 d2 wd2 hi2 a2 n2 c2 cs2 b2 m2 cc2 ps2) := hB4.put (hP.lower hMs)
        have hI6 : (Tryz.prog.info? 25).map (·.size) = some (#[Value.int .i64 k2, .int .i64 d2, .int .i64 wd2, .int .i64 hi2, .slice a2 n2 c2, .slice b2 m2 cc2]).size := by kernel_rfl
        have h16 : (#[Value.int .i64 k2, .int .i64 d2, .int .i64 wd2, .int .i64 hi2, .slice a2 n2 c2, .slice b2 m2 cc2]).all (·.oneCell') = true := by simp [Value.oneCell']
        clear hA hR4 hO4 hP hB4 HB3 z0 z1 z2 z3 z4 z5 y0 y1 y2 y3 y4 y5
        by_cases hf2 : f = 2
        · have hf2b : ((f : Int) == 2) = true := by rw [hf2]; rfl
          clear hf2
          go_wp2_with (refine wpList_store_row rfl 25 (.tmp 6) (.tmp 25) rfl M #[.int .i64 k2, .int .i64 d2, .int .i64 wd2, .int .i64 hi2, .slice a2 n2 c2, .slice b2 m2 cc2] rfl rfl 25 #[.int .i64 k, .int .i64 d, .int .i64 wd, .int .i64 hi, .slice a n c, .slice b m cc] hbx hI6 rfl h16 ?_)
          clear hbx hI6 h16
          refine (HU.out q2 _ HB4.out.rd (by omega)).mono ?_
          rintro e w5 ⟨hA, ⟨q3, hq3, hR5⟩, hO5⟩
          obtain ⟨k3, d3, wd3, hi3, a3, n3, c3, cs3, b3, m3, cc3, ps3, rfl, hP⟩ := out_pic hA
          have hMs : M < (w4.setRow M #[.int .i64 k2, .int .i64 d2, .int .i64 wd2, .int .i64 hi2, .slice a2 n2 c2, .slice b2 m2 cc2]).heap.size := lt_of_block HB4.out.box
          have hB5 := HB4.out.call hR5 hO5
          have hbx := hB5.box
          have HB5 : Hid (FB w (w5.setRow M #[.int .i64 k3, .int .i64 d3, .int .i64 wd3, .int .i64 hi3, .slice a3 n3 c3, .slice b3 m3 cc3]) B M q3 k3 d3 wd3 hi3 a3 n3 c3 cs3 b3 m3 cc3 ps3) := hB5.put (hP.lower hMs)
          have hI6 : (Tryz.prog.info? 25).map (·.size) = some (#[Value.int .i64 k3, .int .i64 d3, .int .i64 wd3, .int .i64 hi3, .slice a3 n3 c3, .slice b3 m3 cc3]).size := by kernel_rfl
          have h16 : (#[Value.int .i64 k3, .int .i64 d3, .int .i64 wd3, .int .i64 hi3, .slice a3 n3 c3, .slice b3 m3 cc3]).all (·.oneCell') = true := by simp [Value.oneCell']
          clear hA hR5 hO5 hP hB5 HB4
          go_wp2_with (refine wpList_store_row rfl 25 (.tmp 6) (.tmp 29) rfl M #[.int .i64 k3, .int .i64 d3, .int .i64 wd3, .int .i64 hi3, .slice a3 n3 c3, .slice b3 m3 cc3] rfl rfl 25 #[.int .i64 k2, .int .i64 d2, .int .i64 wd2, .int .i64 hi2, .slice a2 n2 c2, .slice b2 m2 cc2] hbx hI6 rfl h16 ?_)
          go_roundw
          case rel => exact ⟨j + 1, q3, by go_num, by omega, by omega, k3, d3, wd3, hi3, a3, n3, c3, cs3, b3, m3, cc3, ps3, HB5.out⟩
          case measure => simp [intOf]; omega
        · have hf2i : ¬ (f : Int) = 2 := by omega
          have hf2b : ((f : Int) == 2) = false := by simp; omega
          go_wp2_with (refine wpList_store_row rfl 25 (.tmp 6) (.tmp 25) rfl M #[.int .i64 k2, .int .i64 d2, .int .i64 wd2, .int .i64 hi2, .slice a2 n2 c2, .slice b2 m2 cc2] rfl rfl 25 #[.int .i64 k, .int .i64 d, .int .i64 wd, .int .i64 hi, .slice a n c, .slice b m cc] hbx hI6 rfl h16 ?_)
          go_roundw
          case rel => exact ⟨j + 1, q2, by go_num, by omega, by omega, k2, d2, wd2, hi2, a2, n2, c2, cs2, b2, m2, cc2, ps2, HB4.out⟩
          case measure => simp [intOf]; omega
    · have hji : ¬ (j : Int) < 6 := by omega
      have HB3 : Hid (FB w wr B M q1 k d wd hi a n c cs b m cc ps) := HB.out
      generalize wr = w3 at *
      clear HB HRP
      go_wp2_with fail
      refine (pick_named B q1 _ _ HB3.out.rd (by omega) (by omega) (by omega)).mono ?_
      rintro e w6 ⟨v6, rfl, hv6, hR6, hO6, hs6⟩
      have HB6 : Hid (FB w w6 B M (q1 + 1) k d wd hi a n c cs b m cc ps) := HB3.out.call hR6 hO6
      clear HB3 hR6 hO6 hs6 z0 z1 z2 z3 z4 z5 y0 y1 y2 y3 y4 y5
      by_cases hfp : f = 1
      · subst hfp
        go_wp2_with fail
        refine (pick_named B (q1 + 1) _ _ HB6.out.rd (by omega) (by omega) (by omega)).mono ?_
        rintro e w7 ⟨v7, rfl, hv7, hR7, hO7, hs7⟩
        have HB7 : Hid (FB w w7 B M (q1 + 1 + 1) k d wd hi a n c cs b m cc ps) := HB6.out.call hR7 hO7
        clear HB6 hR7 hO7 hs7
        obtain ⟨⟨z0, z1, z2, z3, z4, z5⟩, y0, y1, y2, y3, y4, y5⟩ := box6 HB7.out.box
        obtain ⟨⟨r0, r1, r2, r3, r4, r5⟩, g0, g1, g2, g3, g4, g5⟩ := box6 HB7.out.res
        go_wp2_with fail
        go_region
        rw [six_row HB7.out.res]
        obtain ⟨⟨c0, c1, c2, c3, c4, c5⟩, _⟩ := box6 (setRow_heap w7 w.heap.size _ #[.int .i64 k, .int .i64 d, .int .i64 wd, .int .i64 hi, .slice a n c, .slice b m cc] _ _ HB7.out.res)
        clear z0 z1 z2 z3 z4 z5 y0 y1 y2 y3 y4 y5 r0 r1 r2 r3 r4 r5 g0 g1 g2 g3 g4 g5
        go_wp2_with fail
        refine bodyPost_ret (v := .tuple #[.int .i64 1, .agg #[.int .i64 k, .int .i64 d, .int .i64 wd, .int .i64 hi, .slice a n c, .slice b m cc], .int .i64 (v7 : Int)]) (by simp [results, Tryz.results12, go_sem, c0, c1, c2, c3, c4, c5]) rfl ⟨⟨1, (v7 : Int), k, d, wd, hi, a, n, c, cs, b, m, cc, ps, rfl, by omega, (HB7.out.pic.row (by omega) _).drew1⟩, ⟨q1 + 1 + 1, by omega, (HB7.out.rd.kept ((below_setRow _ _ _).mono hlt0)).drew⟩, (HB7.out.only.grown hlt0 (below_setRow _ _ _)).drew1⟩
      · have hfi : ¬ (f : Int) = 1 := by omega
        have hfb : ((f : Int) == 1) = false := by simp; omega
        have HB7 : Hid (FB w w6 B M (q1 + 1) k d wd hi a n c cs b m cc ps) := HB6.out
        generalize w6 = w7 at *
        clear HB6
        obtain ⟨⟨z0, z1, z2, z3, z4, z5⟩, y0, y1, y2, y3, y4, y5⟩ := box6 HB7.out.box
        obtain ⟨⟨r0, r1, r2, r3, r4, r5⟩, g0, g1, g2, g3, g4, g5⟩ := box6 HB7.out.res
        go_wp2_with fail
        go_region
        rw [six_row HB7.out.res]
        obtain ⟨⟨c0, c1, c2, c3, c4, c5⟩, _⟩ := box6 (setRow_heap w7 w.heap.size _ #[.int .i64 k, .int .i64 d, .int .i64 wd, .int .i64 hi, .slice a n c, .slice b m cc] _ _ HB7.out.res)
        clear z0 z1 z2 z3 z4 z5 y0 y1 y2 y3 y4 y5 r0 r1 r2 r3 r4 r5 g0 g1 g2 g3 g4 g5
        go_wp2_with fail
        refine bodyPost_ret (v := .tuple #[.int .i64 (f : Int), .agg #[.int .i64 k, .int .i64 d, .int .i64 wd, .int .i64 hi, .slice a n c, .slice b m cc], .int .i64 (v6 : Int)]) (by simp [results, Tryz.results12, go_sem, c0, c1, c2, c3, c4, c5]) rfl ⟨⟨(f : Int), (v6 : Int), k, d, wd, hi, a, n, c, cs, b, m, cc, ps, rfl, by omega, (HB7.out.pic.row (by omega) _).drew1⟩, ⟨q1 + 1, by omega, (HB7.out.rd.kept ((below_setRow _ _ _).mono hlt0)).drew⟩, (HB7.out.only.grown hlt0 (below_setRow _ _ _)).drew1⟩

/-- a format and a picture, drawn -/
def RepDrawn (w : World) (e : Ending) (w' : World) : Prop := (∃ (f : Int) (k d wd hi : Int) (a : Option Addr) (n c : Nat) (cs : List Int) (b : Option Addr) (m cc : Nat) (ps : List Int), e = .returned (.tuple #[.int .i64 f, .agg #[.int .i64 k, .int .i64 d, .int .i64 wd, .int .i64 hi, .slice a n c, .slice b m cc]]) ∧ (0 ≤ f ∧ f ≤ 6) ∧ PicAny w' w.heap.size k d wd hi a n c cs b m cc ps) ∧ Below w.heap.size w w'
set_option maxHeartbeats 4000000 in
set_option maxRecDepth 20000 in
theorem drawRep_any (a0 : Option Addr) (len cap : Nat) (w : World) (h : Code8 w a0 len cap) :
    Calls Tryz.prog 4 #[.slice a0 len cap] w (RepDrawn w) := by
  obtain ⟨W0, hW0⟩ : ∃ W0, W0 = w.alloc (.cells #[.int .i64 0, .int .i64 0, .int .i64 0, .int .i64 0, .slice none 0 0, .slice none 0 0] 25) := ⟨_, rfl⟩
  have hs0 : w.heap.size < W0.heap.size := by rw [hW0]; simp
  have hB0 : Below w.heap.size w W0 := by rw [hW0]; exact (Below.refl _ _).alloc (Nat.le_refl _) _
  have HZ0 : Hid (W0.heap[w.heap.size]? = some (.cells #[.int .i64 0, .int .i64 0, .int .i64 0, .int .i64 0, .slice none 0 0, .slice none 0 0] 25 (0, 0))) := by rw [hW0]; exact heap_alloc_new _ _
  have HOP : Hid (Calls Tryz.prog 11 #[.slice a0 len cap] W0 fun e w' => e = .returned (.pointer (some ⟨W0.heap.size, 0, none⟩)) ∧ RdAt w' W0.heap.size 0 ∧ Below W0.heap.size W0 w') := open_any a0 len cap W0 (h.kept hB0)
  have HB0 : Hid (Below w.heap.size w W0) := hB0
  clear h hB0
  go_enter Tryz.func4, Tryz.ntmps4
  go_upto_region 1 with fail
  rw [← hW0]
  clear hW0
  go_wp2_with fail
  refine HOP.out.mono ?_
  rintro e w1 ⟨rfl, hR, b1⟩
  have hR1 := hR.lt
  have HAN : Hid (Calls Tryz.prog 12 #[.pointer (some ⟨W0.heap.size, 0, none⟩)] w1 (FormOut w1 W0.heap.size (0 + 70000))) := l14Form_any W0.heap.size 0 w1 hR (by omega)
  have HB1 : Hid (Below W0.heap.size W0 w1) := b1
  have hsz1 := b1.size
  clear HOP hR b1
  go_wp2_with fail
  refine HAN.out.mono ?_
  rintro e w3 ⟨⟨f, way, k, d, wd, hi, a, n, c, cs, b, m, cc, ps, rfl, hf, P⟩, ⟨q, hq, hR3⟩, hO3⟩
  have hsz3 : w1.heap.size ≤ w3.heap.size := hO3.below.size
  have HK : Hid (KX w (w3.alloc (.cells #[.int .i64 k, .int .i64 d, .int .i64 wd, .int .i64 hi, .slice a n c, .slice b m cc] 25)) W0.heap.size w.heap.size w3.heap.size w1.heap.size q k d wd hi a n c cs b m cc ps) :=
    ⟨hR3.alloc _, (heap_alloc_old _ _ (by omega)).trans ((hO3.rest _ (by omega) (by omega)).trans ((HB1.out.block _ (by omega)).trans HZ0.out)), heap_alloc_new _ _, (P.i4.lower (by omega)).old _, (P.i5.lower (by omega)).old _, (HB0.out.trans ((HB1.out.mono (by omega)).trans (hO3.below.mono (by omega)))).alloc (by omega) _, by omega, by omega, by omega, by omega, by omega⟩
  have hRX : w.heap.size ≠ w3.heap.size := by omega
  have HL : Hid (cs.length = n ∧ (n ≤ 1000 ∧ n ≤ c) ∧ ps.length = m ∧ (m ≤ 1000 ∧ m ≤ cc) ∧ (0 ≤ k ∧ k ≤ 100 ∧ 0 ≤ d ∧ d ≤ 100 ∧ 0 ≤ wd ∧ wd ≤ 100 ∧ 0 ≤ hi ∧ hi ≤ 100)) := ⟨P.l4, P.b4, P.l5, P.b5, P.bd⟩
  clear HAN P hR3 hO3 HB0 HB1 HZ0 hsz3 hR1
  go_upto_region 3 with fail
  generalize w3.alloc (.cells #[.int .i64 k, .int .i64 d, .int .i64 wd, .int .i64 hi, .slice a n c, .slice b m cc] 25) = W4 at *
  generalize w3.heap.size = X at *
  generalize w1.heap.size = lo at *
  generalize W0.heap.size = B at *
  go_wp2_with fail
  refine (pick_named B q _ _ HK.out.rd (by omega) (by omega) (by omega)).mono ?_
  rintro e w4 ⟨v4, rfl, hv4, hR4, hO4, hs4⟩
  have HK4 : Hid (KX w w4 B w.heap.size X lo (q + 1) k d wd hi a n c cs b m cc ps) := HK.out.pick hR4 hO4
  clear HK hR4 hO4 hs4
  have HKD : Hid (KX w w4.drew B w.heap.size X lo (q + 1) k d wd hi a n c cs b m cc ps) := HK4.out.drew
  obtain ⟨⟨z0, z1, z2, z3, z4, z5⟩, y0, y1, y2, y3, y4, y5⟩ := box6 HK4.out.box
  obtain ⟨⟨r0, r1, r2, r3, r4, r5⟩, g0, g1, g2, g3, g4, g5⟩ := box6 HK4.out.res
  clear y0 y1 y2 y3 y4 y5
  by_cases h0 : v4 = 0
  · subst h0
    go_wp2_with fail
    go_region_held3 (fun w' => w'.cell? ⟨X, 0, none⟩ = some (.int .i64 k) ∧ w'.cell? ⟨X, 1, none⟩ = some (.int .i64 d) ∧ w'.cell? ⟨X, 2, none⟩ = some (.int .i64 wd) ∧ w'.cell? ⟨X, 3, none⟩ = some (.int .i64 hi) ∧ w'.cell? ⟨X, 4, none⟩ = some (.slice a n c) ∧ w'.cell? ⟨X, 5, none⟩ = some (.slice b m cc)) (first | go_keep | (rw [six_row HK6.out.res]; exact row_keeps HK6.out hRX _)) (first | (go_at_call 13; refine (pick_named B (q + 1) _ _ HKD.out.rd (by omega) (by omega) (by omega)).mono ?_; rintro e w6 ⟨v6, rfl, hv6, hR6, hO6, hs6⟩; have HK6 : Hid (KX w w6 B w.heap.size X lo (q + 1 + 1) k d wd hi a n c cs b m cc ps) := HKD.out.pick hR6 hO6; obtain ⟨⟨b0, b1, b2, b3, b4, b5⟩, _⟩ := box6 HK6.out.box; obtain ⟨⟨s0, s1, s2, s3, s4, s5⟩, t0, t1, t2, t3, t4, t5⟩ := box6 HK6.out.res; clear hR6 hO6 hs6))
    all_goals
      rw [six_row HK6.out.res]
      clear r0 r1 r2 r3 r4 r5 g0 g1 g2 g3 g4 g5 b0 b1 b2 b3 b4 b5 z0 z1 z2 z3 z4 z5 s0 s1 s2 s3 s4 s5 t0 t1 t2 t3 t4 t5
      obtain ⟨⟨c0, c1, c2, c3, c4, c5⟩, _⟩ := box6 (setRow_heap w6 w.heap.size _ #[.int .i64 k, .int .i64 d, .int .i64 wd, .int .i64 hi, .slice a n c, .slice b m cc] _ _ HK6.out.res)
      obtain ⟨g1, g2, g3, g4, g5⟩ := HL.out
      go_wp2_with fail
      refine bodyPost_ret (v := .tuple #[.int .i64 (v6 : Int), .agg #[.int .i64 k, .int .i64 d, .int .i64 wd, .int .i64 hi, .slice a n c, .slice b m cc]]) (by simp [results, Tryz.results4, go_sem, c0, c1, c2, c3, c4, c5]) rfl ⟨⟨(v6 : Int), k, d, wd, hi, a, n, c, cs, b, m, cc, ps, rfl, by omega, (HK6.out.i4.row HK6.out.hRlo _).lower (Nat.le_of_lt HK6.out.hRlo), g1, g2, (HK6.out.i5.row HK6.out.hRlo _).lower (Nat.le_of_lt HK6.out.hRlo), g3, g4, g5⟩, HK6.out.bel.trans ((below_setRow _ _ _).mono (Nat.le_refl _))⟩
  · have h0i : ¬ (v4 : Int) = 0 := by omega
    have h0b : ((v4 : Int) == 0) = false := by rw [beq_eq_false_iff_ne]; omega
    go_wp2_with fail
    go_region_held3 (fun w' => w'.cell? ⟨X, 0, none⟩ = some (.int .i64 k) ∧ w'.cell? ⟨X, 1, none⟩ = some (.int .i64 d) ∧ w'.cell? ⟨X, 2, none⟩ = some (.int .i64 wd) ∧ w'.cell? ⟨X, 3, none⟩ = some (.int .i64 hi) ∧ w'.cell? ⟨X, 4, none⟩ = some (.slice a n c) ∧ w'.cell? ⟨X, 5, none⟩ = some (.slice b m cc)) (first | go_keep | (rw [six_row HK4.out.res]; exact row_keeps HK4.out hRX _)) (fail)
    rw [six_row HK4.out.res]
    clear r0 r1 r2 r3 r4 r5 g0 g1 g2 g3 g4 g5 z0 z1 z2 z3 z4 z5
    obtain ⟨⟨c0, c1, c2, c3, c4, c5⟩, _⟩ := box6 (setRow_heap w4 w.heap.size _ #[.int .i64 k, .int .i64 d, .int .i64 wd, .int .i64 hi, .slice a n c, .slice b m cc] _ _ HK4.out.res)
    obtain ⟨g1, g2, g3, g4, g5⟩ := HL.out
    go_wp2_with fail
    refine bodyPost_ret (v := .tuple #[.int .i64 f, .agg #[.int .i64 k, .int .i64 d, .int .i64 wd, .int .i64 hi, .slice a n c, .slice b m cc]]) (by simp [results, Tryz.results4, go_sem, c0, c1, c2, c3, c4, c5]) rfl ⟨⟨f, k, d, wd, hi, a, n, c, cs, b, m, cc, ps, rfl, hf, (HK4.out.i4.row HK4.out.hRlo _).lower (Nat.le_of_lt HK4.out.hRlo), g1, g2, (HK4.out.i5.row HK4.out.hRlo _).lower (Nat.le_of_lt HK4.out.hRlo), g3, g4, g5⟩, (HK4.out.bel.trans ((below_setRow _ _ _).mono (Nat.le_refl _))).drew⟩
end Go.Proofs.YteldjmocbbbinaaGreatDoor
